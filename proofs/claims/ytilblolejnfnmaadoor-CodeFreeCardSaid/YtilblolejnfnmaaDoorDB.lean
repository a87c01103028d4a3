/- CodeTotal. -/
import Derived.Test.YtilblolejnfnmaaDoorDA
namespace Go.Proofs.YtilblolejnfnmaaDoor
open Go.RowKit Go.Shelf

/-- The four comparisons, and what the law makes of them. -/
def Bad4 (x u e g : Int) : Prop := (e = 3 ∧ x = 0 ∧ g = 3 ∧ u = 0) ∨ (e = 0 ∧ g = 3 ∧ u = 0) ∨ (e = 3 ∧ x = 0 ∧ g = 0)
structure Good4 (xa xb xc : Txt) (x y u v e f g h : Int) : Prop where
  gz : e = 0 ∧ f = 0 ∧ g = 0 ∧ h = 0
  gy : y = -x
  gx : x = -1 ∨ x = 0 ∨ x = 1
  gu : u = -1 ∨ u = 0 ∨ u = 1
  gv : x ≤ 0 → u ≤ 0 → v ≤ 0
  geq : x = 0 ↔ xa = xb
  gw : ∃ p q, (∀ W, Lw W → Calls Tryd.prog 13 #[.string xc.1, .string xa.1] W fun e w' => e = .returned (.bool p) ∧ Below W.heap.size W w') ∧ (∀ W, Lw W → Calls Tryd.prog 13 #[.string xb.1, .string xa.1] W fun e w' => e = .returned (.bool q) ∧ Below W.heap.size W w') ∧ (x ≤ 0 → u ≤ 0 → p = true → q = true)
def CmpC (a b : Txt) (x e : Int) : Prop := ∀ W, Lw W → Calls Tryd.prog 12 #[.string a.1, .string b.1] W fun z w' => z = .returned (.tuple #[.int .i64 x, .int .i64 e]) ∧ Below W.heap.size W w'
theorem str_ne {a b : Txt} (h : a ≠ b) : (a.1.toList == b.1.toList) = false := by
  rw [ByteArray.toList_eq, ByteArray.toList_eq, beq_eq_false_iff_ne]
  exact fun g => h (Txt.ext g)
set_option maxRecDepth 100000 in
set_option maxHeartbeats 8000000 in
theorem total_walk (xa xb xc : Txt) (x y u v e f g h : Int) (w : World) (hw : Lw w)
    (da : decide (100 < (xa.1.size : Int)) = false) (db : decide (100 < (xb.1.size : Int)) = false) (dc : decide (100 < (xc.1.size : Int)) = false)
    (c1 : CmpC xa xb x e) (c2 : CmpC xb xa y f) (c3 : CmpC xb xc u g) (c4 : CmpC xa xc v h) (cse : Hid (Bad4 x u e g ∨ Good4 xa xb xc x y u v e f g h)) :
    Calls Tryd.prog 5 #[.string xa.1, .string xb.1, .string xc.1] w fun e w' => e = .returned (.bool true) ∧ Below w.heap.size w w' := by
  have AW := Lib.hid (awake_any w hw)
  have HW := Lib.hid hw
  have C1 := Lib.hid c1
  have C2 := Lib.hid c2
  have C3 := Lib.hid c3
  have C4 := Lib.hid c4
  clear hw c1 c2 c3 c4
  go_enter Tryd.func5, Tryd.ntmps5
  go_wp2_with fail
  refine AW.out.mono ?_; rintro e w1 ⟨rfl, b1⟩
  have B1 := Lib.hid b1
  clear b1 AW
  go_wp2_with fail
  refine (C1.out w1 (HW.out.below B1.out HW.out.n0)).mono ?_; rintro e w2 ⟨rfl, b2⟩
  have B2 := Lib.hid (B1.out.trans (b2.mono B1.out.size))
  clear b2 C1
  go_wp2_with fail
  refine (C2.out w2 (HW.out.below B2.out HW.out.n0)).mono ?_; rintro e w3 ⟨rfl, b3⟩
  have B3 := Lib.hid (B2.out.trans (b3.mono B2.out.size))
  clear b3 C2
  go_wp2_with fail
  refine (C3.out w3 (HW.out.below B3.out HW.out.n0)).mono ?_; rintro e w4 ⟨rfl, b4⟩
  have B4 := Lib.hid (B3.out.trans (b4.mono B3.out.size))
  clear b4 C3
  go_wp2_with fail
  refine (C4.out w4 (HW.out.below B4.out HW.out.n0)).mono ?_; rintro e w5 ⟨rfl, b5⟩
  have B5 := Lib.hid (B4.out.trans (b5.mono B4.out.size))
  clear b5 C4 B1 B2 B3 B4
  rcases cse.out with (⟨rfl, rfl, rfl, rfl⟩ | ⟨rfl, rfl, rfl⟩ | ⟨rfl, rfl, rfl⟩) | G
  · clear cse
    go_wp2_with fail
    go_ret
    exact ⟨rfl, B5.out⟩
  · clear cse
    go_wp2_with fail
    go_ret
    exact ⟨rfl, B5.out⟩
  · clear cse
    go_wp2_with fail
    go_ret
    exact ⟨rfl, B5.out⟩
  · clear cse
    obtain ⟨⟨rfl, rfl, rfl, rfl⟩, rfl, hx, hu, hv, heq, p, q, wp, wq, hpq⟩ := G
    have HWP := Lib.hid wp
    have HWQ := Lib.hid wq
    have HPQ := Lib.hid hpq
    have NE := Lib.hid (fun (h : x ≠ 0) => str_ne (fun g => h (heq.2 g)))
    have EQ := Lib.hid heq
    have HV := Lib.hid hv
    clear wp wq hpq heq hv
    rcases hx with rfl | rfl | rfl
    · have ne := NE.out (by decide)
      rcases hu with hu | hu | rfl
      rotate_right
      · clear NE EQ HV HPQ
        go_wp2_with fail
        go_ret
        exact ⟨rfl, B5.out⟩
      all_goals
        subst hu
        have v0 := HV.out (by decide) (by decide)
        have dv : decide (0 < v) = false := by simpa using v0
        have PQ := Lib.hid (HPQ.out (by decide) (by decide))
        clear v0 NE EQ HV HPQ
        go_wp2_with fail
        refine (HWP.out w5 (HW.out.below B5.out HW.out.n0)).mono ?_; rintro e w6 ⟨rfl, b6⟩
        have B6 := Lib.hid (B5.out.trans (b6.mono B5.out.size))
        clear b6 B5 HWP
        cases hp : p with
        | false =>
          clear PQ hp
          go_wp2_with fail
          go_ret
          exact ⟨rfl, B6.out⟩
        | true =>
          have hq := PQ.out hp
          clear PQ hp
          subst hq
          go_wp2_with fail
          refine (HWQ.out w6 (HW.out.below B6.out HW.out.n0)).mono ?_; rintro e w7 ⟨rfl, b7⟩
          have B7 := Lib.hid (B6.out.trans (b7.mono B6.out.size))
          clear b7 B6 HWQ
          go_wp2_with fail
          go_ret
          exact ⟨rfl, B7.out⟩
    · obtain rfl := EQ.out.1 rfl
      rcases hu with hu | hu | rfl
      rotate_right
      · clear NE EQ HV HPQ
        go_wp2_with fail
        go_ret
        exact ⟨rfl, B5.out⟩
      all_goals
        subst hu
        have v0 := HV.out (by decide) (by decide)
        have dv : decide (0 < v) = false := by simpa using v0
        have PQ := Lib.hid (HPQ.out (by decide) (by decide))
        clear v0 NE EQ HV HPQ
        go_wp2_with fail
        refine (HWP.out w5 (HW.out.below B5.out HW.out.n0)).mono ?_; rintro e w6 ⟨rfl, b6⟩
        have B6 := Lib.hid (B5.out.trans (b6.mono B5.out.size))
        clear b6 B5 HWP
        cases hp : p with
        | false =>
          clear PQ hp
          go_wp2_with fail
          go_ret
          exact ⟨rfl, B6.out⟩
        | true =>
          have hq := PQ.out hp
          clear PQ hp
          subst hq
          go_wp2_with fail
          refine (HWQ.out w6 (HW.out.below B6.out HW.out.n0)).mono ?_; rintro e w7 ⟨rfl, b7⟩
          have B7 := Lib.hid (B6.out.trans (b7.mono B6.out.size))
          clear b7 B6 HWQ
          go_wp2_with fail
          go_ret
          exact ⟨rfl, B7.out⟩
    · have ne := NE.out (by decide)
      clear NE EQ HV HPQ
      rcases hu with rfl | rfl | rfl
      all_goals
        go_wp2_with fail
        go_ret
        exact ⟨rfl, B5.out⟩
set_option maxRecDepth 100000 in
set_option maxHeartbeats 4000000 in
theorem total_any (a b c : ByteArray) (w : World) (hw : Lw w) : Calls Tryd.prog 5 #[.string a, .string b, .string c] w fun e w' => e = .returned (.bool true) ∧ Below w.heap.size w w' := by
  have AW := Lib.hid (awake_any w hw)
  have HW := Lib.hid hw
  clear hw
  by_cases la : 100 < a.size
  · have d : decide (100 < (a.size : Int)) = true := by simpa using (by omega : (100 : Int) < (a.size : Int))
    clear la
    go_enter Tryd.func5, Tryd.ntmps5
    go_wp2_with fail
    refine AW.out.mono ?_; rintro e w1 ⟨rfl, b1⟩
    have B1 := Lib.hid b1
    clear b1
    go_wp2_with fail
    go_ret
    exact ⟨rfl, B1.out⟩
  have da : decide (100 < (a.size : Int)) = false := by simpa using (by omega : (a.size : Int) ≤ 100)
  by_cases lb : 100 < b.size
  · have d : decide (100 < (b.size : Int)) = true := by simpa using (by omega : (100 : Int) < (b.size : Int))
    clear lb la
    go_enter Tryd.func5, Tryd.ntmps5
    go_wp2_with fail
    refine AW.out.mono ?_; rintro e w1 ⟨rfl, b1⟩
    have B1 := Lib.hid b1
    clear b1
    go_wp2_with fail
    go_ret
    exact ⟨rfl, B1.out⟩
  have db : decide (100 < (b.size : Int)) = false := by simpa using (by omega : (b.size : Int) ≤ 100)
  by_cases lc : 100 < c.size
  · have d : decide (100 < (c.size : Int)) = true := by simpa using (by omega : (100 : Int) < (c.size : Int))
    clear lb la lc
    go_enter Tryd.func5, Tryd.ntmps5
    go_wp2_with fail
    refine AW.out.mono ?_; rintro e w1 ⟨rfl, b1⟩
    have B1 := Lib.hid b1
    clear b1
    go_wp2_with fail
    go_ret
    exact ⟨rfl, B1.out⟩
  have dc : decide (100 < (c.size : Int)) = false := by simpa using (by omega : (c.size : Int) ≤ 100)
  obtain ⟨xa, rfl⟩ : ∃ x : Txt, x.1 = a := ⟨⟨a, by omega⟩, rfl⟩
  obtain ⟨xb, rfl⟩ : ∃ x : Txt, x.1 = b := ⟨⟨b, by omega⟩, rfl⟩
  obtain ⟨xc, rfl⟩ : ∃ x : Txt, x.1 = c := ⟨⟨c, by omega⟩, rfl⟩
  clear la lb lc
  by_cases ga : ∃ ns, PR (bts xa) ns
  · obtain ⟨na, pa⟩ := ga
    by_cases gb : ∃ ns, PR (bts xb) ns
    · obtain ⟨nb, pb⟩ := gb
      by_cases gc : ∃ ns, PR (bts xc) ns
      · obtain ⟨nc, pc⟩ := gc
        refine total_walk xa xb xc (cmpL na nb) (cmpL nb na) (cmpL nb nc) (cmpL na nc) 0 0 0 0 w HW.out da db dc (fun W h => cmpOk xa xb pa pb W h) (fun W h => cmpOk xb xa pb pa W h) (fun W h => cmpOk xb xc pb pc W h) (fun W h => cmpOk xa xc pa pc W h) (Or.inr ⟨⟨rfl, rfl, rfl, rfl⟩, cmpL_anti na nb, cmpL_rng na nb, cmpL_rng nb nc, cmpL_trans na nb nc, ?_, wiL nc na, wiL nb na, fun W h => witOk xc xa pc pa W h, fun W h => witOk xb xa pb pa W h, fun h1 h2 h3 => wi_iff.2 (wi_mid na nb nc h1 h2 (wi_iff.1 h3))⟩)
        constructor
        · intro h
          have e := cmpL_zero h
          rw [← e] at pb
          exact Txt.ext (pa.text pb)
        · rintro rfl
          rw [pa.one pb]
          exact cmpL_self nb
      · have nc : ∀ ns, ¬ PR (bts xc) ns := fun ns h => gc ⟨ns, h⟩
        exact total_walk xa xb xc _ _ 0 0 0 0 3 3 w HW.out da db dc (fun W h => cmpOk xa xb pa pb W h) (fun W h => cmpOk xb xa pb pa W h) (fun W h => cmpBad xb xc (Or.inr nc) W h) (fun W h => cmpBad xa xc (Or.inr nc) W h) (Or.inl (Or.inr (Or.inl ⟨rfl, rfl, rfl⟩)))
    · have nb : ∀ ns, ¬ PR (bts xb) ns := fun ns h => gb ⟨ns, h⟩
      by_cases gc : ∃ ns, PR (bts xc) ns
      · obtain ⟨nc, pc⟩ := gc
        exact total_walk xa xb xc 0 0 0 _ 3 3 3 0 w HW.out da db dc (fun W h => cmpBad xa xb (Or.inr nb) W h) (fun W h => cmpBad xb xa (Or.inl nb) W h) (fun W h => cmpBad xb xc (Or.inl nb) W h) (fun W h => cmpOk xa xc pa pc W h) (Or.inl (Or.inl ⟨rfl, rfl, rfl, rfl⟩))
      · have nc : ∀ ns, ¬ PR (bts xc) ns := fun ns h => gc ⟨ns, h⟩
        exact total_walk xa xb xc 0 0 0 0 3 3 3 3 w HW.out da db dc (fun W h => cmpBad xa xb (Or.inr nb) W h) (fun W h => cmpBad xb xa (Or.inl nb) W h) (fun W h => cmpBad xb xc (Or.inl nb) W h) (fun W h => cmpBad xa xc (Or.inr nc) W h) (Or.inl (Or.inl ⟨rfl, rfl, rfl, rfl⟩))
  · have na : ∀ ns, ¬ PR (bts xa) ns := fun ns h => ga ⟨ns, h⟩
    by_cases gbc : (∃ ns, PR (bts xb) ns) ∧ ∃ ns, PR (bts xc) ns
    · obtain ⟨⟨nb, pb⟩, nc, pc⟩ := gbc
      exact total_walk xa xb xc 0 0 _ 0 3 3 0 3 w HW.out da db dc (fun W h => cmpBad xa xb (Or.inl na) W h) (fun W h => cmpBad xb xa (Or.inr na) W h) (fun W h => cmpOk xb xc pb pc W h) (fun W h => cmpBad xa xc (Or.inl na) W h) (Or.inl (Or.inr (Or.inr ⟨rfl, rfl, rfl⟩)))
    · have nbc : (∀ ns, ¬ PR (bts xb) ns) ∨ (∀ ns, ¬ PR (bts xc) ns) := by
        by_cases gb : ∃ ns, PR (bts xb) ns
        · exact Or.inr fun ns h => gbc ⟨gb, ns, h⟩
        · exact Or.inl fun ns h => gb ⟨ns, h⟩
      exact total_walk xa xb xc 0 0 0 0 3 3 3 3 w HW.out da db dc (fun W h => cmpBad xa xb (Or.inl na) W h) (fun W h => cmpBad xb xa (Or.inr na) W h) (fun W h => cmpBad xb xc nbc W h) (fun W h => cmpBad xa xc (Or.inl na) W h) (Or.inl (Or.inl ⟨rfl, rfl, rfl, rfl⟩))
end Go.Proofs.YtilblolejnfnmaaDoor
