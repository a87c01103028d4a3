/- CodeTree. -/
import Derived.Test.YtilblolejnfnmaaDoorDB
namespace Go.Proofs.YtilblolejnfnmaaDoor
open Go.RowKit Go.Shelf

/-- Of the code a, or one above it, among the first ones, is b. -/
def WB (a b : List UInt8) : Prop := ∃ ns ms, PR a ns ∧ PR b ms ∧ wiL ns ms = true
theorem cmpL_drop : ∀ x : List Nat, x ≠ [] → cmpL x.dropLast x = -1
  | [], h => absurd rfl h
  | [_], _ => rfl
  | a :: b :: x, _ => by
    have ih := cmpL_drop (b :: x) (by simp)
    show cmpL (a :: (b :: x).dropLast) (a :: b :: x) = -1
    unfold cmpL
    rw [if_neg (by omega), if_neg (by omega)]
    exact ih
theorem drop_take {l : List Nat} {i : Nat} (h : i ≤ l.length) : (l.take i).dropLast = l.take (i - 1) := by
  rw [List.dropLast_eq_take, List.take_take, List.length_take]
  congr 1; omega
/-- The loop's state behind k rounds: going on, or done. -/
structure Go1 (a b : List UInt8) (k : Nat) (t : Txt) (z : Bool) (ns : List Nat) : Prop where
  pa : PR a ns
  lt : k < ns.length
  pt : PR (bts t) (ns.take (ns.length - k))
  z : z = true ↔ ∃ m, ns.length - k < m ∧ m ≤ ns.length ∧ PR b (ns.take m)
def TS (a b : List UInt8) (k : Nat) (t : Txt) (z o : Bool) : Prop := k ≤ 6 ∧ ((o = true ∧ ∃ ns, Go1 a b k t z ns) ∨ (o = false ∧ (z = true ↔ WB a b)))
theorem wb_iff {a b : List UInt8} {ns : List Nat} (pa : PR a ns) : WB a b ↔ ∃ m, 0 < m ∧ m ≤ ns.length ∧ PR b (ns.take m) := by
  constructor
  · rintro ⟨xs, ms, h1, h2, h3⟩
    obtain rfl := h1.one pa
    have p := wi_iff.1 h3
    refine ⟨ms.length, h2.pos, p.length_le, ?_⟩
    rw [← List.prefix_iff_eq_take.1 p]; exact h2
  · rintro ⟨m, h1, h2, h3⟩
    exact ⟨ns, _, pa, h3, wi_iff.2 (List.take_prefix _ _)⟩
/-- What a round adds. -/
theorem Go1.or {a : List UInt8} {b : Txt} {k : Nat} {t : Txt} {z z' : Bool} {ns : List Nat} (h : Go1 a (bts b) k t z ns) (hz : z' = true ↔ z = true ∨ t = b) :
    z' = true ↔ ∃ m, ns.length - (k + 1) < m ∧ m ≤ ns.length ∧ PR (bts b) (ns.take m) := by
  rw [hz, h.z]
  have lt := h.lt
  constructor
  · rintro (⟨m, h1, h2, h3⟩ | rfl)
    · exact ⟨m, by omega, h2, h3⟩
    · exact ⟨ns.length - k, by omega, by omega, h.pt⟩
  · rintro ⟨m, h1, h2, h3⟩
    by_cases e : ns.length - k < m
    · exact Or.inl ⟨m, e, h2, h3⟩
    · obtain rfl : m = ns.length - k := by omega
      exact Or.inr (Txt.ext (h.pt.text h3))
theorem Go1.next {a : List UInt8} {b : Txt} {k : Nat} {t p : Txt} {z z' : Bool} {ns : List Nat} (h : Go1 a (bts b) k t z ns) (hz : z' = true ↔ z = true ∨ t = b)
    (h2 : 2 ≤ (ns.take (ns.length - k)).length) (hp : PR (bts p) (ns.take (ns.length - k)).dropLast) : TS a (bts b) (k + 1) p z' true := by
  have lt := h.lt
  rw [List.length_take] at h2
  have l6 := h.pa.len
  refine ⟨by omega, Or.inl ⟨rfl, ns, h.pa, by omega, ?_, h.or hz⟩⟩
  rw [drop_take (by omega)] at hp
  rwa [show ns.length - (k + 1) = ns.length - k - 1 by omega]
theorem Go1.last {a : List UInt8} {b : Txt} {k : Nat} {t p : Txt} {z z' : Bool} {ns : List Nat} (h : Go1 a (bts b) k t z ns) (hz : z' = true ↔ z = true ∨ t = b)
    (h1 : (ns.take (ns.length - k)).length = 1) : TS a (bts b) (k + 1) p z' false := by
  have lt := h.lt
  rw [List.length_take] at h1
  have l6 := h.pa.len
  refine ⟨by omega, Or.inr ⟨rfl, ?_⟩⟩
  rw [h.or hz, wb_iff h.pa]
  constructor
  · rintro ⟨m, g1, g2, g3⟩; exact ⟨m, by omega, g2, g3⟩
  · rintro ⟨m, g1, g2, g3⟩; exact ⟨m, by omega, g2, g3⟩
/-- Parent, once the numbers are known. -/
theorem parentOk (a : Txt) {ns : List Nat} (pa : PR (bts a) ns) (w : World) (hw : Lw w) :
    (2 ≤ ns.length ∧ ∃ p : Txt, PR (bts p) ns.dropLast ∧ Calls Tryd.prog 11 #[.string a.1] w fun e w' => e = .returned (.tuple #[.string p.1, .bool true]) ∧ Below w.heap.size w w') ∨
    (ns.length = 1 ∧ Calls Tryd.prog 11 #[.string a.1] w fun e w' => e = .returned (.tuple #[.string ⟨#[]⟩, .bool false]) ∧ Below w.heap.size w w') := by
  by_cases h1 : ns.length = 1
  · refine Or.inr ⟨h1, (Parent_any a w hw).mono ?_⟩
    rintro e w' ⟨⟨ms, p, g1, g2, _⟩ | ⟨_, rfl⟩, b⟩
    · rw [g1.one pa] at g2; omega
    · exact ⟨rfl, b⟩
  · have h2 : 2 ≤ ns.length := by have := pa.pos; omega
    have ok : OkN ns.dropLast := ⟨fun e => by have := congrArg List.length e; simp at this; omega, by rw [List.length_dropLast]; have := pa.len; omega, fun n hn => pa.rng n ((List.dropLast_sublist ns).mem hn)⟩
    refine Or.inl ⟨h2, ⟨⟨(cd ns.dropLast).toArray⟩, by rw [mk_size]; have := ok.size; omega⟩, by show PR (⟨(cd ns.dropLast).toArray⟩ : ByteArray).data.toList _; rw [mk_list]; exact ok.pr, (Parent_any a w hw).mono ?_⟩
    rintro e w' ⟨⟨ms, p, g1, g2, g3, _, rfl⟩ | ⟨h, _⟩, b⟩
    · obtain rfl := g1.one pa
      refine ⟨?_, b⟩
      rw [bts_eq (g3.text ok.pr)]
    · exact absurd (h _ pa) h1
set_option maxRecDepth 100000 in
set_option maxHeartbeats 4000000 in
theorem tree_any (a b : ByteArray) (w : World) (hw : Lw w) : Calls Tryd.prog 4 #[.string a, .string b] w fun e w' => e = .returned (.bool true) ∧ Below w.heap.size w w' := by
  have AW := Lib.hid (awake_any w hw)
  have HW := Lib.hid hw
  clear hw
  by_cases la : 100 < a.size
  · have d : decide (100 < (a.size : Int)) = true := by simpa using (by omega : (100 : Int) < (a.size : Int))
    clear la
    go_enter Tryd.func4, Tryd.ntmps4
    go_wp2_with fail
    refine AW.out.mono ?_; rintro e w1 ⟨rfl, b1⟩
    have B1 := Lib.hid b1
    clear b1
    go_wp2_with fail
    go_ret
    exact ⟨rfl, B1.out⟩
  have da : decide (100 < (a.size : Int)) = false := by simpa using (by omega : (a.size : Int) ≤ 100)
  by_cases lb : 100 < b.size
  · have d : decide (100 < (b.size : Int)) = true := by simpa using (by omega : (100 : Int) < (b.size : Int))
    clear lb la
    go_enter Tryd.func4, Tryd.ntmps4
    go_wp2_with fail
    refine AW.out.mono ?_; rintro e w1 ⟨rfl, b1⟩
    have B1 := Lib.hid b1
    clear b1
    go_wp2_with fail
    go_ret
    exact ⟨rfl, B1.out⟩
  have db : decide (100 < (b.size : Int)) = false := by simpa using (by omega : (b.size : Int) ≤ 100)
  obtain ⟨xa, rfl⟩ : ∃ x : Txt, x.1 = a := ⟨⟨a, by omega⟩, rfl⟩
  obtain ⟨xb, rfl⟩ : ∃ x : Txt, x.1 = b := ⟨⟨b, by omega⟩, rfl⟩
  clear la lb
  have PC : ∃ o : Bool, (∀ V, Lw V → Calls Tryd.prog 8 #[.string xa.1] V fun e w' => (∃ v, e = .returned (.tuple #[v, .int .i64 (if o then 0 else 3)])) ∧ Below V.heap.size V w') ∧ TS (bts xa) (bts xb) 0 xa false o := by
    by_cases h : ∃ ns, PR (bts xa) ns
    · obtain ⟨ns, pa⟩ := h
      refine ⟨true, fun V hV => ?_, by omega, Or.inl ⟨rfl, ns, pa, pa.pos, by rw [Nat.sub_zero, List.take_length]; exact pa, by simp; omega⟩⟩
      rcases Parse_two xa V hV with ⟨_, _, c⟩ | ⟨no, _⟩
      · exact c.mono fun e w' ⟨v, h, _, hb⟩ => ⟨⟨v, h⟩, hb⟩
      · exact absurd pa (no _)
    · refine ⟨false, fun V hV => ?_, by omega, Or.inr ⟨rfl, by simp; rintro ⟨ns, _, pa, _⟩; exact h ⟨ns, pa⟩⟩⟩
      rcases Parse_two xa V hV with ⟨ns, pa, _⟩ | ⟨_, c⟩
      · exact absurd ⟨ns, pa⟩ h
      · exact c.mono fun e w' ⟨h, hb⟩ => ⟨⟨_, h⟩, hb⟩
  obtain ⟨o, pc, ts0⟩ := PC
  have P0 := Lib.hid pc
  have T0 := Lib.hid ts0
  clear pc ts0
  go_enter Tryd.func4, Tryd.ntmps4
  go_wp2_with fail
  refine AW.out.mono ?_; rintro e w1 ⟨rfl, b1⟩
  have B1 := Lib.hid b1
  clear b1 AW
  go_wp2_with fail
  refine (P0.out w1 (HW.out.below B1.out HW.out.n0)).mono ?_; rintro e w2 ⟨⟨v, rfl⟩, b2⟩
  have B2 := Lib.hid (B1.out.trans (b2.mono B1.out.size))
  clear b2 B1
  have e3 : (if o = true then (0 : Int) else 3) = 0 ↔ o = true := by cases o <;> simp
  have OB : ((if o = true then (0 : Int) else 3) == 0) = o := by cases o <;> rfl
  clear e3
  generalize (if o = true then (0 : Int) else 3) = oi at *
  go_wp2_with fail
  go_loopw [7, 8, 9, 32] (fun sz st so si wr => ∃ (k : Nat) (t : Txt) (z o : Bool), sz = .bool z ∧ st = .string t.1 ∧ so = .bool o ∧ si = .int .i64 k ∧ k ≤ 6 ∧ Hid (TS (bts xa) (bts xb) k t z o ∧ Below w.heap.size w wr)) (fun _ _ _ si _ => 8 - (intOf si).toNat)
  case atStart => exact ⟨0, xa, false, o, rfl, rfl, rfl, rfl, by omega, T0.out, B2.out⟩
  case round =>
    obtain ⟨k, t, z, o, rfl, rfl, rfl, rfl, k6, hrel⟩ := hrel
    have BR := Lib.hid hrel.out.2
    rcases hrel.out.1.2 with ⟨rfl, ns, g⟩ | ⟨rfl, hz⟩
    · have PO := parentOk t g.pt wr (HW.out.below BR.out HW.out.n0)
      clear hrel
      cases z with
      | true =>
        have HZ := Lib.hid (show (true = true ↔ true = true ∨ t = xb) by simp)
        rcases PO with ⟨h2, p, pp, cp⟩ | ⟨h1, cp⟩
        · have CP := Lib.hid cp
          have CM := Lib.hid (fun V hV => cmpOk p t pp g.pt V hV)
          rw [cmpL_drop _ (fun e => by rw [e] at h2; simp at h2)] at CM
          have NX := Lib.hid (g.next HZ.out h2 pp)
          clear g pp h2 cp OB
          go_wp2_with fail
          refine CP.out.mono ?_; rintro e w3 ⟨rfl, b3⟩
          have B3 := Lib.hid (BR.out.trans (b3.mono BR.out.size))
          clear b3 CP
          go_wp2_with fail
          refine (CM.out w3 (HW.out.below B3.out HW.out.n0)).mono ?_; rintro e w4 ⟨rfl, b4⟩
          have B4 := Lib.hid (B3.out.trans (b4.mono B3.out.size))
          clear b4 CM
          go_wp2_with fail
          go_roundw
          case rel => exact ⟨k + 1, p, _, true, rfl, rfl, rfl, by go_num, NX.out.1, NX.out, B4.out⟩
          case measure => simp [intOf]; omega
        · have CP := Lib.hid cp
          have NX := Lib.hid (g.last (p := ⟨⟨#[]⟩, by decide⟩) HZ.out h1)
          clear g h1 cp OB
          go_wp2_with fail
          refine CP.out.mono ?_; rintro e w3 ⟨rfl, b3⟩
          have B3 := Lib.hid (BR.out.trans (b3.mono BR.out.size))
          clear b3 CP
          go_wp2_with fail
          go_roundw
          case rel => exact ⟨k + 1, ⟨⟨#[]⟩, by decide⟩, _, false, rfl, rfl, rfl, by go_num, NX.out.1, NX.out, B3.out⟩
          case measure => simp [intOf]; omega
      | false =>
        have HZ := Lib.hid (show ((t.1.toList == xb.1.toList) = true ↔ false = true ∨ t = xb) by
          rw [beq_iff_eq, ByteArray.toList_eq, ByteArray.toList_eq]
          exact ⟨fun h => Or.inr (Txt.ext h), fun h => h.elim (fun h => by cases h) (fun h => by rw [h])⟩)
        rcases PO with ⟨h2, p, pp, cp⟩ | ⟨h1, cp⟩
        · have CP := Lib.hid cp
          have CM := Lib.hid (fun V hV => cmpOk p t pp g.pt V hV)
          rw [cmpL_drop _ (fun e => by rw [e] at h2; simp at h2)] at CM
          have NX := Lib.hid (g.next HZ.out h2 pp)
          clear g pp h2 cp OB
          go_wp2_with fail
          refine CP.out.mono ?_; rintro e w3 ⟨rfl, b3⟩
          have B3 := Lib.hid (BR.out.trans (b3.mono BR.out.size))
          clear b3 CP
          go_wp2_with fail
          refine (CM.out w3 (HW.out.below B3.out HW.out.n0)).mono ?_; rintro e w4 ⟨rfl, b4⟩
          have B4 := Lib.hid (B3.out.trans (b4.mono B3.out.size))
          clear b4 CM
          go_wp2_with fail
          go_roundw
          case rel => exact ⟨k + 1, p, _, true, rfl, rfl, rfl, by go_num, NX.out.1, NX.out, B4.out⟩
          case measure => simp [intOf]; omega
        · have CP := Lib.hid cp
          have NX := Lib.hid (g.last (p := ⟨⟨#[]⟩, by decide⟩) HZ.out h1)
          clear g h1 cp OB
          go_wp2_with fail
          refine CP.out.mono ?_; rintro e w3 ⟨rfl, b3⟩
          have B3 := Lib.hid (BR.out.trans (b3.mono BR.out.size))
          clear b3 CP
          go_wp2_with fail
          go_roundw
          case rel => exact ⟨k + 1, ⟨⟨#[]⟩, by decide⟩, _, false, rfl, rfl, rfl, by go_num, NX.out.1, NX.out, B3.out⟩
          case measure => simp [intOf]; omega
    · have WZ : ∀ V, Lw V → Calls Tryd.prog 13 #[.string xa.1, .string xb.1] V fun e w' => e = .returned (.bool z) ∧ Below V.heap.size V w' := fun V hV => by
        refine (Within_any xa xb V hV).mono ?_
        rintro e w' ⟨⟨z', rfl, hz'⟩, b⟩
        have : z' = z := by rw [Bool.eq_iff_iff, hz', hz]; rfl
        rw [this]
        exact ⟨rfl, b⟩
      have WZh := Lib.hid WZ
      clear WZ hz hrel OB
      go_wp2_with fail
      refine (WZh.out wr (HW.out.below BR.out HW.out.n0)).mono ?_; rintro e w3 ⟨rfl, b3⟩
      have B3 := Lib.hid (BR.out.trans (b3.mono BR.out.size))
      clear b3 WZh
      go_wp2_with fail
      go_ret
      exact ⟨rfl, B3.out⟩
end Go.Proofs.YtilblolejnfnmaaDoor
