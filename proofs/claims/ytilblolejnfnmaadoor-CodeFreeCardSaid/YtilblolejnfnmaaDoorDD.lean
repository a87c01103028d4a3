/- CodeBack. -/
import Derived.Test.YtilblolejnfnmaaDoorDC
namespace Go.Proofs.YtilblolejnfnmaaDoor
open Go.RowKit Go.Shelf

theorem eqOk (v u : Value) {ns : List Nat} (h0 : 0 < ns.length) (hn : ns.length ≤ 1000) (w : World) (hv : IsN w v ns) (hu : IsZ w u (ints ns)) :
    Calls Tryd.prog 10 #[v, u] w fun e w' => e = .returned (.bool true) ∧ Below w.heap.size w w' := by
  obtain ⟨g, off, c, rfl, _, hc, c1⟩ := hv
  obtain ⟨p, c2, rfl, hc2, h3⟩ := hu
  have el : (ints ns).length = ns.length := by simp [ints]
  obtain ⟨g2, off2, rfl, _, c3⟩ := h3 (by rw [el]; exact h0)
  have c4 : ∀ j, j < (ints ns).length → w.cell? ⟨g2, off2 + j, none⟩ = some (.int .i64 ((ints ns).getD j 0)) := fun j hj => by
    rw [c3 j hj]
    simp [List.getElem?_eq_getElem hj]
  rw [el]
  rw [el] at hc2
  refine (Any.slices_Equal_int Tryd.lays111 g off ns.length c g2 off2 ns.length c2 (ints ns) (ints ns) w (by rw [el]; exact Nat.le_refl _) (by rw [el]; exact Nat.le_refl _) (by omega) (by omega) (ints_cells c1) c4).mono ?_
  rintro e w' ⟨rfl, q, rfl⟩
  exact ⟨by simp, below_drewN _ _⟩
theorem fmtOk (v : Value) {zs : List Int} {ns : List Nat} (ok : OkN ns) (hz : zs = ints ns) (w : World) (hw : Lw w) (hv : IsZ w v zs) (t : Txt) (ht : bts t = cd ns) :
    Calls Tryd.prog 9 #[v] w fun e w' => e = .returned (.tuple #[.string t.1, .int .i64 0]) ∧ Below w.heap.size w w' := by
  refine (Format_any v zs w hw hv (fun z h => ?_)).mono ?_
  · rw [hz] at h
    obtain ⟨n, hn, rfl⟩ := List.mem_map.1 h
    have := ok.2.2 n hn
    show -9223372036854775808 ≤ (n : Int) ∧ (n : Int) ≤ 9223372036854775807
    omega
  · rintro e w' ⟨⟨ms, u, h1, h2, h3, rfl⟩ | ⟨h, _⟩, b⟩
    · obtain rfl : ns = ms := ints_inj.1 (hz.symm.trans h2)
      rw [show u = t from Txt.ext (h3.trans ht.symm)]
      exact ⟨rfl, b⟩
    · exact absurd ok (h ns hz)
theorem fmtBad (v : Value) {zs : List Int} (no : ∀ ns, zs = ints ns → ¬ OkN ns) (hr : ∀ z ∈ zs, -9223372036854775808 ≤ z ∧ z ≤ 9223372036854775807) (w : World) (hw : Lw w) (hv : IsZ w v zs) :
    Calls Tryd.prog 9 #[v] w fun e w' => e = .returned (.tuple #[.string ⟨#[]⟩, .int .i64 2]) ∧ Below w.heap.size w w' := by
  refine (Format_any v zs w hw hv hr).mono ?_
  rintro e w' ⟨⟨ms, u, h1, h2, h3, rfl⟩ | ⟨_, rfl⟩, b⟩
  · exact absurd h1 (no ms h2)
  · exact ⟨rfl, b⟩
theorem parseOk (a : Txt) {ns : List Nat} (pa : PR (bts a) ns) (w : World) (hw : Lw w) : Calls Tryd.prog 8 #[.string a.1] w fun e w' => ∃ v, e = .returned (.tuple #[v, .int .i64 0]) ∧ IsN w' v ns ∧ Below w.heap.size w w' := by
  rcases Parse_two a w hw with ⟨ms, h, c⟩ | ⟨h, _⟩
  · obtain rfl := h.one pa
    exact c
  · exact absurd pa (h _)
theorem parseBad (a : Txt) (h : ∀ ns, ¬ PR (bts a) ns) (w : World) (hw : Lw w) : Calls Tryd.prog 8 #[.string a.1] w fun e w' => e = .returned (.tuple #[.slice none 0 0, .int .i64 3]) ∧ Below w.heap.size w w' := by
  rcases Parse_two a w hw with ⟨ms, g, _⟩ | ⟨_, c⟩
  · exact absurd g (h _)
  · exact c
/-- A text that Format gives. -/
def fmtT (ns : List Nat) (ok : OkN ns) : Txt := ⟨⟨(cd ns).toArray⟩, by rw [mk_size]; have := ok.size; omega⟩
theorem fmtT_bts (ns : List Nat) (ok : OkN ns) : bts (fmtT ns ok) = cd ns := mk_list _

set_option maxRecDepth 100000 in
set_option maxHeartbeats 4000000 in
theorem back_any (s : ByteArray) (v : Value) (zs : List Int) (w : World) (hw : Lw w) (hv : IsZ w v zs) (hr : ∀ z ∈ zs, -9223372036854775808 ≤ z ∧ z ≤ 9223372036854775807) :
    Calls Tryd.prog 3 #[.string s, v] w fun e w' => e = .returned (.bool true) ∧ Below w.heap.size w w' := by
  have AW := Lib.hid (awake_any w hw)
  have HW := Lib.hid hw
  have HV := Lib.hid hv
  have HR := Lib.hid hr
  clear hw hr
  obtain ⟨p, c, rfl, _, _⟩ := hv
  obtain ⟨n, hn⟩ : ∃ n, n = zs.length := ⟨_, rfl⟩
  rw [← hn] at HV ⊢
  have HN := Lib.hid hn
  clear hn
  by_cases ls : 100 < s.size
  · have d : decide (100 < (s.size : Int)) = true := by simpa using (by omega : (100 : Int) < (s.size : Int))
    clear ls
    go_enter Tryd.func3, Tryd.ntmps3
    go_wp2_with fail
    refine AW.out.mono ?_; rintro e w1 ⟨rfl, b1⟩
    have B1 := Lib.hid b1
    clear b1
    go_wp2_with fail
    go_ret
    exact ⟨rfl, B1.out⟩
  have ds : decide (100 < (s.size : Int)) = false := by simpa using (by omega : (s.size : Int) ≤ 100)
  by_cases ll : 12 < n
  · have d : decide (12 < (n : Int)) = true := by simpa using (by omega : (12 : Int) < (n : Int))
    clear ls ll
    go_enter Tryd.func3, Tryd.ntmps3
    go_wp2_with fail
    refine AW.out.mono ?_; rintro e w1 ⟨rfl, b1⟩
    have B1 := Lib.hid b1
    clear b1
    go_wp2_with fail
    go_ret
    exact ⟨rfl, B1.out⟩
  have dl : decide (12 < (n : Int)) = false := by simpa using (by omega : (n : Int) ≤ 12)
  obtain ⟨xs, rfl⟩ : ∃ x : Txt, x.1 = s := ⟨⟨s, by omega⟩, rfl⟩
  clear ls ll
  have cse : (∃ ns, PR (bts xs) ns) ∨ ∀ ns, ¬ PR (bts xs) ns := by
    by_cases h : ∃ ns, PR (bts xs) ns
    · exact Or.inl h
    · exact Or.inr fun ns g => h ⟨ns, g⟩
  have csz : (∃ ms, zs = ints ms ∧ OkN ms) ∨ ∀ ms, zs = ints ms → ¬ OkN ms := by
    by_cases h : ∃ ms, zs = ints ms ∧ OkN ms
    · exact Or.inl h
    · exact Or.inr fun ms g o => h ⟨ms, g, o⟩
  have CZ := Lib.hid csz
  clear csz
  go_enter Tryd.func3, Tryd.ntmps3
  go_wp2_with fail
  refine AW.out.mono ?_; rintro e w1 ⟨rfl, b1⟩
  have B1 := Lib.hid b1
  clear b1 AW
  go_wp2_with fail
  rcases cse with ⟨ns, pa⟩ | no
  · have P1 := Lib.hid (parseOk xs pa w1 (HW.out.below B1.out HW.out.n0))
    have OKh := Lib.hid pa.ok
    have F1 := Lib.hid (fun (V : World) (u : Value) (hV : Lw V) (hu : IsN V u ns) => fmtOk u (zs := ints ns) pa.ok.1 rfl V hV hu.z xs pa.ok.2)
    clear pa
    refine P1.out.mono ?_; rintro e w2 ⟨u, rfl, iu, b2⟩
    have B2 := Lib.hid (B1.out.trans (b2.mono B1.out.size))
    have FX := Lib.hid (F1.out w2 u (HW.out.below B2.out HW.out.n0) iu)
    clear b2 P1 F1 iu
    go_wp2_with fail
    refine FX.out.mono ?_; rintro e w3 ⟨rfl, b3⟩
    have B3 := Lib.hid (B2.out.trans (b3.mono B2.out.size))
    clear b3 FX B1 B2
    rcases CZ.out with ⟨ms, hz, ok⟩ | no
    · have FM := Lib.hid (fmtOk _ ok hz w3 (HW.out.below B3.out HW.out.n0) (HV.out.below B3.out) (fmtT ms ok) (fmtT_bts ms ok))
      have PO := Lib.hid (fun V hV => parseOk (fmtT ms ok) (by rw [fmtT_bts]; exact ok.pr) V hV)
      have EZ := Lib.hid (fun (V : World) (u : Value) (hV : Below w.heap.size w V) (hu : IsN V u ms) => eqOk u (.slice p n c) (List.length_pos_iff.2 ok.1) (by have := ok.2.1; omega) V hu (by rw [← hz]; exact HV.out.below hV))
      generalize fmtT ms ok = t at *
      clear hz ok CZ
      go_wp2_with fail
      refine FM.out.mono ?_; rintro e w6 ⟨rfl, b6⟩
      have B6 := Lib.hid (B3.out.trans (b6.mono B3.out.size))
      clear b6 FM
      go_wp2_with fail
      refine (PO.out w6 (HW.out.below B6.out HW.out.n0)).mono ?_; rintro e w7 ⟨u, rfl, iu, b7⟩
      have B7 := Lib.hid (B6.out.trans (b7.mono B6.out.size))
      have EQ := Lib.hid (EZ.out w7 u B7.out iu)
      clear b7 PO EZ iu
      go_wp2_with fail
      refine EQ.out.mono ?_; rintro e w8 ⟨rfl, b8⟩
      have B8 := Lib.hid (B7.out.trans (b8.mono B7.out.size))
      clear b8 EQ
      go_wp2_with fail
      go_ret
      exact ⟨rfl, B8.out⟩
    · have FM := Lib.hid (fmtBad _ no HR.out w3 (HW.out.below B3.out HW.out.n0) (HV.out.below B3.out))
      clear no CZ
      go_wp2_with fail
      refine FM.out.mono ?_; rintro e w6 ⟨rfl, b6⟩
      have B6 := Lib.hid (B3.out.trans (b6.mono B3.out.size))
      clear b6 FM
      go_wp2_with fail
      go_ret
      exact ⟨rfl, B6.out⟩
  · have P1 := Lib.hid (parseBad xs no w1 (HW.out.below B1.out HW.out.n0))
    clear no
    refine P1.out.mono ?_; rintro e w2 ⟨rfl, b2⟩
    have B2 := Lib.hid (B1.out.trans (b2.mono B1.out.size))
    clear b2 P1 B1
    rcases CZ.out with ⟨ms, hz, ok⟩ | no
    · have FM := Lib.hid (fmtOk _ ok hz w2 (HW.out.below B2.out HW.out.n0) (HV.out.below B2.out) (fmtT ms ok) (fmtT_bts ms ok))
      have PO := Lib.hid (fun V hV => parseOk (fmtT ms ok) (by rw [fmtT_bts]; exact ok.pr) V hV)
      have EZ := Lib.hid (fun (V : World) (u : Value) (hV : Below w.heap.size w V) (hu : IsN V u ms) => eqOk u (.slice p n c) (List.length_pos_iff.2 ok.1) (by have := ok.2.1; omega) V hu (by rw [← hz]; exact HV.out.below hV))
      generalize fmtT ms ok = t at *
      clear hz ok CZ
      go_wp2_with fail
      refine FM.out.mono ?_; rintro e w6 ⟨rfl, b6⟩
      have B6 := Lib.hid (B2.out.trans (b6.mono B2.out.size))
      clear b6 FM
      go_wp2_with fail
      refine (PO.out w6 (HW.out.below B6.out HW.out.n0)).mono ?_; rintro e w7 ⟨u, rfl, iu, b7⟩
      have B7 := Lib.hid (B6.out.trans (b7.mono B6.out.size))
      have EQ := Lib.hid (EZ.out w7 u B7.out iu)
      clear b7 PO EZ iu
      go_wp2_with fail
      refine EQ.out.mono ?_; rintro e w8 ⟨rfl, b8⟩
      have B8 := Lib.hid (B7.out.trans (b8.mono B7.out.size))
      clear b8 EQ
      go_wp2_with fail
      go_ret
      exact ⟨rfl, B8.out⟩
    · have FM := Lib.hid (fmtBad _ no HR.out w2 (HW.out.below B2.out HW.out.n0) (HV.out.below B2.out))
      clear no CZ
      go_wp2_with fail
      refine FM.out.mono ?_; rintro e w6 ⟨rfl, b6⟩
      have B6 := Lib.hid (B2.out.trans (b6.mono B2.out.size))
      clear b6 FM
      go_wp2_with fail
      go_ret
      exact ⟨rfl, B6.out⟩
end Go.Proofs.YtilblolejnfnmaaDoor
