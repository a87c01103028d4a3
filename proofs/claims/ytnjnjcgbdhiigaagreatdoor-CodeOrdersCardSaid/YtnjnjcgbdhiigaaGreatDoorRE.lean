/- The reference's Parent, SameInts; what both implementations give. -/
import Derived.Test.YtnjnjcgbdhiigaaGreatDoorRD
namespace Go.Proofs.YtnjnjcgbdhiigaaGreatDoor
open Go.RowKit Go.Shelf

theorem rparse_ok (a : Txt) {ns : List Nat} (pa : PR (bts a) ns) (w : World) : Calls Tryz.prog 9 #[.string a.1] w fun e w' => ∃ v, e = .returned (.tuple #[v, .int .i64 0]) ∧ IsN w' v ns ∧ Below w.heap.size w w' := by
  refine (rParse_any a w).mono ?_
  rintro e w' ⟨⟨v, ms, h, rfl, ow⟩ | ⟨h, _⟩, b⟩
  · obtain rfl := h.one pa
    exact ⟨v, rfl, own_isN ow pa.pos, b⟩
  · exact absurd pa (h _)
theorem rparse_no (a : Txt) (no : ∀ ns, ¬ PR (bts a) ns) (w : World) : Calls Tryz.prog 9 #[.string a.1] w fun e w' => e = .returned (.tuple #[.slice none 0 0, .int .i64 3]) ∧ Below w.heap.size w w' := by
  refine (rParse_any a w).mono ?_
  rintro e w' ⟨⟨v, ms, h, rfl, ow⟩ | ⟨_, rfl⟩, b⟩
  · exact absurd h (no _)
  · exact ⟨rfl, b⟩
theorem isZ_nil (w : World) : IsZ w (.slice none 0 0) [] := ⟨none, 0, rfl, Nat.le_refl _, fun h => absurd h (by simp)⟩
theorem parse_same (a : Txt) : ∃ (ev : Int) (zs : List Int), zs.length ≤ 6 ∧
    (∀ V, Lw V → Calls Tryz.prog 8 #[.string a.1] V fun e w' => ∃ v, e = .returned (.tuple #[v, .int .i64 ev]) ∧ IsZ w' v zs ∧ Below V.heap.size V w') ∧
    (∀ V, Calls Tryz.prog 9 #[.string a.1] V fun e w' => ∃ v, e = .returned (.tuple #[v, .int .i64 ev]) ∧ IsZ w' v zs ∧ Below V.heap.size V w') := by
  by_cases h : ∃ ns, PR (bts a) ns
  · obtain ⟨ns, pa⟩ := h
    refine ⟨0, ints ns, by rw [ints, List.length_map]; exact pa.len, fun V hV => ?_, fun V => ?_⟩
    · rcases Parse_two a V hV with ⟨ms, g, c⟩ | ⟨no, _⟩
      · obtain rfl := g.one pa
        exact c.mono fun e w' ⟨v, h1, h2, h3⟩ => ⟨v, h1, h2.z, h3⟩
      · exact absurd pa (no _)
    · exact (rparse_ok a pa V).mono fun e w' ⟨v, h1, h2, h3⟩ => ⟨v, h1, h2.z, h3⟩
  · have no : ∀ ns, ¬ PR (bts a) ns := fun ns g => h ⟨ns, g⟩
    refine ⟨3, [], by decide, fun V hV => ?_, fun V => ?_⟩
    · rcases Parse_two a V hV with ⟨ms, g, c⟩ | ⟨_, c⟩
      · exact absurd g (no _)
      · exact c.mono fun e w' ⟨h1, h3⟩ => ⟨_, h1, isZ_nil w', h3⟩
    · exact (rparse_no a no V).mono fun e w' ⟨h1, h3⟩ => ⟨_, h1, isZ_nil w', h3⟩
theorem format_same (zs : List Int) (hr : ∀ z ∈ zs, -9223372036854775808 ≤ z ∧ z ≤ 9223372036854775807) : ∃ (t : ByteArray) (g : Int),
    (∀ V v, Lw V → IsZ V v zs → Calls Tryz.prog 10 #[v] V fun e w' => e = .returned (.tuple #[.string t, .int .i64 g]) ∧ Below V.heap.size V w') ∧
    (∀ V v, IsZ V v zs → Calls Tryz.prog 11 #[v] V fun e w' => e = .returned (.tuple #[.string t, .int .i64 g]) ∧ Below V.heap.size V w') := by
  by_cases h : ∃ ns, zs = ints ns ∧ OkN ns
  · obtain ⟨ns, hz, ok⟩ := h
    have fin : ∀ V e w', FmR zs V e w' → e = .returned (.tuple #[.string ⟨(cd ns).toArray⟩, .int .i64 0]) ∧ Below V.heap.size V w' := fun V e w' hf => by
      rcases hf with ⟨⟨ms, u, h1, h2, h3, rfl⟩ | ⟨h, _⟩, b⟩
      · obtain rfl : ns = ms := ints_inj.1 (hz.symm.trans h2)
        rw [bts_eq h3]
        exact ⟨rfl, b⟩
      · exact absurd ok (h ns hz)
    exact ⟨_, _, fun V v hV hv => (Format_any v zs V hV hv hr).mono (fin V), fun V v hv => (rFormat_any v zs V hv).mono (fin V)⟩
  · have fin : ∀ V e w', FmR zs V e w' → e = .returned (.tuple #[.string ⟨#[]⟩, .int .i64 2]) ∧ Below V.heap.size V w' := fun V e w' hf => by
      rcases hf with ⟨⟨ms, u, h1, h2, h3, rfl⟩ | ⟨_, rfl⟩, b⟩
      · exact absurd ⟨ms, h2, h1⟩ h
      · exact ⟨rfl, b⟩
    exact ⟨_, _, fun V v hV hv => (Format_any v zs V hV hv hr).mono (fin V), fun V v hv => (rFormat_any v zs V hv).mono (fin V)⟩
set_option maxHeartbeats 4000000 in
theorem rparent_ok (a : Txt) {ns : List Nat} (pa : PR (bts a) ns) (h2 : 2 ≤ ns.length) (w : World) : Calls Tryz.prog 13 #[.string a.1] w fun e w' => e = .returned (.tuple #[.string ⟨(cd ns.dropLast).toArray⟩, .bool true]) ∧ Below w.heap.size w w' := by
  have RP := Lib.hid (rparse_ok a pa w)
  have ok : OkN ns.dropLast := ⟨fun e => by have := congrArg List.length e; simp at this; omega, by rw [List.length_dropLast]; have := pa.len; omega, fun n hn => pa.rng n ((List.dropLast_sublist ns).mem hn)⟩
  obtain ⟨L, hL⟩ : ∃ L, ns.length = L + 1 := ⟨ns.length - 1, by omega⟩
  have FM := Lib.hid (fun (V : World) (g off c : Nat) (hv : IsN V (.slice (some ⟨g, off, none⟩) (L + 1) c) ns) => show Calls Tryz.prog 11 #[.slice (some ⟨g, off, none⟩) L c] V fun e w' => e = .returned (.tuple #[.string ⟨(cd ns.dropLast).toArray⟩, .int .i64 0]) ∧ Below V.heap.size V w' from by
    obtain ⟨g', off', c', e, hg, hc, cells⟩ := hv
    obtain ⟨e1, _, rfl⟩ := Value.slice.inj e
    cases e1
    have dl : ns.dropLast.length = L := by rw [List.length_dropLast, hL]; omega
    have hv : IsN V (.slice (some ⟨g, off, none⟩) L c) ns.dropLast := ⟨g, off, c, by rw [dl], hg, by rw [dl]; omega, fun j hj => by
      rw [cells j (by omega), List.getElem_dropLast]⟩
    refine (rFormat_any _ _ V hv.z).mono ?_
    rintro e w' ⟨⟨ms, u, h1, h2, h3, rfl⟩ | ⟨h, _⟩, b⟩
    · obtain rfl : ns.dropLast = ms := ints_inj.1 h2
      rw [bts_eq h3]
      exact ⟨rfl, b⟩
    · exact absurd ok (h _ rfl))
  have L1 : 1 ≤ L := by omega
  have L6 : L ≤ 5 := by have := pa.len; omega
  have HL := Lib.hid hL
  generalize (⟨(cd ns.dropLast).toArray⟩ : ByteArray) = t at *
  clear ok h2 pa hL
  go_enter Tryz.func13, Tryz.ntmps13
  go_wp2_with fail
  refine RP.out.mono ?_; rintro e w1 ⟨v, rfl, iv, b1⟩
  have IV := iv
  obtain ⟨g, off, c, rfl, _, hc, _⟩ := iv
  rw [HL.out] at IV hc ⊢
  have FM1 := Lib.hid (FM.out w1 g off c IV)
  have B1 := Lib.hid b1
  clear IV b1 RP
  go_wp2_with fail
  refine FM1.out.mono ?_; rintro e w2 ⟨rfl, b2⟩
  have B2 := Lib.hid (B1.out.trans (b2.mono B1.out.size))
  clear b2 FM1
  go_wp2_with fail
  go_ret2
  exact ⟨rfl, B2.out⟩
end Go.Proofs.YtnjnjcgbdhiigaaGreatDoor
