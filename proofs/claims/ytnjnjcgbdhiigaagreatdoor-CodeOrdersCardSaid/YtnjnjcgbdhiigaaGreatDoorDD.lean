/- CodeBack. -/
import Derived.Test.YtnjnjcgbdhiigaaGreatDoorDC
namespace Go.Proofs.YtnjnjcgbdhiigaaGreatDoor
open Go.RowKit Go.Shelf

theorem eqOk (v u : Value) {ns : List Nat} (h0 : 0 < ns.length) (hn : ns.length ≤ 1000) (w : World) (hv : IsN w v ns) (hu : IsZ w u (ints ns)) :
    Calls Tryz.prog 31 #[v, u] w fun e w' => e = .returned (.bool true) ∧ Below w.heap.size w w' := by
  obtain ⟨g, off, c, rfl, _, hc, c1⟩ := hv
  obtain ⟨p, c2, rfl, hc2, h3⟩ := hu
  have el : (ints ns).length = ns.length := by simp [ints]
  obtain ⟨g2, off2, rfl, _, c3⟩ := h3 (by rw [el]; exact h0)
  have c4 : ∀ j, j < (ints ns).length → w.cell? ⟨g2, off2 + j, none⟩ = some (.int .i64 ((ints ns).getD j 0)) := fun j hj => by
    rw [c3 j hj]
    simp [List.getElem?_eq_getElem hj]
  rw [el]
  rw [el] at hc2
  refine (Any.slices_Equal_int Tryz.lays111 g off ns.length c g2 off2 ns.length c2 (ints ns) (ints ns) w (by rw [el]; exact Nat.le_refl _) (by rw [el]; exact Nat.le_refl _) (by omega) (by omega) (ints_cells c1) c4).mono ?_
  rintro e w' ⟨rfl, q, rfl⟩
  exact ⟨by simp, below_drewN _ _⟩
theorem fmtOk (v : Value) {zs : List Int} {ns : List Nat} (ok : OkN ns) (hz : zs = ints ns) (w : World) (hw : Lw w) (hv : IsZ w v zs) (t : Txt) (ht : bts t = cd ns) :
    Calls Tryz.prog 10 #[v] w fun e w' => e = .returned (.tuple #[.string t.1, .int .i64 0]) ∧ Below w.heap.size w w' := by
  refine (Format_any v zs w hw hv (fun z h => ?_)).mono ?_
  · rw [hz] at h
    obtain ⟨n, hn, rfl⟩ := List.mem_map.1 h
    have := ok.2.2 n hn
    show -9223372036854775808 ≤ (n : Int) ∧ (n : Int) ≤ 9223372036854775807
    omega
  · rintro e w' ⟨⟨ms, u, h1, h2, h3, rfl⟩ | ⟨h, _⟩, b⟩
    · obtain rfl : ns = ms := ints_inj.1 (hz.symm.trans h2)
      rw [show u = t from Txt.ext (h3.trans ht.symm)]
      exact ⟨rfl, b⟩
    · exact absurd ok (h ns hz)
theorem fmtBad (v : Value) {zs : List Int} (no : ∀ ns, zs = ints ns → ¬ OkN ns) (hr : ∀ z ∈ zs, -9223372036854775808 ≤ z ∧ z ≤ 9223372036854775807) (w : World) (hw : Lw w) (hv : IsZ w v zs) :
    Calls Tryz.prog 10 #[v] w fun e w' => e = .returned (.tuple #[.string ⟨#[]⟩, .int .i64 2]) ∧ Below w.heap.size w w' := by
  refine (Format_any v zs w hw hv hr).mono ?_
  rintro e w' ⟨⟨ms, u, h1, h2, h3, rfl⟩ | ⟨_, rfl⟩, b⟩
  · exact absurd h1 (no ms h2)
  · exact ⟨rfl, b⟩
theorem parseOk (a : Txt) {ns : List Nat} (pa : PR (bts a) ns) (w : World) (hw : Lw w) : Calls Tryz.prog 8 #[.string a.1] w fun e w' => ∃ v, e = .returned (.tuple #[v, .int .i64 0]) ∧ IsN w' v ns ∧ Below w.heap.size w w' := by
  rcases Parse_two a w hw with ⟨ms, h, c⟩ | ⟨h, _⟩
  · obtain rfl := h.one pa
    exact c
  · exact absurd pa (h _)
theorem parseBad (a : Txt) (h : ∀ ns, ¬ PR (bts a) ns) (w : World) (hw : Lw w) : Calls Tryz.prog 8 #[.string a.1] w fun e w' => e = .returned (.tuple #[.slice none 0 0, .int .i64 3]) ∧ Below w.heap.size w w' := by
  rcases Parse_two a w hw with ⟨ms, g, _⟩ | ⟨_, c⟩
  · exact absurd g (h _)
  · exact c
/-- A text that Format gives. -/
def fmtT (ns : List Nat) (ok : OkN ns) : Txt := ⟨⟨(cd ns).toArray⟩, by rw [mk_size]; have := ok.size; omega⟩
theorem fmtT_bts (ns : List Nat) (ok : OkN ns) : bts (fmtT ns ok) = cd ns := mk_list _

end Go.Proofs.YtnjnjcgbdhiigaaGreatDoor
