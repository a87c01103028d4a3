/- A list of datings that came in as an argument. -/
import Derived.Test.YtbllolalfmgfoaaDoorDT
import Derived.Test.YtbllolalfmgfoaaDoorAid
namespace Go.Proofs.YtbllolalfmgfoaaDoor.Aid
open Go Go.ChangeShapes Go.WideShapes Go.ChangeAt Go.RowKit Go.Deep

theorem open_list {H : Type} {enc : TypeId × Value → H} {W : World} {r : Reach} {b0 base : Nat} {sp : Nat → Bool} {held : Bool} {v : Value} {d : DataW H} {p : List MemPlace}
    (hv : Value.okWide Tryd.prog W r b0 30 v) (h : DataW.Trod enc Tryd.prog W base sp held 30 v d p) :
    ∃ (q : Option Addr) (n c : Nat) (D : Nat → Int × Int), v = .slice q n c ∧ IsList W q n c D := by
  obtain ⟨q, n, c, rfl⟩ := okWide_slice Tryd.underlying30 hv
  refine ⟨q, n, c, ?_⟩
  obtain ⟨fuel, hf⟩ := h
  rcases open_slice_pairs Tryd.underlying30 Tryd.underlying23 (by kernel_rfl) rfl rfl (by kernel_rfl) (by kernel_rfl) hf with ⟨hc, _⟩ | ⟨a, len, cap, m, k, V0, V1, D0, D1, P0, P1, hc, _, hl, hm, hmm, _, hx⟩
  · have hc : Value.slice q n c = .slice none 0 0 := by simpa [Value.cells] using hc
    injection hc with h1 h2 h3
    exact ⟨fun _ => (0, 0), rfl, Or.inl ⟨h1, h2, h3⟩⟩
  · have hc : Value.slice q n c = .slice (some a) len cap := by simpa [Value.cells] using hc
    injection hc with h1 h2 h3
    subst h1 h2 h3
    have hnm : n ≤ m := by rw [hmm]; split <;> omega
    have each : ∀ i, i < n → ∃ z : Int × Int, W.cell? (a.add (i * 2)) = some (.int .i64 z.1) ∧ W.cell? (a.add (i * 2 + 1)) = some (.int .i64 z.2) := by
      intro i hi
      obtain ⟨e0, e1, t0, t1⟩ := hx i (by omega)
      obtain ⟨x, hx0, _, _⟩ := DataW.trod_int Tryd.underlying3 t0
      obtain ⟨y, hy0, _, _⟩ := DataW.trod_int Tryd.underlying3 t1
      injection hx0 with hx0 _
      injection hy0 with hy0 _
      exact ⟨(x, y), by rw [e0, hx0], by rw [e1, hy0]⟩
    obtain ⟨D, hD⟩ := choose_lt each
    refine ⟨D, rfl, Or.inr ⟨a, rfl, by unfold maxLen at hm; omega, fun h0 => ?_⟩⟩
    obtain ⟨b, off, spot⟩ := a
    have hs := World.cell?_spot (hD 0 h0).1
    have hs : spot = none := by simpa [Addr.add] using hs
    subst hs
    refine ⟨rfl, ?_, fun j hj => ?_⟩
    · have c0 := (hD 0 h0).1
      rcases Nat.lt_or_ge b W.heap.size with hb | hb
      · exact hb
      · simp [World.cell?, Addr.add, Array.getElem?_eq_none hb] at c0
    · have h2 := hD j hj
      rw [Addr.add_lit, Addr.add_lit] at h2
      simpa [Nat.add_assoc] using h2
end Go.Proofs.YtbllolalfmgfoaaDoor.Aid
