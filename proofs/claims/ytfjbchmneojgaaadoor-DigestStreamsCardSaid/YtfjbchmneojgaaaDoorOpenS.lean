/- Opening a list of lists of strings. -/
import Derived.Test.YtfjbchmneojgaaaDoorStreams
import Derived.Test.YtfjbchmneojgaaaDoorAid
import Derived.Deep.Strs
namespace Go.Proofs.YtfjbchmneojgaaaDoor.Aid
open Go Go.ChangeShapes Go.WideShapes Go.ChangeAt Go.RowKit Go.Deep

theorem spot_none {W : World} {a : Addr} {v : Value} (h : W.cell? (a.add 0) = some v) : a.spot = none := by
  obtain ⟨b, off, spot⟩ := a
  have hs := World.cell?_spot h
  simpa [Addr.add] using hs
theorem block_lt {W : World} {b off : Nat} {v : Value} (h : W.cell? ⟨b, off, none⟩ = some v) : b < W.heap.size := by
  rcases Nat.lt_or_ge b W.heap.size with hb | hb
  · exact hb
  · simp [World.cell?, Array.getElem?_eq_none hb] at h
theorem open_inner {H : Type} {enc : TypeId × Value → H} {W : World} {base fuel : Nat} {sp : Nat → Bool} {held : Bool} {v : Value} {x : DataW H × List MemPlace}
    (h : DataW.trod enc Tryd.prog W base sp held fuel 38 [v] = some x) :
    ∃ (q : Option Addr) (m c : Nat) (S : Nat → ByteArray), v = .slice q m c ∧ Inner W q m c S := by
  rcases open_strs Tryd.underlying38 Tryd.underlying9 (by kernel_rfl) h with ⟨hc, _⟩ | ⟨a, len, cap, m, S, hc, _, hl, hm, hmm, _, hx⟩
  · have hc : v = .slice none 0 0 := by simpa using hc
    exact ⟨none, 0, 0, fun _ => ⟨#[]⟩, hc, Or.inl ⟨rfl, rfl, rfl⟩⟩
  · have hc : v = .slice (some a) len cap := by simpa using hc
    have hlm : len ≤ m := by rw [hmm]; split <;> omega
    refine ⟨some a, len, cap, S, hc, Or.inr ⟨a, rfl, by unfold maxLen at hm; omega, fun h0 => ?_⟩⟩
    have c0 := (hx 0 (by omega)).1
    have hs := spot_none c0
    obtain ⟨b, off, spot⟩ := a
    simp only at hs
    subst hs
    refine ⟨rfl, ?_, fun j hj => ?_⟩
    · rw [Addr.add_lit] at c0
      exact block_lt c0
    · have := (hx j (by omega)).1
      rwa [Addr.add_lit] at this
theorem open_outer {H : Type} {enc : TypeId × Value → H} {W : World} {r : Reach} {b0 base : Nat} {sp : Nat → Bool} {held : Bool} {v : Value} {d : DataW H} {p : List MemPlace}
    (hv : Value.okWide Tryd.prog W r b0 34 v) (h : DataW.Trod enc Tryd.prog W base sp held 34 v d p) :
    ∃ (q : Option Addr) (n c : Nat) (Q : Nat → Option Addr) (M C : Nat → Nat) (S : Nat → Nat → ByteArray), v = .slice q n c ∧ n ≤ 9223372036854775807 ∧ (0 < n → ∃ b off, q = some ⟨b, off, none⟩ ∧ Outer W b off n Q M C S) := by
  obtain ⟨q, n, c, rfl⟩ := okWide_slice Tryd.underlying34 hv
  obtain ⟨fuel, hf⟩ := h
  rcases open_slice1 Tryd.underlying34 (by kernel_rfl) hf with ⟨hc, _⟩ | ⟨a, len, cap, m, k, V, D, Pl, hc, _, hl, hm, hmm, _, hx⟩
  · have hc : Value.slice q n c = .slice none 0 0 := by simpa [Value.cells] using hc
    injection hc with h1 h2 h3
    exact ⟨q, n, c, fun _ => none, fun _ => 0, fun _ => 0, fun _ _ => ⟨#[]⟩, rfl, by omega, fun h => by omega⟩
  · have hc : Value.slice q n c = .slice (some a) len cap := by simpa [Value.cells] using hc
    injection hc with h1 h2 h3
    subst h1 h2 h3
    have hnm : n ≤ m := by rw [hmm]; split <;> omega
    have each : ∀ i, i < n → ∃ z : Option Addr × Nat × Nat × (Nat → ByteArray), V i = .slice z.1 z.2.1 z.2.2.1 ∧ Inner W z.1 z.2.1 z.2.2.1 z.2.2.2 := fun i hi => by
      obtain ⟨q, m, c, S, h1, h2⟩ := open_inner (hx i (by omega)).2
      exact ⟨(q, m, c, S), h1, h2⟩
    obtain ⟨Z, hZ⟩ := choose_lt each
    refine ⟨some a, n, c, fun i => (Z i).1, fun i => (Z i).2.1, fun i => (Z i).2.2.1, fun i => (Z i).2.2.2, rfl, by unfold maxLen at hm; omega, fun h0 => ?_⟩
    have c0 := (hx 0 (by omega)).1
    have hs := spot_none c0
    obtain ⟨b, off, spot⟩ := a
    simp only at hs
    subst hs
    refine ⟨b, off, rfl, ?_, fun i hi => ?_⟩
    · rw [Addr.add_lit] at c0
      exact block_lt c0
    · have c1 := (hx i (by omega)).1
      rw [Addr.add_lit, (hZ i hi).1] at c1
      exact ⟨c1, (hZ i hi).2⟩
end Go.Proofs.YtfjbchmneojgaaaDoor.Aid
