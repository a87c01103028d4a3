/- Opening arguments: a list of numbers, a list of strings. -/
import Derived.Test.YtnjnjcgbdhiigaaGreatDoorDD
import Derived.WalkKit
import Derived.ProofKit
import Derived.OpenShut
import Derived.ChangeSlices
import Derived.Deep.Strs
import Derived.Deep.SlicePairs
namespace Go.Proofs.YtnjnjcgbdhiigaaGreatDoor.Aid2
open Go Go.ChangeShapes Go.WideShapes Go.ChangeAt Go.RowKit Go.Deep
theorem spot_none {W : World} {a : Addr} {v : Value} (h : W.cell? (a.add 0) = some v) : a.spot = none := by
  obtain ⟨b, off, spot⟩ := a
  have hs := World.cell?_spot h
  simpa [Addr.add] using hs
theorem block_lt {W : World} {b off : Nat} {v : Value} (h : W.cell? ⟨b, off, none⟩ = some v) : b < W.heap.size := by
  rcases Nat.lt_or_ge b W.heap.size with hb | hb
  · exact hb
  · simp [World.cell?, Array.getElem?_eq_none hb] at h
theorem bounds_i64 {z : Int} (h : (Lit.int .i64 z).wf = true) : -9223372036854775808 ≤ z ∧ z ≤ 9223372036854775807 := by
  have e1 : IntKind.i64.min = -9223372036854775808 := rfl
  have e2 : IntKind.i64.max = 9223372036854775807 := rfl
  simp [Lit.wf, e1, e2] at h
  exact h
set_option maxRecDepth 100000 in
theorem open_zs {H : Type} {enc : TypeId × Value → H} {W : World} {r : Reach} {b0 base : Nat} {sp : Nat → Bool} {held : Bool} {v : Value} {d : DataW H} {p : List MemPlace}
    (hv : Value.okWide Tryz.prog W r b0 22 v) (h : DataW.Trod enc Tryz.prog W base sp held 22 v d p) :
    ∃ zs : List Int, IsZ W v zs ∧ ∀ z ∈ zs, -9223372036854775808 ≤ z ∧ z ≤ 9223372036854775807 := by
  obtain ⟨q, n, c, rfl⟩ := okWide_slice Tryz.underlying22 hv
  obtain ⟨fuel, hf⟩ := h
  rcases open_ints Tryz.underlying22 Tryz.underlying3 (by kernel_rfl) hf with ⟨hc, _⟩ | ⟨a, len, cap, zs, hc, _, hl, _, hlen, _, hx, hw⟩
  · have hc : Value.slice q n c = .slice none 0 0 := by simpa [Value.cells] using hc
    obtain ⟨rfl, rfl, rfl⟩ := Value.slice.inj hc
    exact ⟨[], ⟨none, 0, rfl, Nat.le_refl _, fun h => absurd h (by simp)⟩, fun z h => by cases h⟩
  · have hc : Value.slice q n c = .slice (some a) len cap := by simpa [Value.cells] using hc
    obtain ⟨rfl, rfl, rfl⟩ := Value.slice.inj hc
    have hlz : n ≤ zs.length := by rw [hlen]; split <;> omega
    have el : (zs.take n).length = n := by rw [List.length_take]; omega
    refine ⟨zs.take n, ⟨some a, c, by rw [el], by rw [el]; exact hl, fun h0 => ?_⟩, fun z hz => bounds_i64 (hw z (List.mem_of_mem_take hz))⟩
    rw [el] at h0
    have c0 := hx 0 (by omega)
    have hs := spot_none c0
    obtain ⟨b, off, spot⟩ := a
    simp only at hs
    subst hs
    refine ⟨b, off, rfl, ?_, fun j hj => ?_⟩
    · rw [Addr.add_lit] at c0
      exact block_lt c0
    · rw [el] at hj
      have := hx j (by omega)
      rw [Addr.add_lit] at this
      rw [this]
      simp [List.getElem?_eq_getElem (show j < zs.length by omega)]
set_option maxRecDepth 100000 in
theorem open_ts {H : Type} {enc : TypeId × Value → H} {W : World} {r : Reach} {b0 base : Nat} {sp : Nat → Bool} {held : Bool} {v : Value} {d : DataW H} {p : List MemPlace}
    (hv : Value.okWide Tryz.prog W r b0 33 v) (h : DataW.Trod enc Tryz.prog W base sp held 33 v d p) :
    ∃ (q : Option Addr) (n c : Nat) (S : Nat → ByteArray), v = .slice q n c ∧ n ≤ c ∧ n ≤ 9223372036854775807 ∧ (0 < n → ∃ g off, q = some ⟨g, off, none⟩ ∧ g < W.heap.size ∧ ∀ j, j < n → W.cell? ⟨g, off + j, none⟩ = some (.string (S j))) := by
  obtain ⟨q, n, c, rfl⟩ := okWide_slice Tryz.underlying33 hv
  obtain ⟨fuel, hf⟩ := h
  rcases open_strs Tryz.underlying33 Tryz.underlying9 (by kernel_rfl) hf with ⟨hc, _⟩ | ⟨a, len, cap, m, S, hc, _, hl, hm, hmm, _, hx⟩
  · have hc : Value.slice q n c = .slice none 0 0 := by simpa [Value.cells] using hc
    obtain ⟨rfl, rfl, rfl⟩ := Value.slice.inj hc
    exact ⟨none, 0, 0, fun _ => ⟨#[]⟩, rfl, Nat.le_refl _, by omega, fun h => absurd h (by omega)⟩
  · have hc : Value.slice q n c = .slice (some a) len cap := by simpa [Value.cells] using hc
    obtain ⟨rfl, rfl, rfl⟩ := Value.slice.inj hc
    have hlm : n ≤ m := by rw [hmm]; split <;> omega
    refine ⟨some a, n, c, S, rfl, hl, by unfold maxLen at hm; omega, fun h0 => ?_⟩
    have c0 := (hx 0 (by omega)).1
    have hs := spot_none c0
    obtain ⟨b, off, spot⟩ := a
    simp only at hs
    subst hs
    refine ⟨b, off, rfl, ?_, fun j hj => ?_⟩
    · rw [Addr.add_lit] at c0
      exact block_lt c0
    · have := (hx j (by omega)).1
      rwa [Addr.add_lit] at this
end Go.Proofs.YtnjnjcgbdhiigaaGreatDoor.Aid2
