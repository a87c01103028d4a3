/- Opening arguments: lists of offices, lists of numbers. -/
import Derived.Test.YtlmgjgcdfhccaaaOZ
import Derived.WalkKit
import Derived.ProofKit
import Derived.OpenShut
import Derived.ChangeSlices
import Derived.Deep.Strs
import Derived.Deep.SlicePairs
namespace Go.Proofs.Ytlmgjgcdfhccaaa.Aid
open Go Go.ChangeShapes Go.WideShapes Go.ChangeAt Go.RowKit Go.Deep

theorem spot_none {W : World} {a : Addr} {v : Value} (h : W.cell? (a.add 0) = some v) : a.spot = none := by
  obtain ⟨b, off, spot⟩ := a
  have hs := World.cell?_spot h
  simpa [Addr.add] using hs
theorem block_lt {W : World} {b off : Nat} {v : Value} (h : W.cell? ⟨b, off, none⟩ = some v) : b < W.heap.size := by
  rcases Nat.lt_or_ge b W.heap.size with hb | hb
  · exact hb
  · simp [World.cell?, Array.getElem?_eq_none hb] at h
theorem bounds_i64 {z : Int} (h : (Lit.int .i64 z).wf = true) : W64 z := by
  have e1 : IntKind.i64.min = -9223372036854775808 := rfl
  have e2 : IntKind.i64.max = 9223372036854775807 := rfl
  simp [Lit.wf, e1, e2] at h
  exact h
set_option maxRecDepth 100000 in
theorem open_nx {H : Type} {enc : TypeId × Value → H} {W : World} {base fuel : Nat} {sp : Nat → Bool} {held : Bool} {v : Value} {x : DataW H × List MemPlace}
    (hf : DataW.trod enc Try.prog W base sp held fuel 28 [v] = some x) :
    ∃ (zs : List Int) (p : Option Addr) (c : Nat), v = .slice p zs.length c ∧ IsZ W (.slice p zs.length c) zs ∧ ∀ z ∈ zs, W64 z := by
  rcases open_ints Try.underlying28 Try.underlying3 (by kernel_rfl) hf with ⟨hc, _⟩ | ⟨a, len, cap, zs, hc, _, hl, _, hlen, _, hx, hw⟩
  · have hc : v = .slice none 0 0 := by simpa using hc
    subst hc
    exact ⟨[], none, 0, rfl, isZ_nil _, fun z h => by cases h⟩
  · have hc : v = .slice (some a) len cap := by simpa using hc
    subst hc
    have hlz : len ≤ zs.length := by rw [hlen]; split <;> omega
    have el : (zs.take len).length = len := by rw [List.length_take]; omega
    refine ⟨zs.take len, some a, cap, by rw [el], ⟨some a, cap, rfl, by rw [el]; exact hl, fun h0 => ?_⟩, fun z hz => bounds_i64 (hw z (List.mem_of_mem_take hz))⟩
    rw [el] at h0
    have c0 := hx 0 (by omega)
    have hs := spot_none c0
    obtain ⟨b, off, spot⟩ := a
    simp only at hs
    subst hs
    refine ⟨b, off, rfl, ?_, fun j hj => ?_⟩
    · rw [Addr.add_lit] at c0
      exact block_lt c0
    · rw [el] at hj
      have := hx j (by omega)
      rw [Addr.add_lit] at this
      rw [this]
      simp [List.getElem?_eq_getElem (show j < zs.length by omega)]
set_option maxRecDepth 100000 in
theorem open_zs {H : Type} {enc : TypeId × Value → H} {W : World} {r : Reach} {b0 base : Nat} {sp : Nat → Bool} {held : Bool} {v : Value} {d : DataW H} {p : List MemPlace}
    (hv : Value.okWide Try.prog W r b0 28 v) (h : DataW.Trod enc Try.prog W base sp held 28 v d p) :
    ∃ zs : List Int, IsZ W v zs ∧ ∀ z ∈ zs, W64 z := by
  obtain ⟨q, n, c, rfl⟩ := okWide_slice Try.underlying28 hv
  obtain ⟨fuel, hf⟩ := h
  obtain ⟨zs, p, c', e, hz, hw⟩ := open_nx (v := .slice q n c) (by simpa [Value.cells] using hf)
  exact ⟨zs, by rw [e]; exact hz, hw⟩
set_option maxRecDepth 100000 in
theorem open_span {H : Type} {enc : TypeId × Value → H} {W : World} {base fuel : Nat} {sp : Nat → Bool} {held : Bool} {v0 v1 : Value} {x : DataW H × List MemPlace}
    (h : DataW.trod enc Try.prog W base sp held fuel 41 [v0, v1] = some x) : ∃ f u : Int, v0 = .int .i64 f ∧ v1 = .int .i64 u ∧ W64 f ∧ W64 u := by
  obtain ⟨xs, k, _, _, _, hxl, hf⟩ := DataW.trod_struct Try.underlying41 h
  match xs, hxl with
  | [y0, y1], _ =>
    have g0 := hf 0 _ rfl
    have g1 := hf 1 _ rfl
    have c0 : Try.prog.cellsOf 3 = 1 := by kernel_rfl
    simp [c0] at g0 g1
    obtain ⟨f, hf0, _, wf⟩ := DataW.trod_int Try.underlying3 g0
    obtain ⟨u, hu0, _, wu⟩ := DataW.trod_int Try.underlying3 g1
    injection hf0 with hf0 _
    injection hu0 with hu0 _
    exact ⟨f, u, hf0, hu0, bounds_i64 wf, bounds_i64 wu⟩
set_option maxRecDepth 100000 in
theorem open_office {H : Type} {enc : TypeId × Value → H} {W : World} {base fuel : Nat} {sp : Nat → Bool} {held : Bool} {v0 v1 v2 v3 v4 : Value} {x : DataW H × List MemPlace}
    (h : DataW.trod enc Try.prog W base sp held fuel 43 [v0, v1, v2, v3, v4] = some x) :
    ∃ o : Ow, v0 = .int .i64 o.id ∧ v1 = .string o.nm ∧ v2 = .int .i64 o.fr ∧ v3 = .int .i64 o.un ∧ v4 = .slice o.p o.nx.length o.c ∧ IsZ W (.slice o.p o.nx.length o.c) o.nx ∧ (W64 o.id ∧ W64 o.fr ∧ W64 o.un ∧ ∀ x ∈ o.nx, W64 x) := by
  obtain ⟨xs, k, _, _, _, hxl, hf⟩ := DataW.trod_struct Try.underlying43 h
  match xs, hxl with
  | [y0, y1, y2, y3], _ =>
    have g0 := hf 0 _ rfl
    have g1 := hf 1 _ rfl
    have g2 := hf 2 _ rfl
    have g3 := hf 3 _ rfl
    have c0 : Try.prog.cellsOf 3 = 1 := by kernel_rfl
    have c1 : Try.prog.cellsOf 9 = 1 := by kernel_rfl
    have c2 : Try.prog.cellsOf 41 = 2 := by kernel_rfl
    have c3 : Try.prog.cellsOf 28 = 1 := by kernel_rfl
    simp [c0, c1, c2, c3] at g0 g1 g2 g3
    obtain ⟨i, hi, _, wi⟩ := DataW.trod_int Try.underlying3 g0
    obtain ⟨s, hs, _, _⟩ := DataW.trod_string Try.underlying9 g1
    obtain ⟨f, u, h2, h3, wf, wu⟩ := open_span g2
    obtain ⟨zs, p, c, h4, hz, hw⟩ := open_nx g3
    injection hi with hi _
    injection hs with hs _
    exact ⟨⟨i, s, f, u, zs, p, c⟩, hi, hs, h2, h3, h4, hz, bounds_i64 wi, wf, wu, hw⟩
set_option maxRecDepth 100000 in
theorem open_offices {H : Type} {enc : TypeId × Value → H} {W : World} {r : Reach} {b0 base : Nat} {sp : Nat → Bool} {held : Bool} {v : Value} {d : DataW H} {p : List MemPlace}
    (hv : Value.okWide Try.prog W r b0 22 v) (h : DataW.Trod enc Try.prog W base sp held 22 v d p) :
    ∃ (q : Option Addr) (n c : Nat) (S : Nat → Ow), v = .slice q n c ∧ n ≤ c ∧ IsW W q n S := by
  obtain ⟨q, n, c, rfl⟩ := okWide_slice Try.underlying22 hv
  obtain ⟨fuel, hf⟩ := h
  rcases open_slice Try.underlying22 hf with ⟨hc, _⟩ | ⟨a, len, cap, m, k, D, Pl, hc, _, hl, hm, hmm, _, hx⟩
  · have hc : Value.slice q n c = .slice none 0 0 := by simpa [Value.cells] using hc
    injection hc with h1 h2 h3
    subst h1 h2 h3
    exact ⟨none, 0, 0, fun _ => ⟨0, ⟨#[]⟩, 0, 0, [], none, 0⟩, rfl, Nat.le_refl _, fun h => absurd h (by omega)⟩
  · have hc : Value.slice q n c = .slice (some a) len cap := by simpa [Value.cells] using hc
    injection hc with h1 h2 h3
    subst h1 h2 h3
    have hnm : n ≤ m := by rw [hmm]; split <;> omega
    have ce : Try.prog.cellsOf 43 = 5 := by kernel_rfl
    have each : ∀ i, i < n → ∃ o : Ow, W.cell? (a.add (i * 5)) = some (.int .i64 o.id) ∧ W.cell? (a.add (i * 5 + 1)) = some (.string o.nm) ∧ W.cell? (a.add (i * 5 + 2)) = some (.int .i64 o.fr) ∧ W.cell? (a.add (i * 5 + 3)) = some (.int .i64 o.un) ∧ W.cell? (a.add (i * 5 + 4)) = some (.slice o.p o.nx.length o.c) ∧ IsZ W (.slice o.p o.nx.length o.c) o.nx ∧ (W64 o.id ∧ W64 o.fr ∧ W64 o.un ∧ ∀ x ∈ o.nx, W64 x) := by
      intro i hi
      obtain ⟨cs', e1, e2⟩ := hx i (by omega)
      rw [ce] at e1
      obtain ⟨_, hlen, hcell⟩ := World.cells?_some e1
      match cs', hlen with
      | [v0, v1, v2, v3, v4], _ =>
        obtain ⟨o, rfl, rfl, rfl, rfl, rfl, hz, hw⟩ := open_office e2
        have k0 := hcell 0 (by omega)
        have k1 := hcell 1 (by omega)
        have k2 := hcell 2 (by omega)
        have k3 := hcell 3 (by omega)
        have k4 := hcell 4 (by omega)
        rw [add_add] at k0 k1 k2 k3 k4
        exact ⟨o, by simpa using k0, by simpa using k1, by simpa using k2, by simpa using k3, by simpa using k4, hz, hw⟩
    haveI : Inhabited Ow := ⟨⟨0, ⟨#[]⟩, 0, 0, [], none, 0⟩⟩
    obtain ⟨P, hP⟩ := choose_lt each
    refine ⟨some a, n, c, P, rfl, hl, fun h0 => ?_⟩
    have c0 := (hP 0 h0).1
    have hs := spot_none c0
    obtain ⟨b, off, spot⟩ := a
    simp only at hs
    subst hs
    refine ⟨b, off, rfl, fun j hj => ?_⟩
    obtain ⟨k0, k1, k2, k3, k4, hz, hw⟩ := hP j hj
    rw [Addr.add_lit] at k0 k1 k2 k3 k4 c0
    have L := block_lt c0
    exact ⟨L, k0, by simpa [Nat.add_assoc] using k1, by simpa [Nat.add_assoc] using k2, by simpa [Nat.add_assoc] using k3, by simpa [Nat.add_assoc] using k4, hz, hw⟩
end Go.Proofs.Ytlmgjgcdfhccaaa.Aid
