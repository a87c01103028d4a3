/- Opening a list of pieces that came in as an argument. -/
import Derived.Test.YtekigilhmdphnaaTN
import Derived.WalkKit
import Derived.ProofKit
import Derived.OpenShut
import Derived.Deep.SlicePairs
import Derived.Lib.SmallJoins
namespace Go.Proofs.Ytekigilhmdphnaa.Aid
open Go Go.ChangeShapes Go.WideShapes Go.ChangeAt Go.RowKit Go.Deep

theorem spot_none {W : World} {a : Addr} {v : Value} (h : W.cell? (a.add 0) = some v) : a.spot = none := by
  obtain ⟨b, off, spot⟩ := a
  have hs := World.cell?_spot h
  simpa [Addr.add] using hs
theorem block_lt {W : World} {b off : Nat} {v : Value} (h : W.cell? ⟨b, off, none⟩ = some v) : b < W.heap.size := by
  rcases Nat.lt_or_ge b W.heap.size with hb | hb
  · exact hb
  · simp [World.cell?, Array.getElem?_eq_none hb] at h
theorem open_span {H : Type} {enc : TypeId × Value → H} {W : World} {base fuel : Nat} {sp : Nat → Bool} {held : Bool} {v0 v1 : Value} {x : DataW H × List MemPlace}
    (h : DataW.trod enc Try.prog W base sp held fuel 33 [v0, v1] = some x) : ∃ f u : Int, v0 = .int .i64 f ∧ v1 = .int .i64 u := by
  obtain ⟨xs, k, _, _, _, hxl, hf⟩ := DataW.trod_struct Try.underlying33 h
  match xs, hxl with
  | [y0, y1], _ =>
    have g0 := hf 0 _ rfl
    have g1 := hf 1 _ rfl
    have c0 : Try.prog.cellsOf 3 = 1 := by kernel_rfl
    simp [c0] at g0 g1
    obtain ⟨f, hf0, _, _⟩ := DataW.trod_int Try.underlying3 g0
    obtain ⟨u, hu0, _, _⟩ := DataW.trod_int Try.underlying3 g1
    injection hf0 with hf0 _
    injection hu0 with hu0 _
    exact ⟨f, u, hf0, hu0⟩
theorem open_piece {H : Type} {enc : TypeId × Value → H} {W : World} {base fuel : Nat} {sp : Nat → Bool} {held : Bool} {v0 v1 v2 : Value} {x : DataW H × List MemPlace}
    (h : DataW.trod enc Try.prog W base sp held fuel 47 [v0, v1, v2] = some x) : ∃ p : Pc, v0 = .int .i64 p.f ∧ v1 = .int .i64 p.u ∧ v2 = .int .i64 p.v := by
  obtain ⟨xs, k, _, _, _, hxl, hf⟩ := DataW.trod_struct Try.underlying47 h
  match xs, hxl with
  | [y0, y1], _ =>
    have g0 := hf 0 _ rfl
    have g1 := hf 1 _ rfl
    have c0 : Try.prog.cellsOf 3 = 1 := by kernel_rfl
    have c1 : Try.prog.cellsOf 33 = 2 := by kernel_rfl
    simp [c0, c1] at g0 g1
    obtain ⟨f, u, h0, h1⟩ := open_span g0
    obtain ⟨v, hv, _, _⟩ := DataW.trod_int Try.underlying3 g1
    injection hv with hv _
    exact ⟨⟨f, u, v⟩, h0, h1, hv⟩
set_option maxRecDepth 100000 in
theorem open_pieces {H : Type} {enc : TypeId × Value → H} {W : World} {r : Reach} {b0 base : Nat} {sp : Nat → Bool} {held : Bool} {v : Value} {d : DataW H} {p : List MemPlace}
    (hv : Value.okWide Try.prog W r b0 22 v) (h : DataW.Trod enc Try.prog W base sp held 22 v d p) :
    ∃ (q : Option Addr) (n c : Nat) (P : Nat → Pc), v = .slice q n c ∧ IsP W q n c P := by
  obtain ⟨q, n, c, rfl⟩ := okWide_slice Try.underlying22 hv
  refine ⟨q, n, c, ?_⟩
  obtain ⟨fuel, hf⟩ := h
  rcases open_slice Try.underlying22 hf with ⟨hc, _⟩ | ⟨a, len, cap, m, k, D, Pl, hc, _, hl, hm, hmm, _, hx⟩
  · have hc : Value.slice q n c = .slice none 0 0 := by simpa [Value.cells] using hc
    injection hc with h1 h2 h3
    exact ⟨fun _ => ⟨0, 0, 0⟩, rfl, Or.inl ⟨h1, h2, h3⟩⟩
  · have hc : Value.slice q n c = .slice (some a) len cap := by simpa [Value.cells] using hc
    injection hc with h1 h2 h3
    subst h1 h2 h3
    have hnm : n ≤ m := by rw [hmm]; split <;> omega
    have ce : Try.prog.cellsOf 47 = 3 := by kernel_rfl
    have each : ∀ i, i < n → ∃ z : Pc, W.cell? (a.add (i * 3)) = some (.int .i64 z.f) ∧ W.cell? (a.add (i * 3 + 1)) = some (.int .i64 z.u) ∧ W.cell? (a.add (i * 3 + 2)) = some (.int .i64 z.v) := by
      intro i hi
      obtain ⟨cs', e1, e2⟩ := hx i (by omega)
      rw [ce] at e1
      obtain ⟨_, hlen, hcell⟩ := World.cells?_some e1
      match cs', hlen with
      | [v0, v1, v2], _ =>
        obtain ⟨z, rfl, rfl, rfl⟩ := open_piece e2
        have k0 := hcell 0 (by omega)
        have k1 := hcell 1 (by omega)
        have k2 := hcell 2 (by omega)
        rw [add_add] at k0 k1 k2
        exact ⟨z, by simpa using k0, by simpa using k1, by simpa using k2⟩
    obtain ⟨P, hP⟩ := choose_lt each
    refine ⟨P, rfl, Or.inr ⟨a, rfl, Nat.le_trans hl (Nat.le_trans hm (by decide)), fun h0 => ?_⟩⟩
    have c0 := (hP 0 h0).1
    have hs := spot_none c0
    obtain ⟨b, off, spot⟩ := a
    simp only at hs
    subst hs
    refine ⟨rfl, ?_, fun j hj => ?_⟩
    · rw [Addr.add_lit] at c0
      exact block_lt c0
    · have h2 := hP j hj
      rw [Addr.add_lit, Addr.add_lit, Addr.add_lit] at h2
      simpa [Nat.add_assoc] using h2
theorem open_two {H : Type} {enc : TypeId × Value → H} {P : Program} {W : World} {r : Reach} {b0 base : Nat} {sp : Nat → Bool} {held : Bool} {t : TypeId} {f0 f1 : Field} {k : IntKind} {v : Value} {d : DataW H} {p : List MemPlace}
    (ht : P.underlying t = some (.struct #[f0, f1])) (hone : oneCellFields P #[f0, f1] = true) (hC : P.cellsOf t = 2) (h0 : P.underlying f0.type = some (.int k)) (h1 : P.underlying f1.type = some (.int k))
    (hv : Value.okWide P W r b0 t v) (h : DataW.Trod enc P W base sp held t v d p) :
    ∃ a b : Int, v = .agg #[.int k a, .int k b] ∧ (Lit.int k a).wf = true ∧ (Lit.int k b).wf = true := by
  obtain ⟨v0, v1, y0, y1, n, rfl, _, _, e0, e1⟩ := Go.Joins.open_agg2 ht hone hC hv h
  obtain ⟨a, ha, _, wa⟩ := DataW.trod_int h0 e0
  obtain ⟨b, hb, _, wb⟩ := DataW.trod_int h1 e1
  injection ha with ha _
  injection hb with hb _
  exact ⟨a, b, by rw [ha, hb], wa, wb⟩
end Go.Proofs.Ytekigilhmdphnaa.Aid
