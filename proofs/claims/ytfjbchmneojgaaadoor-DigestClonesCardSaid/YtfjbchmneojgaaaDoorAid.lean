/- Small lemmas for opening arguments: an array of integers that came in by value. -/
import Derived.Test.YtfjbchmneojgaaaDoorRows
import Derived.WalkKit
import Derived.ProofKit
import Derived.OpenShut
namespace Go.Proofs.YtfjbchmneojgaaaDoor.Aid
open Go Go.ChangeShapes Go.WideShapes Go.ChangeAt Go.RowKit

theorem ints_of {k : IntKind} : ∀ (l : List Value), (∀ i, i < l.length → ∃ z : Int, l[i]? = some (.int k z) ∧ (Lit.int k z).wf = true) →
    ∃ zs : List Int, l = zs.map (Value.int k) ∧ ∀ z ∈ zs, (Lit.int k z).wf = true
  | [], _ => ⟨[], rfl, fun _ h => by cases h⟩
  | v :: l, h => by
    obtain ⟨z, hz, wz⟩ := h 0 (by simp)
    obtain ⟨zs, rfl, hw⟩ := ints_of l (fun i hi => by simpa using h (i + 1) (by simpa using hi))
    simp at hz
    subst hz
    refine ⟨z :: zs, rfl, fun y hy => ?_⟩
    cases hy with
    | head => exact wz
    | tail _ hy => exact hw y hy

theorem open_ints_arr {H : Type} {enc : TypeId × Value → H} {P : Program} {W : World} {r : Reach} {b0 base : Nat} {sp : Nat → Bool} {held : Bool} {t e : TypeId} {n : Nat} {k : IntKind} {v : Value} {d : DataW H} {p : List MemPlace}
    (ht : P.underlying t = some (.array n e)) (he : P.underlying e = some (.int k)) (hce : P.cellsOf e = 1) (hct : P.cellsOf t = n)
    (hv : Value.okWide P W r b0 t v) (h : DataW.Trod enc P W base sp held t v d p) :
    ∃ zs : List Int, zs.length = n ∧ v = .agg (zs.map (Value.int k)).toArray ∧ ∀ z ∈ zs, (Lit.int k z).wf = true := by
  obtain ⟨cs, rfl, hsz⟩ : ∃ cs : Array Value, v = .agg cs ∧ cs.size = n := by
    simp only [Value.okWide, ht] at hv
    obtain ⟨cs, h1, h2, _⟩ := hv
    exact ⟨cs, h1, by rw [h2, hct]⟩
  obtain ⟨fuel, hf⟩ := h
  obtain ⟨xs, m, _, _, _, hl, hel⟩ := DataW.trod_array ht hf
  simp only [hce, Nat.mul_one, Value.cells] at hel
  obtain ⟨zs, hz, hw⟩ := ints_of (k := k) cs.toList (fun i hi => by
    have hi' : i < n := by rw [← hsz]; simpa using hi
    have hx := hel i hi'
    have hxi : i < xs.length := by rw [hl]; exact hi'
    rw [List.getElem?_eq_getElem hxi] at hx
    obtain ⟨z, hc, _, wz⟩ := DataW.trod_int he hx
    refine ⟨z, ?_, wz⟩
    have := congrArg (·[0]?) hc
    simpa [List.getElem?_take, List.getElem?_drop] using this)
  refine ⟨zs, ?_, ?_, hw⟩
  · have := congrArg List.length hz
    simp at this
    omega
  · rw [← hz]

theorem list3 {α : Type} : ∀ l : List α, l.length = 3 → ∃ a b c, l = [a, b, c]
  | [a, b, c], _ => ⟨a, b, c, rfl⟩
end Go.Proofs.YtfjbchmneojgaaaDoor.Aid
