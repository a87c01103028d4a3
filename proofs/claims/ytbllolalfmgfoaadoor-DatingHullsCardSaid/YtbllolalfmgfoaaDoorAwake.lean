/- The months' table stays where it is behind whatever a call lays. -/
import Derived.Test.YtbllolalfmgfoaaDoorText
namespace Go.Proofs.YtbllolalfmgfoaaDoor
open Go.RowKit

theorem Tab.below {w w' : World} (h : Tab w) (hb : Below w.heap.size w w') : Tab w' := by
  obtain ⟨hz, t0, t1, t2, t3, t4, t5, t6, t7, t8, t9, t10, t11⟩ := h
  have c : ∀ o, w'.cell? ⟨0, o, none⟩ = w.cell? ⟨0, o, none⟩ := fun o => hb.cell (p := ⟨0, o, none⟩) hz
  exact ⟨Nat.lt_of_lt_of_le hz hb.size, by rw [c, t0], by rw [c, t1], by rw [c, t2], by rw [c, t3], by rw [c, t4], by rw [c, t5], by rw [c, t6], by rw [c, t7], by rw [c, t8], by rw [c, t9], by rw [c, t10], by rw [c, t11]⟩
theorem Tab.alloc {w : World} (h : Tab w) (o : Obj) : Tab (w.alloc o) := h.below ((Below.refl _ _).alloc (Nat.le_refl _) o)
end Go.Proofs.YtbllolalfmgfoaaDoor
