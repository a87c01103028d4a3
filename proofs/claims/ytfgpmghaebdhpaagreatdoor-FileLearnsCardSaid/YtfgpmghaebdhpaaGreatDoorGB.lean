/- A number of 16 bits. -/
import Derived.Test.YtfgpmghaebdhpaaGreatDoorFZ
namespace Go.Proofs.YtfgpmghaebdhpaaGreatDoor
open Go.RowKit Go.Shelf

theorem bounds_u16 {z : Int} (h : (Lit.int .u16 z).wf = true) : 0 ≤ z ∧ z ≤ 65535 := by
  have e1 : IntKind.u16.min = 0 := rfl
  have e2 : IntKind.u16.max = 65535 := rfl
  simp [Lit.wf, e1, e2] at h
  exact h
end Go.Proofs.YtfgpmghaebdhpaaGreatDoor
