/- What the code's texts want of the one on Within, which this seat has not. -/
import Derived.Test.YtfgpmghaebdhpaaGreatDoorCH
namespace Go.Proofs.YtfgpmghaebdhpaaGreatDoor
open Go.RowKit Go.Shelf

theorem below_drewN (w : World) (q : Nat) : Below w.heap.size w (w.drewN q) := ⟨rfl, rfl, rfl, Nat.le_refl _, fun _ _ => rfl⟩
end Go.Proofs.YtfgpmghaebdhpaaGreatDoor
