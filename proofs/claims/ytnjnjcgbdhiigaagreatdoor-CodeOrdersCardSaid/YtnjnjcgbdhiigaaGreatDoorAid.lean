/- Opening arguments. -/
import Derived.Test.YtnjnjcgbdhiigaaGreatDoorCZ
import Derived.WalkKit
import Derived.ProofKit
import Derived.OpenShut
namespace Go.Proofs.YtnjnjcgbdhiigaaGreatDoor.Aid
open Go Go.ChangeShapes Go.WideShapes Go.ChangeAt Go.RowKit
theorem block_lt {W : World} {b off : Nat} {v : Value} (h : W.cell? ⟨b, off, none⟩ = some v) : b < W.heap.size := by
  rcases Nat.lt_or_ge b W.heap.size with hb | hb
  · exact hb
  · simp [World.cell?, Array.getElem?_eq_none hb] at h
end Go.Proofs.YtnjnjcgbdhiigaaGreatDoor.Aid
