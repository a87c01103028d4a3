/- What the library's variables hold, out of the world's shape. -/
import Derived.Test.YtlmgjgcdfhccaaaPA
namespace Go.Proofs.Ytlmgjgcdfhccaaa
open Go.RowKit Go.Shelf

theorem lw_of {W : World} (hsh : W.ShapedOpen Try.prog) : Lw W := by
  have h : ∃ m, W.cell? ⟨0, 0, none⟩ = some (.int .i64 m) := Try.laysM143.s1_3 W hsh
  refine ⟨h, ?_⟩
  obtain ⟨m, hm⟩ := h
  rcases Nat.lt_or_ge 0 W.heap.size with g | g
  · exact g
  · simp [World.cell?, Array.getElem?_eq_none g] at hm
end Go.Proofs.Ytlmgjgcdfhccaaa
