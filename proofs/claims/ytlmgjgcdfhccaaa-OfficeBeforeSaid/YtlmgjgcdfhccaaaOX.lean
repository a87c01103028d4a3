/- The example. -/
import Derived.Test.YtlmgjgcdfhccaaaOW
import Derived.Test.YtlmgjgcdfhccaaaOL
namespace Go.Proofs.Ytlmgjgcdfhccaaa
open Go.RowKit Go.Maps Go.Shelf

def xA : Txt := ⟨⟨#[65]⟩, by decide⟩
def xB : Txt := ⟨⟨#[66]⟩, by decide⟩
def xC : Txt := ⟨⟨#[67]⟩, by decide⟩
def xD : Txt := ⟨⟨#[68]⟩, by decide⟩
/-- The example, its lists of successors in two blocks. -/
def exO (a b : Option Addr) : List Of := [⟨1, xA, 0, 100, [2, 3], a, 2⟩, ⟨2, xB, 100, 200, [4], b, 1⟩, ⟨3, xC, 100, 1048576, [], none, 0⟩, ⟨4, xD, 200, 1048576, [], none, 0⟩]
theorem ck_ex (a b : Option Addr) : ckV (exO a b) = (-1, 0) := by kernel_rfl
theorem cell_new (W : World) (cs : Array Value) (t : TypeId) (i : Nat) : (W.alloc (.cells cs t)).cell? ⟨W.heap.size, i, none⟩ = cs[i]? := by
  have h := World.alloc_heap_new W (.cells cs t)
  generalize W.alloc (.cells cs t) = V at h ⊢
  generalize W.heap.size = g at h ⊢
  simp [World.cell?, h]
theorem isO_ex (W : World) (g1 g2 : Nat) (h1 : g1 < W.heap.size) (h2 : g2 < W.heap.size) (c0 : W.cell? ⟨g1, 0, none⟩ = some (.int .i64 2)) (c1 : W.cell? ⟨g1, 1, none⟩ = some (.int .i64 3)) (c2 : W.cell? ⟨g2, 0, none⟩ = some (.int .i64 4)) (t : TypeId) :
    IsO (W.alloc (.cells #[.int .i64 1, .string ⟨#[65]⟩, .int .i64 0, .int .i64 100, .slice (some ⟨g1, 0, none⟩) 2 2, .int .i64 2, .string ⟨#[66]⟩, .int .i64 100, .int .i64 200, .slice (some ⟨g2, 0, none⟩) 1 1, .int .i64 3, .string ⟨#[67]⟩, .int .i64 100, .int .i64 1048576, .slice none 0 0, .int .i64 4, .string ⟨#[68]⟩, .int .i64 200, .int .i64 1048576, .slice none 0 0] t))
      (.slice (some ⟨W.heap.size, 0, none⟩) 4 4) (exO (some ⟨g1, 0, none⟩) (some ⟨g2, 0, none⟩)) := by
  have C := cell_new W #[.int .i64 1, .string ⟨#[65]⟩, .int .i64 0, .int .i64 100, .slice (some ⟨g1, 0, none⟩) 2 2, .int .i64 2, .string ⟨#[66]⟩, .int .i64 100, .int .i64 200, .slice (some ⟨g2, 0, none⟩) 1 1, .int .i64 3, .string ⟨#[67]⟩, .int .i64 100, .int .i64 1048576, .slice none 0 0, .int .i64 4, .string ⟨#[68]⟩, .int .i64 200, .int .i64 1048576, .slice none 0 0] t
  have BW := (Below.refl W.heap.size W).alloc (Nat.le_refl _) (.cells #[.int .i64 1, .string ⟨#[65]⟩, .int .i64 0, .int .i64 100, .slice (some ⟨g1, 0, none⟩) 2 2, .int .i64 2, .string ⟨#[66]⟩, .int .i64 100, .int .i64 200, .slice (some ⟨g2, 0, none⟩) 1 1, .int .i64 3, .string ⟨#[67]⟩, .int .i64 100, .int .i64 1048576, .slice none 0 0, .int .i64 4, .string ⟨#[68]⟩, .int .i64 200, .int .i64 1048576, .slice none 0 0] t)
  have S := World.size_alloc W (.cells #[.int .i64 1, .string ⟨#[65]⟩, .int .i64 0, .int .i64 100, .slice (some ⟨g1, 0, none⟩) 2 2, .int .i64 2, .string ⟨#[66]⟩, .int .i64 100, .int .i64 200, .slice (some ⟨g2, 0, none⟩) 1 1, .int .i64 3, .string ⟨#[67]⟩, .int .i64 100, .int .i64 1048576, .slice none 0 0, .int .i64 4, .string ⟨#[68]⟩, .int .i64 200, .int .i64 1048576, .slice none 0 0] t)
  have lt : W.heap.size < (W.alloc (.cells #[.int .i64 1, .string ⟨#[65]⟩, .int .i64 0, .int .i64 100, .slice (some ⟨g1, 0, none⟩) 2 2, .int .i64 2, .string ⟨#[66]⟩, .int .i64 100, .int .i64 200, .slice (some ⟨g2, 0, none⟩) 1 1, .int .i64 3, .string ⟨#[67]⟩, .int .i64 100, .int .i64 1048576, .slice none 0 0, .int .i64 4, .string ⟨#[68]⟩, .int .i64 200, .int .i64 1048576, .slice none 0 0] t)).heap.size := by rw [S]; omega
  generalize W.alloc (.cells #[.int .i64 1, .string ⟨#[65]⟩, .int .i64 0, .int .i64 100, .slice (some ⟨g1, 0, none⟩) 2 2, .int .i64 2, .string ⟨#[66]⟩, .int .i64 100, .int .i64 200, .slice (some ⟨g2, 0, none⟩) 1 1, .int .i64 3, .string ⟨#[67]⟩, .int .i64 100, .int .i64 1048576, .slice none 0 0, .int .i64 4, .string ⟨#[68]⟩, .int .i64 200, .int .i64 1048576, .slice none 0 0] t) = V at C BW lt ⊢
  clear S
  refine ⟨_, 4, rfl, Nat.le_refl _, fun _ => ⟨_, _, rfl, fun j o hj => ?_⟩⟩
  match j, hj with
  | 0, hj =>
    cases hj
    refine ⟨lt, C 0, C 1, C 2, C 3, C 4, ⟨_, 2, rfl, Nat.le_refl _, fun _ => ⟨_, _, rfl, Nat.lt_of_lt_of_le h1 BW.size, fun i hi => ?_⟩⟩⟩
    match i, hi with
    | 0, _ => exact (BW.cell (p := ⟨g1, 0, none⟩) h1).trans c0
    | 1, _ => exact (BW.cell (p := ⟨g1, 1, none⟩) h1).trans c1
  | 1, hj =>
    cases hj
    refine ⟨lt, C 5, C 6, C 7, C 8, C 9, ⟨_, 1, rfl, Nat.le_refl _, fun _ => ⟨_, _, rfl, Nat.lt_of_lt_of_le h2 BW.size, fun i hi => ?_⟩⟩⟩
    match i, hi with
    | 0, _ => exact (BW.cell (p := ⟨g2, 0, none⟩) h2).trans c2
  | 2, hj =>
    cases hj
    exact ⟨lt, C 10, C 11, C 12, C 13, C 14, isZ_nil _⟩
  | 3, hj =>
    cases hj
    exact ⟨lt, C 15, C 16, C 17, C 18, C 19, isZ_nil _⟩
set_option maxRecDepth 100000 in
set_option maxHeartbeats 4000000 in
theorem example_any (w : World) : Calls Try.prog 28 #[] w fun e w' => ∃ v a b, e = .returned v ∧ IsO w' v (exO a b) ∧ Below w.heap.size w w' := by
  go_enter Try.func28, Try.ntmps28
  go_wp2_with fail
  go_ret
  have B1 := (Below.refl w.heap.size w).alloc (Nat.le_refl _) (.cells #[.int .i64 2, .int .i64 3] 3)
  have C1 := cell_new w #[.int .i64 2, .int .i64 3] 3
  have S1 := World.size_alloc w (.cells #[.int .i64 2, .int .i64 3] 3)
  generalize w.alloc (.cells #[.int .i64 2, .int .i64 3] 3) = w1 at B1 C1 S1 ⊢
  have B2 := (Below.refl w1.heap.size w1).alloc (Nat.le_refl _) (.cells #[.int .i64 4] 3)
  have C2 := cell_new w1 #[.int .i64 4] 3
  have S2 := World.size_alloc w1 (.cells #[.int .i64 4] 3)
  generalize w1.alloc (.cells #[.int .i64 4] 3) = w2 at B2 C2 S2 ⊢
  have h1 : w.heap.size < w1.heap.size := by omega
  refine ⟨_, some ⟨w.heap.size, 0, none⟩, some ⟨w1.heap.size, 0, none⟩, rfl, ?_, ?_⟩
  · have := isO_ex w2 w.heap.size w1.heap.size (by omega) (by omega) ((B2.cell (p := ⟨w.heap.size, 0, none⟩) h1).trans (C1 0)) ((B2.cell (p := ⟨w.heap.size, 1, none⟩) h1).trans (C1 1)) (C2 0) 43
    rw [S2, S1] at this
    rw [S1]
    first | exact this | rw [S1] at this; exact this
  · exact (B1.trans (B2.mono B1.size)).alloc (by omega) _
end Go.Proofs.Ytlmgjgcdfhccaaa
