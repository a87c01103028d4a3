/- The periods that begin or end on a day where the year does; whether a list has a period. -/
import Derived.Test.YtbllolalfmgfoaaDoorDE
namespace Go.Proofs.YtbllolalfmgfoaaDoor
open Go.RowKit Go.Shelf

theorem beginTest (x : Int × Int) (d : Int) (C : Nat) (W : World) (hC : C < W.heap.size) (hc : W.cell? ⟨C, 0, none⟩ = some (.int .i64 d)) :
    Calls Tryd.prog 65 #[pv x, .pointer (some ⟨C, 0, none⟩)] W fun e w' => e = .returned (.bool (x.1 == d)) ∧ Below W.heap.size W w' := by
  have hB : Below W.heap.size W (W.alloc (.cells #[.int .i64 x.1, .int .i64 x.2] 51)) := (Below.refl _ W).alloc (Nat.le_refl _) _
  have hc1 := (hB.cell (p := ⟨C, 0, none⟩) hC).trans hc
  unfold pv
  clear hc
  go_enter Tryd.func65, Tryd.ntmps65
  go_wp2
  go_ret
  exact ⟨rfl, hB⟩

theorem endTest (x : Int × Int) (v d : Int) (C : Nat) (W : World) (hC : C < W.heap.size) (hc : W.cell? ⟨C, 0, none⟩ = some (.int .i64 d))
    (hl : ∀ V, Below W.heap.size W V → Calls Tryd.prog 48 #[pv x] V fun e w' => e = .returned (.int .i64 v) ∧ Below V.heap.size V w') :
    Calls Tryd.prog 66 #[pv x, .pointer (some ⟨C, 0, none⟩)] W fun e w' => e = .returned (.bool (v == d)) ∧ Below W.heap.size W w' := by
  have hB : Below W.heap.size W (W.alloc (.cells #[.int .i64 x.1, .int .i64 x.2] 51)) := (Below.refl _ W).alloc (Nat.le_refl _) _
  have hs : W.heap.size < (W.alloc (.cells #[.int .i64 x.1, .int .i64 x.2] 51)).heap.size := by simp
  have hc1 := (hB.cell (p := ⟨C, 0, none⟩) hC).trans hc
  have n0 : (W.alloc (.cells #[.int .i64 x.1, .int .i64 x.2] 51)).cell? ⟨W.heap.size, 0, none⟩ = some (.int .i64 x.1) := cell_new W _ _ 0
  have n1 : (W.alloc (.cells #[.int .i64 x.1, .int .i64 x.2] 51)).cell? ⟨W.heap.size, 1, none⟩ = some (.int .i64 x.2) := cell_new W _ _ 1
  have hC' : C < (W.alloc (.cells #[.int .i64 x.1, .int .i64 x.2] 51)).heap.size := by omega
  unfold pv at hl ⊢
  clear hc
  have HL := Lib.hid hl
  clear hl
  go_enter Tryd.func66, Tryd.ntmps66
  go_wp2_with fail
  generalize W.alloc (.cells #[.int .i64 x.1, .int .i64 x.2] 51) = V at hB hs hc1 n0 n1 hC' ⊢
  go_region_with (go_at_call 48; refine (HL.out _ (by first | exact hB | exact hB.drew)).mono ?_; rintro e w1 ⟨rfl, hb⟩; have h9 := (hb.cell (p := ⟨C, 0, none⟩) hC').trans hc1; have hbb := Below.trans (show Below W.heap.size W _ from by first | exact hB | exact hB.drew) (hb.mono (Nat.le_of_lt hs)))
  all_goals (go_wp2; go_ret; exact ⟨rfl, hbb⟩)
end Go.Proofs.YtbllolalfmgfoaaDoor
