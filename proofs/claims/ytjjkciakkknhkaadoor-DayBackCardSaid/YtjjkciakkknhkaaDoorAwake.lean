/- The laws' common test: the examples of the chapter hold. -/
import Derived.Test.YtjjkciakkknhkaaDoorText
namespace Go.Proofs.YtjjkciakkknhkaaDoor
open Go.RowKit

theorem Tab.below {w w' : World} (h : Tab w) (hb : Below w.heap.size w w') : Tab w' := by
  obtain ⟨hz, t0, t1, t2, t3, t4, t5, t6, t7, t8, t9, t10, t11⟩ := h
  have c : ∀ o, w'.cell? ⟨0, o, none⟩ = w.cell? ⟨0, o, none⟩ := fun o => hb.cell (p := ⟨0, o, none⟩) hz
  exact ⟨Nat.lt_of_lt_of_le hz hb.size, by rw [c, t0], by rw [c, t1], by rw [c, t2], by rw [c, t3], by rw [c, t4], by rw [c, t5], by rw [c, t6], by rw [c, t7], by rw [c, t8], by rw [c, t9], by rw [c, t10], by rw [c, t11]⟩
theorem Tab.alloc {w : World} (h : Tab w) (o : Obj) : Tab (w.alloc o) := h.below ((Below.refl _ _).alloc (Nat.le_refl _) o)

theorem ex1 : ofV 1600 2 29 = 59 ∧ ofE 1600 2 29 = 0 := by decide
theorem ex2 : Cal.DateIs 59 1600 2 29 := ⟨by decide, by decide, by decide, by decide, by decide, by decide, by decide⟩
theorem ex3 : later 1600 2 29 1 = 424 := by decide
theorem ex4 : Cal.DateIs 1048575 4470 11 25 := ⟨by decide, by decide, by decide, by decide, by decide, by decide, by decide⟩
theorem ex5 : SD 4470 11 25 = ⟨#[52, 52, 55, 48, 45, 49, 49, 45, 50, 53]⟩ := by apply ByteArray.ext; decide

set_option maxHeartbeats 1000000 in
theorem awake_any (w : World) (hT : Tab w) :
    Calls Tryd.prog 10 #[] w fun e w' => e = .returned (.bool true) ∧ Below w.heap.size w w' := by
  have c1 := Of_any 1600 2 29 w hT
  rw [ex1.1, ex1.2] at c1
  have c2 := Years_yes 59 1 1600 2 29 w hT ex2 (by decide) (by decide) (by decide) (by decide)
  rw [ex3] at c2
  have c3 := Format_yes 1048575 4470 11 25 w hT ex4 (by decide) (by decide)
  rw [ex5] at c3
  have C1 := Lib.hid c1; have C2 := Lib.hid c2; have C3 := Lib.hid c3
  clear c1 c2 c3
  go_enter Tryd.func10, Tryd.ntmps10
  go_wp2_with fail
  refine C1.out.mono ?_; rintro e w' ⟨rfl, rfl⟩
  go_wp2_with fail
  refine C2.out.mono ?_; rintro e w' ⟨rfl, rfl⟩
  go_wp2_with fail
  refine C3.out.mono ?_; rintro e w1 ⟨rfl, hb⟩
  go_wp2_with fail
  refine (Weekday_yes 60 _ (by decide) (by decide)).mono ?_; rintro e w' ⟨rfl, rfl⟩
  go_wp2
  go_ret
  exact ⟨rfl, hb⟩

end Go.Proofs.YtjjkciakkknhkaaDoor
