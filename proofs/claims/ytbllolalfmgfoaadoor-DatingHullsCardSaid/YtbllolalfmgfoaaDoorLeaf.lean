/- The contracts of the functions of package day, and of its reference, that call few others: leap years, first days of years, lengths of months. -/
import Derived.Test.YtbllolalfmgfoaaDoorRows
import Derived.Test.YtbllolalfmgfoaaDoorMath
import Derived.WalkKit
import Derived.WalkSpells
import Derived.WalkLawsBesides
namespace Go.Proofs.YtbllolalfmgfoaaDoor
open Go.RowKit

/-- The table of the months' lengths is in its place. -/
def Tab (w : World) : Prop := 0 < w.heap.size ∧
  w.cell? ⟨0, 0, none⟩ = some (.int .i64 31) ∧ w.cell? ⟨0, 1, none⟩ = some (.int .i64 28) ∧ w.cell? ⟨0, 2, none⟩ = some (.int .i64 31) ∧
  w.cell? ⟨0, 3, none⟩ = some (.int .i64 30) ∧ w.cell? ⟨0, 4, none⟩ = some (.int .i64 31) ∧ w.cell? ⟨0, 5, none⟩ = some (.int .i64 30) ∧
  w.cell? ⟨0, 6, none⟩ = some (.int .i64 31) ∧ w.cell? ⟨0, 7, none⟩ = some (.int .i64 31) ∧ w.cell? ⟨0, 8, none⟩ = some (.int .i64 30) ∧
  w.cell? ⟨0, 9, none⟩ = some (.int .i64 31) ∧ w.cell? ⟨0, 10, none⟩ = some (.int .i64 30) ∧ w.cell? ⟨0, 11, none⟩ = some (.int .i64 31)

theorem ret_int {k : IntKind} {a b : Int} (h : a = b) : Ending.returned (.int k a) = .returned (.int k b) := by rw [h]
theorem ret_bool {a b : Bool} (h : a = b) : Ending.returned (.bool a) = .returned (.bool b) := by rw [h]

/-- Is it a leap year? As a bool that the walk does not open. -/
def leapB (y : Int) : Bool := decide (Cal.lp y = 1)
theorem leapB_t {y : Int} (h : leapB y = true) : Cal.lp y = 1 := of_decide_eq_true h
theorem leapB_f {y : Int} (h : leapB y = false) : Cal.lp y = 0 := by
  have := of_decide_eq_false h; have := Cal.lp_01 y; omega

set_option maxHeartbeats 400000 in
theorem isLeap_any (y : Int) (w : World) (h0 : 0 ≤ y) (h1 : y ≤ 100000) :
    Calls Tryd.prog 82 #[.int .i64 y] w fun e w' => e = .returned (.bool (leapB y)) ∧ w = w' := by
  have hl : leapB y = decide ((y % 4 = 0 ∧ ¬ y % 100 = 0) ∨ y % 400 = 0) := by
    unfold leapB Cal.lp; split <;> simp_all
  rw [hl]; clear hl
  by_cases c4 : y % 4 = 0
  · by_cases c100 : y % 100 = 0
    · by_cases c400 : y % 400 = 0
      · go_enter Tryd.func82, Tryd.ntmps82
        go_wp2
        go_ret
        exact ⟨ret_bool (by simp [*]), rfl⟩
      · go_enter Tryd.func82, Tryd.ntmps82
        go_wp2
        go_ret
        exact ⟨ret_bool (by simp [*]), rfl⟩
    · go_enter Tryd.func82, Tryd.ntmps82
      go_wp2
      go_ret
      exact ⟨ret_bool (by simp [*]), rfl⟩
  · have c400 : ¬ y % 400 = 0 := by omega
    go_enter Tryd.func82, Tryd.ntmps82
    go_wp2
    go_ret
    exact ⟨ret_bool (by simp [*]), rfl⟩
set_option maxHeartbeats 400000 in
theorem leap_any (y : Int) (w : World) (h0 : 0 ≤ y) (h1 : y ≤ 100000) :
    Calls Tryd.prog 60 #[.int .i64 y] w fun e w' => e = .returned (.bool (leapB y)) ∧ w = w' := by
  have hl : leapB y = decide ((y % 4 = 0 ∧ ¬ y % 100 = 0) ∨ y % 400 = 0) := by
    unfold leapB Cal.lp; split <;> simp_all
  rw [hl]; clear hl
  by_cases c4 : y % 4 = 0
  · by_cases c100 : y % 100 = 0
    · by_cases c400 : y % 400 = 0
      · go_enter Tryd.func60, Tryd.ntmps60
        go_wp2
        go_ret
        exact ⟨ret_bool (by simp [*]), rfl⟩
      · go_enter Tryd.func60, Tryd.ntmps60
        go_wp2
        go_ret
        exact ⟨ret_bool (by simp [*]), rfl⟩
    · go_enter Tryd.func60, Tryd.ntmps60
      go_wp2
      go_ret
      exact ⟨ret_bool (by simp [*]), rfl⟩
  · have c400 : ¬ y % 400 = 0 := by omega
    go_enter Tryd.func60, Tryd.ntmps60
    go_wp2
    go_ret
    exact ⟨ret_bool (by simp [*]), rfl⟩

set_option maxHeartbeats 400000 in
theorem yearStart_any (y : Int) (w : World) (h0 : 1600 ≤ y) (h1 : y ≤ 100000) :
    Calls Tryd.prog 80 #[.int .i64 y] w fun e w' => e = .returned (.int .i64 (Cal.ys y)) ∧ w = w' := by
  go_enter Tryd.func80, Tryd.ntmps80
  go_wp2
  go_ret
  exact ⟨ret_int (by unfold Cal.ys; omega), rfl⟩

set_option maxHeartbeats 400000 in
theorem before_any (y : Int) (w : World) (h0 : 1600 ≤ y) (h1 : y ≤ 100000) :
    Calls Tryd.prog 68 #[.int .i64 y] w fun e w' => e = .returned (.int .i64 (Cal.ys y)) ∧ w = w' := by
  by_cases c : y = 1600
  · subst c
    go_enter Tryd.func68, Tryd.ntmps68
    go_wp2
    go_ret
    exact ⟨ret_int (by decide), rfl⟩
  · have c' : 1601 ≤ y := by omega
    clear c h0
    go_enter Tryd.func68, Tryd.ntmps68
    go_wp2
    go_ret
    exact ⟨ret_int (by unfold Cal.ys; omega), rfl⟩

/-- Is a number a day? -/
def dayB (d : Int) : Bool := decide (0 ≤ d ∧ d ≤ 1048575)
theorem dayB_mk {d : Int} (h : 0 ≤ d) (k : d ≤ 1048575) : dayB d = true := decide_eq_true ⟨h, k⟩
theorem dayB_no {d : Int} (h : ¬ (0 ≤ d ∧ d ≤ 1048575)) : dayB d = false := decide_eq_false h
theorem dayB_t {d : Int} (h : dayB d = true) : 0 ≤ d ∧ d ≤ 1048575 := of_decide_eq_true h
theorem dayB_f {d : Int} (h : dayB d = false) : d < 0 ∨ 1048575 < d := by have := of_decide_eq_false h; omega

set_option maxHeartbeats 400000 in
theorem isDay_any (d : Int) (w : World) :
    Calls Tryd.prog 53 #[.int .i64 d] w fun e w' => e = .returned (.bool (dayB d)) ∧ w = w' := by
  by_cases a : 0 ≤ d
  · go_enter Tryd.func53, Tryd.ntmps53
    go_wp2
    go_ret
    exact ⟨ret_bool (by simp [dayB, a]), rfl⟩
  · go_enter Tryd.func53, Tryd.ntmps53
    go_wp2
    go_ret
    exact ⟨ret_bool (dayB_no (by omega)).symm, rfl⟩
set_option maxHeartbeats 400000 in
theorem Good_any (d : Int) (w : World) :
    Calls Tryd.prog 59 #[.int .i64 d] w fun e w' => e = .returned (.bool (dayB d)) ∧ w = w' := by
  by_cases a : 0 ≤ d
  · go_enter Tryd.func59, Tryd.ntmps59
    go_wp2
    go_ret
    exact ⟨ret_bool (by simp [dayB, a]), rfl⟩
  · go_enter Tryd.func59, Tryd.ntmps59
    go_wp2
    go_ret
    exact ⟨ret_bool (dayB_no (by omega)).symm, rfl⟩

set_option maxHeartbeats 1000000 in
theorem Length_any (y m : Int) (w : World) (hT : Tab w) :
    Calls Tryd.prog 56 #[.int .i64 y, .int .i64 m] w fun e w' => e = .returned (.int .i64 (Cal.len y m)) ∧ w = w' := by
  obtain ⟨hz, t0, t1, t2, t3, t4, t5, t6, t7, t8, t9, t10, t11⟩ := hT
  by_cases c : 1600 ≤ y ∧ y ≤ 4470 ∧ 1 ≤ m ∧ m ≤ 12
  · obtain ⟨a, b, p, q⟩ := c
    rw [Cal.len_of y m a b p q]
    by_cases h2 : m = 2
    · subst h2
      have hl := Cal.lp_01 y
      have hn : Cal.ln y 2 = 28 + Cal.lp y := by simp [Cal.ln]
      rw [hn]; clear hn
      cases hb : leapB y
      · have e := leapB_f hb; rw [e]; clear e hl
        go_enter Tryd.func56, Tryd.ntmps56
        go_wp2_with (go_at_call 82; refine (isLeap_any _ _ (by omega) (by omega)).mono ?_; rintro e w' ⟨rfl, rfl⟩)
        go_ret
        exact ⟨rfl, rfl⟩
      · have e := leapB_t hb; rw [e]; clear e hl
        go_enter Tryd.func56, Tryd.ntmps56
        go_wp2_with (go_at_call 82; refine (isLeap_any _ _ (by omega) (by omega)).mono ?_; rintro e w' ⟨rfl, rfl⟩)
        go_ret
        exact ⟨rfl, rfl⟩
    · have : m = 1 ∨ m = 3 ∨ m = 4 ∨ m = 5 ∨ m = 6 ∨ m = 7 ∨ m = 8 ∨ m = 9 ∨ m = 10 ∨ m = 11 ∨ m = 12 := by omega
      rcases this with rfl | rfl | rfl | rfl | rfl | rfl | rfl | rfl | rfl | rfl | rfl
      all_goals
        clear h2 p q
        go_enter Tryd.func56, Tryd.ntmps56
        go_wp2
        go_ret
        exact ⟨rfl, rfl⟩
  · rw [Cal.len_no y m c]
    by_cases a : y < 1600
    · clear c
      go_enter Tryd.func56, Tryd.ntmps56
      go_wp2
      go_ret
      exact ⟨rfl, rfl⟩
    · by_cases b : 4470 < y
      · clear c
        go_enter Tryd.func56, Tryd.ntmps56
        go_wp2
        go_ret
        exact ⟨rfl, rfl⟩
      · by_cases p : m < 1
        · clear c
          go_enter Tryd.func56, Tryd.ntmps56
          go_wp2
          go_ret
          exact ⟨rfl, rfl⟩
        · have q : 12 < m := by omega
          clear c
          go_enter Tryd.func56, Tryd.ntmps56
          go_wp2
          go_ret
          exact ⟨rfl, rfl⟩

theorem refIdx0 (w : World) : (Instr.index 90 (.agg #[.int .i64 31, .int .i64 28, .int .i64 31, .int .i64 30, .int .i64 31, .int .i64 30, .int .i64 31, .int .i64 31, .int .i64 30, .int .i64 31, .int .i64 30, .int .i64 31]) (.int .i64 0)).run Tryd.prog w = .ok (.int .i64 31) w := by kernel_rfl
theorem refIdx1 (w : World) : (Instr.index 90 (.agg #[.int .i64 31, .int .i64 28, .int .i64 31, .int .i64 30, .int .i64 31, .int .i64 30, .int .i64 31, .int .i64 31, .int .i64 30, .int .i64 31, .int .i64 30, .int .i64 31]) (.int .i64 1)).run Tryd.prog w = .ok (.int .i64 28) w := by kernel_rfl
theorem refIdx2 (w : World) : (Instr.index 90 (.agg #[.int .i64 31, .int .i64 28, .int .i64 31, .int .i64 30, .int .i64 31, .int .i64 30, .int .i64 31, .int .i64 31, .int .i64 30, .int .i64 31, .int .i64 30, .int .i64 31]) (.int .i64 2)).run Tryd.prog w = .ok (.int .i64 31) w := by kernel_rfl
theorem refIdx3 (w : World) : (Instr.index 90 (.agg #[.int .i64 31, .int .i64 28, .int .i64 31, .int .i64 30, .int .i64 31, .int .i64 30, .int .i64 31, .int .i64 31, .int .i64 30, .int .i64 31, .int .i64 30, .int .i64 31]) (.int .i64 3)).run Tryd.prog w = .ok (.int .i64 30) w := by kernel_rfl
theorem refIdx4 (w : World) : (Instr.index 90 (.agg #[.int .i64 31, .int .i64 28, .int .i64 31, .int .i64 30, .int .i64 31, .int .i64 30, .int .i64 31, .int .i64 31, .int .i64 30, .int .i64 31, .int .i64 30, .int .i64 31]) (.int .i64 4)).run Tryd.prog w = .ok (.int .i64 31) w := by kernel_rfl
theorem refIdx5 (w : World) : (Instr.index 90 (.agg #[.int .i64 31, .int .i64 28, .int .i64 31, .int .i64 30, .int .i64 31, .int .i64 30, .int .i64 31, .int .i64 31, .int .i64 30, .int .i64 31, .int .i64 30, .int .i64 31]) (.int .i64 5)).run Tryd.prog w = .ok (.int .i64 30) w := by kernel_rfl
theorem refIdx6 (w : World) : (Instr.index 90 (.agg #[.int .i64 31, .int .i64 28, .int .i64 31, .int .i64 30, .int .i64 31, .int .i64 30, .int .i64 31, .int .i64 31, .int .i64 30, .int .i64 31, .int .i64 30, .int .i64 31]) (.int .i64 6)).run Tryd.prog w = .ok (.int .i64 31) w := by kernel_rfl
theorem refIdx7 (w : World) : (Instr.index 90 (.agg #[.int .i64 31, .int .i64 28, .int .i64 31, .int .i64 30, .int .i64 31, .int .i64 30, .int .i64 31, .int .i64 31, .int .i64 30, .int .i64 31, .int .i64 30, .int .i64 31]) (.int .i64 7)).run Tryd.prog w = .ok (.int .i64 31) w := by kernel_rfl
theorem refIdx8 (w : World) : (Instr.index 90 (.agg #[.int .i64 31, .int .i64 28, .int .i64 31, .int .i64 30, .int .i64 31, .int .i64 30, .int .i64 31, .int .i64 31, .int .i64 30, .int .i64 31, .int .i64 30, .int .i64 31]) (.int .i64 8)).run Tryd.prog w = .ok (.int .i64 30) w := by kernel_rfl
theorem refIdx9 (w : World) : (Instr.index 90 (.agg #[.int .i64 31, .int .i64 28, .int .i64 31, .int .i64 30, .int .i64 31, .int .i64 30, .int .i64 31, .int .i64 31, .int .i64 30, .int .i64 31, .int .i64 30, .int .i64 31]) (.int .i64 9)).run Tryd.prog w = .ok (.int .i64 31) w := by kernel_rfl
theorem refIdx10 (w : World) : (Instr.index 90 (.agg #[.int .i64 31, .int .i64 28, .int .i64 31, .int .i64 30, .int .i64 31, .int .i64 30, .int .i64 31, .int .i64 31, .int .i64 30, .int .i64 31, .int .i64 30, .int .i64 31]) (.int .i64 10)).run Tryd.prog w = .ok (.int .i64 30) w := by kernel_rfl
theorem refIdx11 (w : World) : (Instr.index 90 (.agg #[.int .i64 31, .int .i64 28, .int .i64 31, .int .i64 30, .int .i64 31, .int .i64 30, .int .i64 31, .int .i64 31, .int .i64 30, .int .i64 31, .int .i64 30, .int .i64 31]) (.int .i64 11)).run Tryd.prog w = .ok (.int .i64 31) w := by kernel_rfl
set_option maxHeartbeats 1000000 in
theorem refLength_any (y m : Int) (w : World) :
    Calls Tryd.prog 69 #[.int .i64 y, .int .i64 m] w fun e w' => e = .returned (.int .i64 (Cal.len y m)) ∧ w = w' := by
  by_cases c : 1600 ≤ y ∧ y ≤ 4470 ∧ 1 ≤ m ∧ m ≤ 12
  · obtain ⟨a, b, p, q⟩ := c
    rw [Cal.len_of y m a b p q]
    by_cases h2 : m = 2
    · subst h2
      have hl := Cal.lp_01 y
      have hn : Cal.ln y 2 = 28 + Cal.lp y := by simp [Cal.ln]
      rw [hn]; clear hn
      cases hb : leapB y
      · have e := leapB_f hb; rw [e]; clear e hl
        have ix := refIdx1
        go_enter Tryd.func69, Tryd.ntmps69
        go_wp2_with (go_at_call 60; refine (leap_any _ _ (by omega) (by omega)).mono ?_; rintro e w' ⟨rfl, rfl⟩)
        go_ret
        exact ⟨rfl, rfl⟩
      · have e := leapB_t hb; rw [e]; clear e hl
        go_enter Tryd.func69, Tryd.ntmps69
        go_wp2_with (go_at_call 60; refine (leap_any _ _ (by omega) (by omega)).mono ?_; rintro e w' ⟨rfl, rfl⟩)
        go_ret
        exact ⟨rfl, rfl⟩
    · have : m = 1 ∨ m = 3 ∨ m = 4 ∨ m = 5 ∨ m = 6 ∨ m = 7 ∨ m = 8 ∨ m = 9 ∨ m = 10 ∨ m = 11 ∨ m = 12 := by omega
      rcases this with rfl | rfl | rfl | rfl | rfl | rfl | rfl | rfl | rfl | rfl | rfl
      · clear h2 p q
        have ix := refIdx0
        go_enter Tryd.func69, Tryd.ntmps69
        go_wp2
        go_ret
        exact ⟨rfl, rfl⟩
      · clear h2 p q
        have ix := refIdx2
        go_enter Tryd.func69, Tryd.ntmps69
        go_wp2
        go_ret
        exact ⟨rfl, rfl⟩
      · clear h2 p q
        have ix := refIdx3
        go_enter Tryd.func69, Tryd.ntmps69
        go_wp2
        go_ret
        exact ⟨rfl, rfl⟩
      · clear h2 p q
        have ix := refIdx4
        go_enter Tryd.func69, Tryd.ntmps69
        go_wp2
        go_ret
        exact ⟨rfl, rfl⟩
      · clear h2 p q
        have ix := refIdx5
        go_enter Tryd.func69, Tryd.ntmps69
        go_wp2
        go_ret
        exact ⟨rfl, rfl⟩
      · clear h2 p q
        have ix := refIdx6
        go_enter Tryd.func69, Tryd.ntmps69
        go_wp2
        go_ret
        exact ⟨rfl, rfl⟩
      · clear h2 p q
        have ix := refIdx7
        go_enter Tryd.func69, Tryd.ntmps69
        go_wp2
        go_ret
        exact ⟨rfl, rfl⟩
      · clear h2 p q
        have ix := refIdx8
        go_enter Tryd.func69, Tryd.ntmps69
        go_wp2
        go_ret
        exact ⟨rfl, rfl⟩
      · clear h2 p q
        have ix := refIdx9
        go_enter Tryd.func69, Tryd.ntmps69
        go_wp2
        go_ret
        exact ⟨rfl, rfl⟩
      · clear h2 p q
        have ix := refIdx10
        go_enter Tryd.func69, Tryd.ntmps69
        go_wp2
        go_ret
        exact ⟨rfl, rfl⟩
      · clear h2 p q
        have ix := refIdx11
        go_enter Tryd.func69, Tryd.ntmps69
        go_wp2
        go_ret
        exact ⟨rfl, rfl⟩
  · rw [Cal.len_no y m c]
    by_cases a : y < 1600
    · clear c
      go_enter Tryd.func69, Tryd.ntmps69
      go_wp2
      go_ret
      exact ⟨rfl, rfl⟩
    · by_cases b : 4470 < y
      · clear c
        go_enter Tryd.func69, Tryd.ntmps69
        go_wp2
        go_ret
        exact ⟨rfl, rfl⟩
      · by_cases p : m < 1
        · clear c
          go_enter Tryd.func69, Tryd.ntmps69
          go_wp2
          go_ret
          exact ⟨rfl, rfl⟩
        · have q : 12 < m := by omega
          clear c
          go_enter Tryd.func69, Tryd.ntmps69
          go_wp2
          go_ret
          exact ⟨rfl, rfl⟩
end Go.Proofs.YtbllolalfmgfoaaDoor
