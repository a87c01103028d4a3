/- The contracts of Of and of the reference's Of: the day of a date, or the error. -/
import Derived.Test.YtbllolalfmgfoaaDoorLeaf
import Derived.Lib.Hide
namespace Go.Proofs.YtbllolalfmgfoaaDoor
open Go.RowKit

/-- What Of answers. -/
def ofB (y m k : Int) : Bool := decide (1 ≤ k ∧ k ≤ Cal.len y m ∧ Cal.num y m k ≤ 1048575)
def ofV (y m k : Int) : Int := if ofB y m k = true then Cal.num y m k else 0
def ofE (y m k : Int) : Int := if ofB y m k = true then 0 else 2
theorem ofB_good {y m k : Int} (h : ofB y m k = true) : Cal.good y m k := by
  have h' : 1 ≤ k ∧ k ≤ Cal.len y m ∧ Cal.num y m k ≤ 1048575 := of_decide_eq_true h
  exact h'
theorem ofB_mk {y m k : Int} (h : Cal.good y m k) : ofB y m k = true := by
  have h' : 1 ≤ k ∧ k ≤ Cal.len y m ∧ Cal.num y m k ≤ 1048575 := h
  exact decide_eq_true h'
theorem ofB_no {y m k : Int} (h : ¬ (1 ≤ k ∧ k ≤ Cal.len y m ∧ Cal.num y m k ≤ 1048575)) : ofB y m k = false := decide_eq_false h
theorem ofV_no {y m k : Int} (h : ofB y m k = false) : ofV y m k = 0 := by unfold ofV; rw [h]; rfl
theorem ofE_no {y m k : Int} (h : ofB y m k = false) : ofE y m k = 2 := by unfold ofE; rw [h]; rfl
theorem ofV_yes {y m k : Int} (h : ofB y m k = true) : ofV y m k = Cal.num y m k := by unfold ofV; rw [h]; rfl
theorem ofE_yes {y m k : Int} (h : ofB y m k = true) : ofE y m k = 0 := by unfold ofE; rw [h]; rfl

/-- One form for both results. -/
def Two (v x : Int) (w : World) (e : Ending) (w' : World) : Prop := e = .returned (.tuple #[.int .i64 v, .int .i64 x]) ∧ w = w'
theorem Two.mk {v x a b : Int} {w : World} (h : a = v) (k : b = x) : Two v x w (.returned (.tuple #[.int .i64 a, .int .i64 b])) w := ⟨by rw [h, k], rfl⟩

theorem len_bd (y m : Int) : 0 ≤ Cal.len y m ∧ Cal.len y m ≤ 31 := by
  have := Cal.ln_bd y m; unfold Cal.len; split <;> omega
theorem step_cum {y j s : Int} (a : 1600 ≤ y) (b : y ≤ 4470) (p : 1 ≤ j) (q : j ≤ 12) : s + Cal.cum y j + Cal.len y j = s + Cal.cum y (j + 1) := by
  rw [Cal.cum_succ y j p q, Cal.len_of y j a b p q]; omega

set_option maxHeartbeats 1000000 in
theorem Of_any (y m k : Int) (w : World) (hT : Tab w) :
    Calls Tryd.prog 81 #[.int .i64 y, .int .i64 m, .int .i64 k] w (Two (ofV y m k) (ofE y m k) w) := by
  by_cases c : 1 ≤ k ∧ k ≤ Cal.len y m
  · obtain ⟨k0, k1⟩ := c
    have hin : 1600 ≤ y ∧ y ≤ 4470 ∧ 1 ≤ m ∧ m ≤ 12 := by
      by_cases c : 1600 ≤ y ∧ y ≤ 4470 ∧ 1 ≤ m ∧ m ≤ 12
      · exact c
      · have := Cal.len_no y m c; omega
    obtain ⟨a, b, p, q⟩ := hin
    have hb := Cal.ys_bd y a
    have hle := (len_bd y m).2
    go_enter Tryd.func81, Tryd.ntmps81
    go_wp2_with (first | (go_at_call 56; refine (Length_any _ _ _ hT).mono ?_; rintro e w' ⟨rfl, rfl⟩) | (go_at_call 80; refine (yearStart_any _ _ (by omega) (by omega)).mono ?_; rintro e w' ⟨rfl, rfl⟩))
    go_loop [8, 9] (fun d i => ∃ j : Int, 1 ≤ j ∧ j ≤ m ∧ i = .int .i64 j ∧ d = .int .i64 (Cal.ys y + k - 1 + Cal.cum y j)) (fun _ i => (m - intOf i).toNat)
    case atStart => exact ⟨1, by omega, by omega, rfl, by rw [Cal.cum_1]; go_num⟩
    case round =>
      obtain ⟨j, j0, j1, rfl, rfl⟩ := hrel
      have hc := Cal.cum_bd y j j0 (by omega)
      have hl := len_bd y j
      by_cases c : j < m
      · have st := Lib.hid (step_cum (s := Cal.ys y + k - 1) a b j0 (by omega : j ≤ 12))
        go_wp2_with (go_at_call 56; refine (Length_any _ _ _ hT).mono ?_; rintro e w' ⟨rfl, rfl⟩)
        go_round
        case rel => exact ⟨j + 1, by omega, by omega, rfl, by rw [st.out]⟩
        case measure => simp [intOf]; omega
      · obtain rfl : j = m := by omega
        by_cases g : Cal.num y j k ≤ 1048575
        · have hg := ofB_mk (y := y) (m := j) (k := k) ⟨k0, k1, g⟩
          have e1 := Lib.hid (ofV_yes hg); have e2 := Lib.hid (ofE_yes hg)
          unfold Cal.num at g
          clear hg
          go_wp2
          go_ret2
          exact Two.mk (by rw [e1.out]; unfold Cal.num; omega) e2.out.symm
        · have hg := ofB_no (y := y) (m := j) (k := k) (by rintro ⟨_, _, h⟩; exact g h)
          have e1 := Lib.hid (ofV_no hg); have e2 := Lib.hid (ofE_no hg)
          unfold Cal.num at g
          clear hg
          go_wp2
          go_ret2
          exact Two.mk e1.out.symm e2.out.symm
  · have hg := ofB_no (y := y) (m := m) (k := k) (by rintro ⟨h, h', _⟩; exact c ⟨h, h'⟩)
    have e1 := Lib.hid (ofV_no hg); have e2 := Lib.hid (ofE_no hg)
    clear hg
    by_cases k0 : k < 1
    · clear c
      go_enter Tryd.func81, Tryd.ntmps81
      go_wp2
      go_ret2
      exact Two.mk e1.out.symm e2.out.symm
    · have k1 : Cal.len y m < k := by omega
      clear c
      go_enter Tryd.func81, Tryd.ntmps81
      go_wp2_with (go_at_call 56; refine (Length_any _ _ _ hT).mono ?_; rintro e w' ⟨rfl, rfl⟩)
      go_ret2
      exact Two.mk e1.out.symm e2.out.symm

set_option maxHeartbeats 1000000 in
theorem refOf_any (y m k : Int) (w : World) :
    Calls Tryd.prog 61 #[.int .i64 y, .int .i64 m, .int .i64 k] w (Two (ofV y m k) (ofE y m k) w) := by
  by_cases c : 1 ≤ k ∧ k ≤ Cal.len y m
  · obtain ⟨k0, k1⟩ := c
    have hin : 1600 ≤ y ∧ y ≤ 4470 ∧ 1 ≤ m ∧ m ≤ 12 := by
      by_cases c : 1600 ≤ y ∧ y ≤ 4470 ∧ 1 ≤ m ∧ m ≤ 12
      · exact c
      · have := Cal.len_no y m c; omega
    obtain ⟨a, b, p, q⟩ := hin
    have hb := Cal.ys_bd y a
    have hle := (len_bd y m).2
    go_enter Tryd.func61, Tryd.ntmps61
    go_wp2_with (first | (go_at_call 69; refine (refLength_any _ _ _).mono ?_; rintro e w' ⟨rfl, rfl⟩) | (go_at_call 68; refine (before_any _ _ (by omega) (by omega)).mono ?_; rintro e w' ⟨rfl, rfl⟩))
    go_loop [8, 9] (fun d i => ∃ j : Int, 1 ≤ j ∧ j ≤ m ∧ i = .int .i64 j ∧ d = .int .i64 (Cal.ys y + k - 1 + Cal.cum y j)) (fun _ i => (m - intOf i).toNat)
    case atStart => exact ⟨1, by omega, by omega, rfl, by rw [Cal.cum_1]; go_num⟩
    case round =>
      obtain ⟨j, j0, j1, rfl, rfl⟩ := hrel
      have hc := Cal.cum_bd y j j0 (by omega)
      have hl := len_bd y j
      by_cases c : j < m
      · have st := Lib.hid (step_cum (s := Cal.ys y + k - 1) a b j0 (by omega : j ≤ 12))
        go_wp2_with (go_at_call 69; refine (refLength_any _ _ _).mono ?_; rintro e w' ⟨rfl, rfl⟩)
        go_round
        case rel => exact ⟨j + 1, by omega, by omega, rfl, by rw [st.out]⟩
        case measure => simp [intOf]; omega
      · obtain rfl : j = m := by omega
        by_cases g : Cal.num y j k ≤ 1048575
        · have hg := ofB_mk (y := y) (m := j) (k := k) ⟨k0, k1, g⟩
          have e1 := Lib.hid (ofV_yes hg); have e2 := Lib.hid (ofE_yes hg)
          unfold Cal.num at g
          clear hg
          go_wp2
          go_ret2
          exact Two.mk (by rw [e1.out]; unfold Cal.num; omega) e2.out.symm
        · have hg := ofB_no (y := y) (m := j) (k := k) (by rintro ⟨_, _, h⟩; exact g h)
          have e1 := Lib.hid (ofV_no hg); have e2 := Lib.hid (ofE_no hg)
          unfold Cal.num at g
          clear hg
          go_wp2
          go_ret2
          exact Two.mk e1.out.symm e2.out.symm
  · have hg := ofB_no (y := y) (m := m) (k := k) (by rintro ⟨h, h', _⟩; exact c ⟨h, h'⟩)
    have e1 := Lib.hid (ofV_no hg); have e2 := Lib.hid (ofE_no hg)
    clear hg
    by_cases k0 : k < 1
    · clear c
      go_enter Tryd.func61, Tryd.ntmps61
      go_wp2
      go_ret2
      exact Two.mk e1.out.symm e2.out.symm
    · have k1 : Cal.len y m < k := by omega
      clear c
      go_enter Tryd.func61, Tryd.ntmps61
      go_wp2_with (go_at_call 69; refine (refLength_any _ _ _).mono ?_; rintro e w' ⟨rfl, rfl⟩)
      go_ret2
      exact Two.mk e1.out.symm e2.out.symm
end Go.Proofs.YtbllolalfmgfoaaDoor
