/- The contracts of Date, Weekday, Years and YearEnd, and of the reference's. -/
import Derived.Test.YtbllolalfmgfoaaDoorOf
namespace Go.Proofs.YtbllolalfmgfoaaDoor
open Go.RowKit

/-- The date of a day, or the error: four results. -/
def Four (y m k x : Int) (w : World) (e : Ending) (w' : World) : Prop := e = .returned (.tuple #[.int .i64 y, .int .i64 m, .int .i64 k, .int .i64 x]) ∧ w = w'

theorem guess (d : Int) (h0 : 0 ≤ d) (h1 : d ≤ 1048575) : 1600 ≤ 1600 + d / 366 ∧ 1600 + d / 366 ≤ 4470 ∧ Cal.ys (1600 + d / 366) ≤ d := by
  have a := (Cal.ys_bd (1600 + d / 366) (by omega)).2
  omega
theorem top_year {d y : Int} (h1 : d ≤ 1048575) (h : Cal.ys (y + 1) ≤ d) (_a : 1600 ≤ y) : y < 4470 := by
  by_cases c : y < 4470
  · exact c
  · have := Cal.ys_mono 4471 (y + 1) (by omega) (by omega); have := Cal.ys_last.2; omega

set_option maxHeartbeats 400000 in
/-- The year of a day is the one that has it. -/
theorem yearOf_any (d y : Int) (w : World) (h0 : 0 ≤ d) (h1 : d ≤ 1048575) (a : 1600 ≤ y) (b : Cal.ys y ≤ d) (c : d < Cal.ys (y + 1)) :
    Calls Tryd.prog 79 #[.int .i64 d] w fun e w' => e = .returned (.int .i64 y) ∧ w = w' := by
  obtain ⟨g0, g1, g2⟩ := guess d h0 h1
  go_enter Tryd.func79, Tryd.ntmps79
  go_wp2_with fail
  go_loop [3] (fun i => ∃ t : Int, 1600 ≤ t ∧ t ≤ 4470 ∧ Cal.ys t ≤ d ∧ i = .int .i64 t) (fun i => (4470 - intOf i).toNat)
  case atStart => exact ⟨_, g0, g1, g2, rfl⟩
  case round =>
    obtain ⟨t, t0, t1, t2, rfl⟩ := hrel
    clear g0 g1 g2
    by_cases l : Cal.ys (t + 1) ≤ d
    · have u := top_year h1 l t0
      go_wp2_with (go_at_call 80; refine (yearStart_any _ _ (by omega) (by omega)).mono ?_; rintro e w' ⟨rfl, rfl⟩)
      go_round
      case rel => exact ⟨t + 1, by omega, by omega, l, rfl⟩
      case measure => simp [intOf]; omega
    · have e : t = y := by
        by_cases c1 : t < y
        · have := Cal.ys_mono (t + 1) y (by omega) (by omega); omega
        · by_cases c2 : y < t
          · have := Cal.ys_mono (y + 1) t (by omega) (by omega); omega
          · omega
      subst e
      go_wp2_with (go_at_call 80; refine (yearStart_any _ _ (by omega) (by omega)).mono ?_; rintro e w' ⟨rfl, rfl⟩)
      go_ret
      exact ⟨rfl, rfl⟩

/-- What the loop over the months keeps, and where it ends. -/
theorem month_step {d y m k j r : Int} (h : Cal.DateIs d y m k) (j0 : 1 ≤ j) (j1 : j ≤ 12) (hr : Cal.num y j r = d) (r1 : 1 ≤ r) :
    (Cal.ln y j < r → j < 12 ∧ Cal.num y (j + 1) (r - Cal.ln y j) = d) ∧ (r ≤ Cal.ln y j → j = m ∧ r = k) := by
  have hy := h.year
  have s := Cal.ys_succ y h.y0
  constructor
  · intro l
    unfold Cal.num at hr ⊢
    have c := Cal.cum_succ y j j0 j1
    refine ⟨?_, by omega⟩
    by_cases q : j < 12
    · exact q
    · obtain rfl : j = 12 := by omega
      have := Cal.cum_13 y
      have c' : Cal.cum y 13 = Cal.cum y 12 + Cal.ln y 12 := c
      omega
  · intro l
    have g : Cal.DateIs d y j r := ⟨h.y0, h.y1, j0, j1, r1, l, hr⟩
    obtain ⟨_, e2, e3⟩ := g.uniq h
    exact ⟨e2, e3⟩
theorem num_rest {d y j r : Int} (h : Cal.num y j r = d) (j0 : 1 ≤ j) (j1 : j ≤ 12) (b : d < Cal.ys y + 366) : r ≤ 366 := by
  unfold Cal.num at h; have := Cal.cum_bd y j j0 (by omega); omega

set_option maxHeartbeats 1000000 in
theorem Date_yes (d y m k : Int) (w : World) (hT : Tab w) (h : Cal.DateIs d y m k) (h0 : 0 ≤ d) (h1 : d ≤ 1048575) :
    Calls Tryd.prog 54 #[.int .i64 d] w (Four y m k 0 w) := by
  have hd := dayB_mk h0 h1
  have hy := h.year
  have s := Cal.ys_succ y h.y0
  have l := Cal.lp_01 y
  have y0 := h.y0
  have y1 := h.y1
  have yb := Cal.ys_bd y y0
  have start : Cal.num y 1 (d - Cal.ys y + 1) = d := by unfold Cal.num; have := Cal.cum_1 y; omega
  have st := Lib.hid start
  have hy2 : d < Cal.ys y + 366 := by omega
  have S := Lib.hid s
  clear start s
  go_enter Tryd.func54, Tryd.ntmps54
  go_wp2_with (first | (go_at_call 53; refine (isDay_any _ _).mono ?_; rintro e w' ⟨rfl, rfl⟩; rw [hd]) | (go_at_call 79; refine (yearOf_any _ y _ h0 h1 y0 hy.1 hy.2).mono ?_; rintro e w' ⟨rfl, rfl⟩) | (go_at_call 80; refine (yearStart_any _ _ (by omega) (by omega)).mono ?_; rintro e w' ⟨rfl, rfl⟩))
  go_loop [3, 4] (fun i t => ∃ j r : Int, 1 ≤ j ∧ j ≤ 12 ∧ 1 ≤ r ∧ Cal.num y j r = d ∧ i = .int .i64 j ∧ t = .int .i64 r) (fun i _ => (12 - intOf i).toNat)
  case atStart => exact ⟨1, _, by omega, by omega, by omega, st.out, rfl, rfl⟩
  case round =>
    obtain ⟨j, r, j0, j1, r1, hr, rfl, rfl⟩ := hrel
    have r2 := num_rest hr j0 j1 hy2
    have ms := month_step h j0 j1 hr r1
    have lb := Cal.ln_bd y j
    have le := Cal.len_of y j y0 y1 j0 j1
    clear hr hy h
    by_cases c : Cal.ln y j < r
    · obtain ⟨q, e⟩ := ms.1 c
      have E := Lib.hid e
      clear ms e
      go_wp2_with (go_at_call 56; refine (Length_any _ _ _ hT).mono ?_; rintro e w' ⟨rfl, rfl⟩)
      go_round
      case rel => exact ⟨j + 1, _, by omega, by omega, by omega, E.out, rfl, rfl⟩
      case measure => simp [intOf]; omega
    · obtain ⟨rfl, rfl⟩ := ms.2 (by omega)
      clear ms
      go_wp2_with (go_at_call 56; refine (Length_any _ _ _ hT).mono ?_; rintro e w' ⟨rfl, rfl⟩)
      exact bodyPost_ret (v := .tuple #[.int .i64 y, .int .i64 j, .int .i64 r, .int .i64 0]) (by simp [results, Tryd.results54, go_sem]) rfl ⟨rfl, rfl⟩

set_option maxHeartbeats 400000 in
theorem Date_no (d : Int) (w : World) (h : dayB d = false) :
    Calls Tryd.prog 54 #[.int .i64 d] w (Four 0 0 0 2 w) := by
  go_enter Tryd.func54, Tryd.ntmps54
  go_wp2_with (go_at_call 53; refine (isDay_any _ _).mono ?_; rintro e w' ⟨rfl, rfl⟩; rw [h])
  exact bodyPost_ret (v := .tuple #[.int .i64 0, .int .i64 0, .int .i64 0, .int .i64 2]) (by simp [results, Tryd.results54, go_sem]) rfl ⟨rfl, rfl⟩

set_option maxHeartbeats 1000000 in
theorem refDate_yes (d y m k : Int) (w : World) (h : Cal.DateIs d y m k) (h0 : 0 ≤ d) (h1 : d ≤ 1048575) :
    Calls Tryd.prog 38 #[.int .i64 d] w (Four y m k 0 w) := by
  have hd := dayB_mk h0 h1
  obtain ⟨g0, g1, g2⟩ := guess d h0 h1
  have hy := h.year
  have s := Cal.ys_succ y h.y0
  have l := Cal.lp_01 y
  have y0 := h.y0
  have y1 := h.y1
  have start : Cal.num y 1 (d - Cal.ys y + 1) = d := by unfold Cal.num; have := Cal.cum_1 y; omega
  have st := Lib.hid start
  have hy2 : d < Cal.ys y + 366 := by omega
  have S := Lib.hid s
  clear start s
  go_enter Tryd.func38, Tryd.ntmps38
  go_wp2_with (go_at_call 59; refine (Good_any _ _).mono ?_; rintro e w' ⟨rfl, rfl⟩; rw [hd])
  go_loop [6] (fun i => ∃ t : Int, 1600 ≤ t ∧ t ≤ 4470 ∧ Cal.ys t ≤ d ∧ i = .int .i64 t) (fun i => (4470 - intOf i).toNat)
  case atStart => exact ⟨_, g0, g1, g2, rfl⟩
  case round =>
    obtain ⟨t, t0, t1, t2, rfl⟩ := hrel
    clear g0 g1 g2
    by_cases l : Cal.ys (t + 1) ≤ d
    · have u := top_year h1 l t0
      go_wp2_with (go_at_call 68; refine (before_any _ _ (by omega) (by omega)).mono ?_; rintro e w' ⟨rfl, rfl⟩)
      go_round
      case rel => exact ⟨t + 1, by omega, by omega, l, rfl⟩
      case measure => simp [intOf]; omega
    · have e : t = y := by
        by_cases c1 : t < y
        · have := Cal.ys_mono (t + 1) y (by omega) (by omega); omega
        · by_cases c2 : y < t
          · have := Cal.ys_mono (y + 1) t (by omega) (by omega); omega
          · omega
      subst e
      have yb := Cal.ys_bd t y0
      go_wp2_with (go_at_call 68; refine (before_any _ _ (by omega) (by omega)).mono ?_; rintro e w' ⟨rfl, rfl⟩)
      go_loop [0, 7] (fun u i => ∃ j r : Int, 1 ≤ j ∧ j ≤ 12 ∧ 1 ≤ r ∧ Cal.num t j r = d ∧ i = .int .i64 j ∧ u = .int .i64 (r - 1)) (fun _ i => (12 - intOf i).toNat)
      case atStart => exact ⟨1, d - Cal.ys t + 1, by omega, by omega, by omega, st.out, rfl, by go_num⟩
      case round =>
        obtain ⟨j, r, j0, j1, r1, hr, rfl, rfl⟩ := hrel
        have r2 := num_rest hr j0 j1 hy2
        have ms := month_step h j0 j1 hr r1
        have lb := Cal.ln_bd t j
        have le := Cal.len_of t j y0 y1 j0 j1
        clear hr hy h
        by_cases c : Cal.ln t j < r
        · obtain ⟨q, e⟩ := ms.1 c
          have E := Lib.hid e
          clear ms e
          go_wp2_with (go_at_call 69; refine (refLength_any _ _ _).mono ?_; rintro e w' ⟨rfl, rfl⟩)
          go_round
          case rel => exact ⟨j + 1, _, by omega, by omega, by omega, E.out, rfl, by go_num⟩
          case measure => simp [intOf]; omega
        · obtain ⟨rfl, rfl⟩ := ms.2 (by omega)
          clear ms
          go_wp2_with (go_at_call 69; refine (refLength_any _ _ _).mono ?_; rintro e w' ⟨rfl, rfl⟩)
          exact bodyPost_ret (v := .tuple #[.int .i64 t, .int .i64 j, .int .i64 (r - 1 + 1), .int .i64 0]) (by simp [results, Tryd.results38, go_sem]) rfl ⟨by rw [show r - 1 + 1 = r from by omega], rfl⟩
set_option maxHeartbeats 400000 in
theorem refDate_no (d : Int) (w : World) (h : dayB d = false) :
    Calls Tryd.prog 38 #[.int .i64 d] w (Four 0 0 0 2 w) := by
  go_enter Tryd.func38, Tryd.ntmps38
  go_wp2_with (go_at_call 59; refine (Good_any _ _).mono ?_; rintro e w' ⟨rfl, rfl⟩; rw [h])
  exact bodyPost_ret (v := .tuple #[.int .i64 0, .int .i64 0, .int .i64 0, .int .i64 2]) (by simp [results, Tryd.results38, go_sem]) rfl ⟨rfl, rfl⟩

end Go.Proofs.YtbllolalfmgfoaaDoor
