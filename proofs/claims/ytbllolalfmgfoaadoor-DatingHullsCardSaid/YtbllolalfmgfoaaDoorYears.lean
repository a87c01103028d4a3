/- The contracts of orMaxDay, Years and YearEnd, and of the reference's Years and YearEnd. -/
import Derived.Test.YtbllolalfmgfoaaDoorDate
namespace Go.Proofs.YtbllolalfmgfoaaDoor
open Go.RowKit

/-- The day of a date that exists, or the last day. -/
def orMax (y m k : Int) : Int := if ofB y m k = true then Cal.num y m k else 1048575
theorem orMax_yes {y m k : Int} (h : ofB y m k = true) : orMax y m k = Cal.num y m k := by unfold orMax; rw [h]; rfl
theorem orMax_no {y m k : Int} (h : ofB y m k = false) : orMax y m k = 1048575 := by unfold orMax; rw [h]; rfl

set_option maxHeartbeats 400000 in
theorem orMaxDay_any (y m k : Int) (w : World) (hT : Tab w) :
    Calls Tryd.prog 55 #[.int .i64 y, .int .i64 m, .int .i64 k] w fun e w' => e = .returned (.int .i64 (orMax y m k)) ∧ w = w' := by
  have hof := Lib.hid (Of_any y m k w hT)
  cases hb : ofB y m k
  · have e1 := ofV_no hb; have e2 := ofE_no hb; have e3 := orMax_no hb
    rw [e3]; rw [e1, e2] at hof; clear e1 e2 e3 hb
    go_enter Tryd.func55, Tryd.ntmps55
    go_wp2_with (go_at_call 81; refine hof.out.mono ?_; rintro e w' ⟨rfl, rfl⟩)
    go_ret
    exact ⟨rfl, rfl⟩
  · have e1 := ofV_yes hb; have e2 := ofE_yes hb; have e3 := orMax_yes hb
    rw [e3]; rw [e1, e2] at hof; clear e1 e2 e3 hb
    go_enter Tryd.func55, Tryd.ntmps55
    go_wp2_with (go_at_call 81; refine hof.out.mono ?_; rintro e w' ⟨rfl, rfl⟩)
    go_ret
    exact ⟨rfl, rfl⟩

/-- The date so many years later, as the definition says it. -/
def clip (y m k : Int) : Int := if m = 2 ∧ k = 29 ∧ leapB y = false then 28 else k
def later (y m k n : Int) : Int := orMax (y + n) m (clip (y + n) m k)
theorem ofB_out {y m k : Int} (h : 4470 < y) (h' : 1 ≤ k) : ofB y m k = false := by
  have := Cal.len_no y m (by omega)
  exact ofB_no (by omega)
theorem min_clip {d y m k n : Int} (h : Cal.DateIs d y m k) (n0 : 0 ≤ n) : orMax (y + n) m (min k (Cal.len (y + n) m)) = later y m k n := by
  have k0 := h.k0; have k1 := h.k1; have y0 := h.y0
  unfold later
  by_cases c : y + n ≤ 4470
  · rw [Cal.len_of (y + n) m (by omega) c h.m0 h.m1]
    have : min k (Cal.ln (y + n) m) = clip (y + n) m k := by
      unfold clip
      by_cases m2 : m = 2
      · subst m2
        have e : ∀ z, Cal.ln z 2 = 28 + Cal.lp z := fun z => by simp [Cal.ln]
        rw [e] at k1 ⊢
        have := Cal.lp_01 y
        cases hb : leapB (y + n)
        · rw [leapB_f hb]
          by_cases c : k = 29
          · rw [if_pos ⟨rfl, c, rfl⟩]; omega
          · rw [if_neg (fun h => c h.2.1)]; omega
        · rw [leapB_t hb, if_neg (fun h => by simp at h)]; omega
      · rw [if_neg (fun h => m2 h.1)]
        have : Cal.ln (y + n) m = Cal.ln y m := by unfold Cal.ln; rw [if_neg m2, if_neg m2]
        omega
    rw [this]
  · rw [Cal.len_no (y + n) m (by omega)]
    have a : ofB (y + n) m (min k 0) = false := ofB_no (by omega)
    have b : ofB (y + n) m (clip (y + n) m k) = false := ofB_out (by omega) (by unfold clip; split <;> omega)
    rw [orMax_no a, orMax_no b]

set_option maxHeartbeats 1000000 in
theorem Years_yes (d n y m k : Int) (w : World) (hT : Tab w) (h : Cal.DateIs d y m k) (h0 : 0 ≤ d) (h1 : d ≤ 1048575) (n0 : 0 ≤ n) (n1 : n ≤ 200) :
    Calls Tryd.prog 28 #[.int .i64 d, .int .i64 n] w (Two (later y m k n) 0 w) := by
  have hd := dayB_mk h0 h1
  have mc := Lib.hid (min_clip h n0)
  have y0 := h.y0; have y1 := h.y1
  go_enter Tryd.func28, Tryd.ntmps28
  go_wp2_with (first | (go_at_call 53; refine (isDay_any _ _).mono ?_; rintro e w' ⟨rfl, rfl⟩; rw [hd]) | (go_at_call 54; refine (Date_yes d y m k _ hT h h0 h1).mono ?_; rintro e w' ⟨rfl, rfl⟩) | (go_at_call 56; refine (Length_any _ _ _ hT).mono ?_; rintro e w' ⟨rfl, rfl⟩) | (go_at_call 55; refine (orMaxDay_any _ _ _ _ hT).mono ?_; rintro e w' ⟨rfl, rfl⟩))
  · go_ret2
    exact Two.mk (by rw [← mc.out, Int.min_eq_right (by omega)]) rfl
  · go_ret2
    exact Two.mk (by rw [← mc.out, Int.min_eq_left (by omega)]) rfl

/-- What makes Years answer with an error. -/
def yrB (d n : Int) : Bool := decide (0 ≤ d ∧ d ≤ 1048575 ∧ 0 ≤ n ∧ n ≤ 200)
theorem yrB_no {d n : Int} (h : yrB d n = false) : dayB d = false ∨ (dayB d = true ∧ (n < 0 ∨ (0 ≤ n ∧ 200 < n))) := by
  have := of_decide_eq_false h
  cases hd : dayB d
  · exact Or.inl rfl
  · have := dayB_t hd; exact Or.inr ⟨rfl, by omega⟩
theorem yrB_yes {d n : Int} (h : yrB d n = true) : 0 ≤ d ∧ d ≤ 1048575 ∧ 0 ≤ n ∧ n ≤ 200 := of_decide_eq_true h
theorem yrB_mk {d n : Int} (h : 0 ≤ d ∧ d ≤ 1048575 ∧ 0 ≤ n ∧ n ≤ 200) : yrB d n = true := decide_eq_true h

set_option maxHeartbeats 1000000 in
theorem Years_no (d n : Int) (w : World) (h : yrB d n = false) :
    Calls Tryd.prog 28 #[.int .i64 d, .int .i64 n] w (Two 0 2 w) := by
  rcases yrB_no h with hd | ⟨hd, hn | ⟨h0, hn⟩⟩
  all_goals
    clear h
    go_enter Tryd.func28, Tryd.ntmps28
    go_wp2_with (go_at_call 53; refine (isDay_any _ _).mono ?_; rintro e w' ⟨rfl, rfl⟩; rw [hd])
    go_ret2
    exact Two.mk rfl rfl
set_option maxHeartbeats 1000000 in
theorem refYears_no (d n : Int) (w : World) (h : yrB d n = false) :
    Calls Tryd.prog 31 #[.int .i64 d, .int .i64 n] w (Two 0 2 w) := by
  rcases yrB_no h with hd | ⟨hd, hn | ⟨h0, hn⟩⟩
  all_goals
    clear h
    go_enter Tryd.func31, Tryd.ntmps31
    go_wp2_with (go_at_call 59; refine (Good_any _ _).mono ?_; rintro e w' ⟨rfl, rfl⟩; rw [hd])
    go_ret2
    exact Two.mk rfl rfl

set_option maxHeartbeats 1000000 in
theorem refYears_yes (d n y m k : Int) (w : World) (h : Cal.DateIs d y m k) (h0 : 0 ≤ d) (h1 : d ≤ 1048575) (n0 : 0 ≤ n) (n1 : n ≤ 200) :
    Calls Tryd.prog 31 #[.int .i64 d, .int .i64 n] w (Two (later y m k n) 0 w) := by
  have hd := dayB_mk h0 h1
  have y0 := h.y0; have y1 := h.y1
  have hof := Lib.hid (refOf_any (y + n) m (clip (y + n) m k) w)
  have hl : later y m k n = orMax (y + n) m (clip (y + n) m k) := rfl
  rw [hl]; clear hl
  by_cases m2 : m = 2
  · subst m2
    by_cases k2 : k = 29
    · subst k2
      cases hb : leapB (y + n)
      · have hc : clip (y + n) 2 29 = 28 := by unfold clip; rw [if_pos ⟨rfl, rfl, hb⟩]
        rw [hc] at hof ⊢; clear hc
        cases ho : ofB (y + n) 2 28
        · rw [orMax_no ho]; rw [ofV_no ho, ofE_no ho] at hof; clear ho
          go_enter Tryd.func31, Tryd.ntmps31
          go_wp2_with (first | (go_at_call 59; refine (Good_any _ _).mono ?_; rintro e w' ⟨rfl, rfl⟩; rw [hd]) | (go_at_call 38; refine (refDate_yes d y 2 29 _ h h0 h1).mono ?_; rintro e w' ⟨rfl, rfl⟩) | (go_at_call 60; refine (leap_any _ _ (by omega) (by omega)).mono ?_; rintro e w' ⟨rfl, rfl⟩; rw [hb]) | (go_at_call 61; refine hof.out.mono ?_; rintro e w' ⟨rfl, rfl⟩))
          go_ret2
          exact Two.mk rfl rfl
        · rw [orMax_yes ho]; rw [ofV_yes ho, ofE_yes ho] at hof; clear ho
          go_enter Tryd.func31, Tryd.ntmps31
          go_wp2_with (first | (go_at_call 59; refine (Good_any _ _).mono ?_; rintro e w' ⟨rfl, rfl⟩; rw [hd]) | (go_at_call 38; refine (refDate_yes d y 2 29 _ h h0 h1).mono ?_; rintro e w' ⟨rfl, rfl⟩) | (go_at_call 60; refine (leap_any _ _ (by omega) (by omega)).mono ?_; rintro e w' ⟨rfl, rfl⟩; rw [hb]) | (go_at_call 61; refine hof.out.mono ?_; rintro e w' ⟨rfl, rfl⟩))
          go_ret2
          exact Two.mk rfl rfl
      · have hc : clip (y + n) 2 29 = 29 := by unfold clip; rw [if_neg (fun h => by rw [hb] at h; cases h.2.2)]
        rw [hc] at hof ⊢; clear hc
        cases ho : ofB (y + n) 2 29
        · rw [orMax_no ho]; rw [ofV_no ho, ofE_no ho] at hof; clear ho
          go_enter Tryd.func31, Tryd.ntmps31
          go_wp2_with (first | (go_at_call 59; refine (Good_any _ _).mono ?_; rintro e w' ⟨rfl, rfl⟩; rw [hd]) | (go_at_call 38; refine (refDate_yes d y 2 29 _ h h0 h1).mono ?_; rintro e w' ⟨rfl, rfl⟩) | (go_at_call 60; refine (leap_any _ _ (by omega) (by omega)).mono ?_; rintro e w' ⟨rfl, rfl⟩; rw [hb]) | (go_at_call 61; refine hof.out.mono ?_; rintro e w' ⟨rfl, rfl⟩))
          go_ret2
          exact Two.mk rfl rfl
        · rw [orMax_yes ho]; rw [ofV_yes ho, ofE_yes ho] at hof; clear ho
          go_enter Tryd.func31, Tryd.ntmps31
          go_wp2_with (first | (go_at_call 59; refine (Good_any _ _).mono ?_; rintro e w' ⟨rfl, rfl⟩; rw [hd]) | (go_at_call 38; refine (refDate_yes d y 2 29 _ h h0 h1).mono ?_; rintro e w' ⟨rfl, rfl⟩) | (go_at_call 60; refine (leap_any _ _ (by omega) (by omega)).mono ?_; rintro e w' ⟨rfl, rfl⟩; rw [hb]) | (go_at_call 61; refine hof.out.mono ?_; rintro e w' ⟨rfl, rfl⟩))
          go_ret2
          exact Two.mk rfl rfl
    · have hc : clip (y + n) 2 k = k := by unfold clip; rw [if_neg (fun h => k2 h.2.1)]
      rw [hc] at hof ⊢; clear hc
      have hk : (k == 29) = false := beq_eq_false_iff_ne.2 k2
      clear k2
      cases ho : ofB (y + n) 2 k
      · rw [orMax_no ho]; rw [ofV_no ho, ofE_no ho] at hof; clear ho
        go_enter Tryd.func31, Tryd.ntmps31
        go_wp2_with (first | (go_at_call 59; refine (Good_any _ _).mono ?_; rintro e w' ⟨rfl, rfl⟩; rw [hd]) | (go_at_call 38; refine (refDate_yes d y 2 k _ h h0 h1).mono ?_; rintro e w' ⟨rfl, rfl⟩) | (go_at_call 61; refine hof.out.mono ?_; rintro e w' ⟨rfl, rfl⟩))
        go_ret2
        exact Two.mk rfl rfl
      · rw [orMax_yes ho]; rw [ofV_yes ho, ofE_yes ho] at hof; clear ho
        go_enter Tryd.func31, Tryd.ntmps31
        go_wp2_with (first | (go_at_call 59; refine (Good_any _ _).mono ?_; rintro e w' ⟨rfl, rfl⟩; rw [hd]) | (go_at_call 38; refine (refDate_yes d y 2 k _ h h0 h1).mono ?_; rintro e w' ⟨rfl, rfl⟩) | (go_at_call 61; refine hof.out.mono ?_; rintro e w' ⟨rfl, rfl⟩))
        go_ret2
        exact Two.mk rfl rfl
  · have hc : clip (y + n) m k = k := by unfold clip; rw [if_neg (fun h => m2 h.1)]
    rw [hc] at hof ⊢; clear hc
    have hm : (m == 2) = false := beq_eq_false_iff_ne.2 m2
    clear m2
    cases ho : ofB (y + n) m k
    · rw [orMax_no ho]; rw [ofV_no ho, ofE_no ho] at hof; clear ho
      go_enter Tryd.func31, Tryd.ntmps31
      go_wp2_with (first | (go_at_call 59; refine (Good_any _ _).mono ?_; rintro e w' ⟨rfl, rfl⟩; rw [hd]) | (go_at_call 38; refine (refDate_yes d y m k _ h h0 h1).mono ?_; rintro e w' ⟨rfl, rfl⟩) | (go_at_call 61; refine hof.out.mono ?_; rintro e w' ⟨rfl, rfl⟩))
      go_ret2
      exact Two.mk rfl rfl
    · rw [orMax_yes ho]; rw [ofV_yes ho, ofE_yes ho] at hof; clear ho
      go_enter Tryd.func31, Tryd.ntmps31
      go_wp2_with (first | (go_at_call 59; refine (Good_any _ _).mono ?_; rintro e w' ⟨rfl, rfl⟩; rw [hd]) | (go_at_call 38; refine (refDate_yes d y m k _ h h0 h1).mono ?_; rintro e w' ⟨rfl, rfl⟩) | (go_at_call 61; refine hof.out.mono ?_; rintro e w' ⟨rfl, rfl⟩))
      go_ret2
      exact Two.mk rfl rfl

set_option maxHeartbeats 400000 in
theorem YearEnd_yes (d y m k : Int) (w : World) (hT : Tab w) (h : Cal.DateIs d y m k) (h0 : 0 ≤ d) (h1 : d ≤ 1048575) :
    Calls Tryd.prog 75 #[.int .i64 d] w (Two (orMax y 12 31) 0 w) := by
  have hd := dayB_mk h0 h1
  have y0 := h.y0; have y1 := h.y1; have hy := h.year
  go_enter Tryd.func75, Tryd.ntmps75
  go_wp2_with (first | (go_at_call 53; refine (isDay_any _ _).mono ?_; rintro e w' ⟨rfl, rfl⟩; rw [hd]) | (go_at_call 79; refine (yearOf_any _ y _ h0 h1 y0 hy.1 hy.2).mono ?_; rintro e w' ⟨rfl, rfl⟩) | (go_at_call 55; refine (orMaxDay_any _ _ _ _ hT).mono ?_; rintro e w' ⟨rfl, rfl⟩))
  go_ret2
  exact Two.mk rfl rfl
set_option maxHeartbeats 400000 in
theorem YearEnd_no (d : Int) (w : World) (hd : dayB d = false) :
    Calls Tryd.prog 75 #[.int .i64 d] w (Two 0 2 w) := by
  go_enter Tryd.func75, Tryd.ntmps75
  go_wp2_with (go_at_call 53; refine (isDay_any _ _).mono ?_; rintro e w' ⟨rfl, rfl⟩; rw [hd])
  go_ret2
  exact Two.mk rfl rfl
set_option maxHeartbeats 400000 in
theorem refYearEnd_yes (d y m k : Int) (w : World) (h : Cal.DateIs d y m k) (h0 : 0 ≤ d) (h1 : d ≤ 1048575) :
    Calls Tryd.prog 70 #[.int .i64 d] w (Two (orMax y 12 31) 0 w) := by
  have hof := Lib.hid (refOf_any y 12 31 w)
  have y0 := h.y0; have y1 := h.y1
  cases ho : ofB y 12 31
  · rw [orMax_no ho]; rw [ofV_no ho, ofE_no ho] at hof; clear ho
    go_enter Tryd.func70, Tryd.ntmps70
    go_wp2_with (first | (go_at_call 38; refine (refDate_yes d y m k _ h h0 h1).mono ?_; rintro e w' ⟨rfl, rfl⟩) | (go_at_call 61; refine hof.out.mono ?_; rintro e w' ⟨rfl, rfl⟩))
    go_ret2
    exact Two.mk rfl rfl
  · rw [orMax_yes ho]; rw [ofV_yes ho, ofE_yes ho] at hof; clear ho
    go_enter Tryd.func70, Tryd.ntmps70
    go_wp2_with (first | (go_at_call 38; refine (refDate_yes d y m k _ h h0 h1).mono ?_; rintro e w' ⟨rfl, rfl⟩) | (go_at_call 61; refine hof.out.mono ?_; rintro e w' ⟨rfl, rfl⟩))
    go_ret2
    exact Two.mk rfl rfl
set_option maxHeartbeats 400000 in
theorem refYearEnd_no (d : Int) (w : World) (hd : dayB d = false) :
    Calls Tryd.prog 70 #[.int .i64 d] w (Two 0 2 w) := by
  go_enter Tryd.func70, Tryd.ntmps70
  go_wp2_with (go_at_call 38; refine (refDate_no _ _ hd).mono ?_; rintro e w' ⟨rfl, rfl⟩)
  go_ret2
  exact Two.mk rfl rfl
end Go.Proofs.YtbllolalfmgfoaaDoor
