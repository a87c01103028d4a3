/- The walks of DayNext, DayCycle and DayKeeps. -/
import Derived.Test.YtjjkciakkknhkaaDoorLaws
import Derived.Test.YtjjkciakkknhkaaDoorKeep
namespace Go.Proofs.YtjjkciakkknhkaaDoor
open Go.RowKit

theorem week_next (d : Int) (_h : 0 ≤ d) : (d + 1 + 5) % 7 = ((d + 5) % 7 + 1) % 7 := by omega
theorem week_cycle (d : Int) (_h : 0 ≤ d) : (d + 146097 + 5) % 7 = (d + 5) % 7 := by omega

theorem date_ln {d y m k : Int} (_h : Cal.DateIs d y m k) : 28 ≤ Cal.ln y m ∧ Cal.ln y m ≤ 31 := Cal.ln_bd y m
set_option maxHeartbeats 2000000 in
theorem DayNext_in (d : Int) (w : World) (hT : Tab w) (h0 : 0 ≤ d) (h1 : d + 1 ≤ 1048575) :
    Calls Tryd.prog 6 #[.int .i64 d] w fun e w' => e = .returned (.bool true) ∧ Below w.heap.size w w' := by
  obtain ⟨y, m, n, hD⟩ := Cal.exists_date d h0 (by omega)
  obtain ⟨u, v, r, hE⟩ := Cal.exists_date (d + 1) (by omega) h1
  have hwk := week_next d h0
  have h2 : d ≤ 1048575 := by omega
  have h3 : 0 ≤ d + 1 := by omega
  rcases next_date hD hE h1 with ⟨c, rfl, rfl, rfl⟩ | ⟨rfl, c2, rfl, rfl, rfl⟩ | ⟨rfl, rfl, rfl, rfl, rfl⟩
  · have y0 := hD.y0; have y1 := hD.y1; have m0 := hD.m0; have m1 := hD.m1; have n0 := hD.k0; have n1 := hD.k1
    have le := Cal.len_of _ _ y0 y1 m0 m1
    have lb := date_ln hD
    go_enter Tryd.func6, Tryd.ntmps6
    go_wp2_with fail
    refine (awake_any _ hT).mono ?_; rintro e w1 ⟨rfl, hb⟩
    have hT1 := hT.below hb
    go_wp2_with fail
    refine (Date_yes _ _ _ _ w1 hT1 hD h0 h2).mono ?_; rintro e w' ⟨rfl, rfl⟩
    go_wp2_with fail
    refine (Date_yes _ _ _ _ w1 hT1 hE h3 h1).mono ?_; rintro e w' ⟨rfl, rfl⟩
    go_wp2_with fail
    refine (Weekday_yes _ w1 h0 h2).mono ?_; rintro e w' ⟨rfl, rfl⟩
    go_wp2_with fail
    refine (Weekday_yes _ w1 h3 h1).mono ?_; rintro e w' ⟨rfl, rfl⟩
    go_wp2_with fail
    refine (Length_any _ _ w1 hT1).mono ?_; rintro e w' ⟨rfl, rfl⟩
    go_wp2
    go_ret
    exact ⟨rfl, hb⟩
  · have y0 := hD.y0; have y1 := hD.y1; have m0 := hD.m0; have m1 := hD.m1; have n0 := hD.k0; have n1 := hD.k1
    have le := Cal.len_of _ _ y0 y1 m0 m1
    have lb := date_ln hD
    go_enter Tryd.func6, Tryd.ntmps6
    go_wp2_with fail
    refine (awake_any _ hT).mono ?_; rintro e w1 ⟨rfl, hb⟩
    have hT1 := hT.below hb
    go_wp2_with fail
    refine (Date_yes _ _ _ _ w1 hT1 hD h0 h2).mono ?_; rintro e w' ⟨rfl, rfl⟩
    go_wp2_with fail
    refine (Date_yes _ _ _ _ w1 hT1 hE h3 h1).mono ?_; rintro e w' ⟨rfl, rfl⟩
    go_wp2_with fail
    refine (Weekday_yes _ w1 h0 h2).mono ?_; rintro e w' ⟨rfl, rfl⟩
    go_wp2_with fail
    refine (Weekday_yes _ w1 h3 h1).mono ?_; rintro e w' ⟨rfl, rfl⟩
    go_wp2_with fail
    refine (Length_any _ _ w1 hT1).mono ?_; rintro e w' ⟨rfl, rfl⟩
    go_wp2
    go_ret
    exact ⟨rfl, hb⟩
  · have y0 := hD.y0; have y1 := hD.y1; have m0 := hD.m0; have m1 := hD.m1; have n0 := hD.k0; have n1 := hD.k1
    have le := Cal.len_of _ _ y0 y1 m0 m1
    have lb := date_ln hD
    go_enter Tryd.func6, Tryd.ntmps6
    go_wp2_with fail
    refine (awake_any _ hT).mono ?_; rintro e w1 ⟨rfl, hb⟩
    have hT1 := hT.below hb
    go_wp2_with fail
    refine (Date_yes _ _ _ _ w1 hT1 hD h0 h2).mono ?_; rintro e w' ⟨rfl, rfl⟩
    go_wp2_with fail
    refine (Date_yes _ _ _ _ w1 hT1 hE h3 h1).mono ?_; rintro e w' ⟨rfl, rfl⟩
    go_wp2_with fail
    refine (Weekday_yes _ w1 h0 h2).mono ?_; rintro e w' ⟨rfl, rfl⟩
    go_wp2_with fail
    refine (Weekday_yes _ w1 h3 h1).mono ?_; rintro e w' ⟨rfl, rfl⟩
    go_wp2_with fail
    refine (Length_any _ _ w1 hT1).mono ?_; rintro e w' ⟨rfl, rfl⟩
    go_wp2
    go_ret
    exact ⟨rfl, hb⟩

set_option maxHeartbeats 2000000 in
theorem DayCycle_any (d : Int) (w : World) (hT : Tab w) :
    Calls Tryd.prog 7 #[.int .i64 d] w fun e w' => e = .returned (.bool true) ∧ Below w.heap.size w w' := by
  by_cases h0 : d < 0
  · go_enter Tryd.func7, Tryd.ntmps7
    go_wp2_with (go_at_call 10; refine (awake_any _ hT).mono ?_; rintro e w1 ⟨rfl, hb⟩)
    go_ret
    exact ⟨rfl, hb⟩
  · by_cases h1 : 902478 < d
    · go_enter Tryd.func7, Tryd.ntmps7
      go_wp2_with (go_at_call 10; refine (awake_any _ hT).mono ?_; rintro e w1 ⟨rfl, hb⟩)
      go_ret
      exact ⟨rfl, hb⟩
    · have a0 : 0 ≤ d := by omega
      have a1 : d ≤ 902478 := by omega
      have a2 : d ≤ 1048575 := by omega
      obtain ⟨y, m, n, hD⟩ := Cal.exists_date d a0 a2
      have hE := cycle_date hD a1
      have y0 := hD.y0; have y1 := hD.y1
      have hwk := week_cycle d a0
      clear h0 h1
      go_enter Tryd.func7, Tryd.ntmps7
      go_wp2_with fail
      refine (awake_any _ hT).mono ?_; rintro e w1 ⟨rfl, hb⟩
      have hT1 := hT.below hb
      go_wp2_with fail
      refine (Date_yes d y m n w1 hT1 hD a0 a2).mono ?_; rintro e w' ⟨rfl, rfl⟩
      go_wp2_with fail
      refine (Date_yes (d + 146097) (y + 400) m n w1 hT1 hE (by omega) (by omega)).mono ?_; rintro e w' ⟨rfl, rfl⟩
      go_wp2_with fail
      refine (Weekday_yes d w1 a0 a2).mono ?_; rintro e w' ⟨rfl, rfl⟩
      go_wp2_with fail
      refine (Weekday_yes (d + 146097) w1 (by omega) (by omega)).mono ?_; rintro e w' ⟨rfl, rfl⟩
      go_wp2
      go_ret
      exact ⟨rfl, hb⟩

set_option maxRecDepth 100000 in
set_option maxHeartbeats 4000000 in
theorem DayKeeps_any (a b n more : Int) (w : World) (hT : Tab w) (n0 : 0 ≤ n) (n1 : n ≤ 255) (l0 : 0 ≤ more) (l1 : more ≤ 255) :
    Calls Tryd.prog 9 #[.int .i64 a, .int .i64 b, .int .u8 n, .int .u8 more] w fun e w' => e = .returned (.bool true) ∧ Below w.heap.size w w' := by
  by_cases c0 : a < 0
  · go_enter Tryd.func9, Tryd.ntmps9
    go_wp2_with (go_at_call 10; refine (awake_any _ hT).mono ?_; rintro e w1 ⟨rfl, hb⟩)
    go_ret
    exact ⟨rfl, hb⟩
  · by_cases c1 : b < a
    · go_enter Tryd.func9, Tryd.ntmps9
      go_wp2_with (go_at_call 10; refine (awake_any _ hT).mono ?_; rintro e w1 ⟨rfl, hb⟩)
      go_ret
      exact ⟨rfl, hb⟩
    · by_cases c2 : 1048575 < b
      · go_enter Tryd.func9, Tryd.ntmps9
        go_wp2_with (go_at_call 10; refine (awake_any _ hT).mono ?_; rintro e w1 ⟨rfl, hb⟩)
        go_ret
        exact ⟨rfl, hb⟩
      · have a0 : 0 ≤ a := by omega
        have ab : a ≤ b := by omega
        have b1 : b ≤ 1048575 := by omega
        have a1 : a ≤ 1048575 := by omega
        have b0 : 0 ≤ b := by omega
        obtain ⟨y, m, k, hD⟩ := Cal.exists_date a a0 a1
        obtain ⟨u, v, r, hE⟩ := Cal.exists_date b b0 b1
        have k0 : 0 ≤ n % 101 := by omega
        have k1 : n % 101 ≤ 100 := by omega
        have q0 : 0 ≤ more % 100 := by omega
        have q1 : more % 100 ≤ 99 := by omega
        have f1 : later y m k (n % 101) ≤ later u v r (n % 101) := by
          rw [later_min hD k0, later_min hE k0]; have := raw_mono hD hE ab k0; omega
        have f2 : later y m k (n % 101) ≤ later y m k (n % 101 + more % 100) := by
          rw [later_min hD k0, later_min hD (by omega)]; have := raw_more hD k0 q0; omega
        have f3 : later y m k (n % 101) - a ≤ 366 * (n % 101) := by
          rw [later_min hD k0]; have := raw_bd hD (n % 101) k0; omega
        have f4 : later y m k (n % 101) = 1048575 ∨ 365 * (n % 101) ≤ later y m k (n % 101) - a := by
          rw [later_min hD k0]; have := raw_bd hD (n % 101) k0; omega
        have f5 : a ≤ later y m k (n % 101) ∧ later y m k (n % 101) ≤ 1048575 := by
          rw [later_min hD k0]; have := raw_bd hD (n % 101) k0; omega
        obtain ⟨s, t, hF, e1, e2, e3⟩ := end_date hD a1
        obtain ⟨f6, f7⟩ := f5
        have y0 := hD.y0; have y1 := hD.y1
        clear c0 c1 c2
        generalize hX : later y m k (n % 101) = X at f1 f2 f3 f4 f6 f7
        generalize hY : later u v r (n % 101) = Y at f1
        generalize hZ : later y m k (n % 101 + more % 100) = Z at f2
        generalize hW : orMax y 12 31 = V at hF e1 e2 e3
        have HX := Lib.hid hX; have HY := Lib.hid hY; have HZ := Lib.hid hZ; have HW := Lib.hid hW
        clear hX hY hZ hW
        rcases f4 with f4 | f4
        · subst f4
          go_enter Tryd.func9, Tryd.ntmps9
          go_wp2_with fail
          refine (awake_any _ hT).mono ?_; rintro e w1 ⟨rfl, hb⟩
          have hT1 := hT.below hb
          go_wp2_with fail
          refine (Years_yes a (n % 101) y m k w1 hT1 hD a0 a1 k0 (by omega)).mono ?_; rintro e w' ⟨rfl, rfl⟩
          rw [HX.out]
          go_wp2_with fail
          refine (Years_yes b (n % 101) u v r w1 hT1 hE b0 b1 k0 (by omega)).mono ?_; rintro e w' ⟨rfl, rfl⟩
          rw [HY.out]
          go_wp2_with fail
          refine (Years_yes a (n % 101 + more % 100) y m k w1 hT1 hD a0 a1 (by omega) (by omega)).mono ?_; rintro e w' ⟨rfl, rfl⟩
          rw [HZ.out]
          go_wp2_with fail
          refine (YearEnd_yes a y m k w1 hT1 hD a0 a1).mono ?_; rintro e w' ⟨rfl, rfl⟩
          rw [HW.out]
          go_wp2_with fail
          refine (Date_yes a y m k w1 hT1 hD a0 a1).mono ?_; rintro e w' ⟨rfl, rfl⟩
          go_wp2_with fail
          refine (Date_yes V y s t w1 hT1 hF (by omega) e2).mono ?_; rintro e w' ⟨rfl, rfl⟩
          go_wp2
          all_goals
            go_ret
            exact ⟨rfl, hb⟩
        · go_enter Tryd.func9, Tryd.ntmps9
          go_wp2_with fail
          refine (awake_any _ hT).mono ?_; rintro e w1 ⟨rfl, hb⟩
          have hT1 := hT.below hb
          go_wp2_with fail
          refine (Years_yes a (n % 101) y m k w1 hT1 hD a0 a1 k0 (by omega)).mono ?_; rintro e w' ⟨rfl, rfl⟩
          rw [HX.out]
          go_wp2_with fail
          refine (Years_yes b (n % 101) u v r w1 hT1 hE b0 b1 k0 (by omega)).mono ?_; rintro e w' ⟨rfl, rfl⟩
          rw [HY.out]
          go_wp2_with fail
          refine (Years_yes a (n % 101 + more % 100) y m k w1 hT1 hD a0 a1 (by omega) (by omega)).mono ?_; rintro e w' ⟨rfl, rfl⟩
          rw [HZ.out]
          go_wp2_with fail
          refine (YearEnd_yes a y m k w1 hT1 hD a0 a1).mono ?_; rintro e w' ⟨rfl, rfl⟩
          rw [HW.out]
          go_wp2_with fail
          refine (Date_yes a y m k w1 hT1 hD a0 a1).mono ?_; rintro e w' ⟨rfl, rfl⟩
          go_wp2_with fail
          refine (Date_yes V y s t w1 hT1 hF (by omega) e2).mono ?_; rintro e w' ⟨rfl, rfl⟩
          go_wp2
          all_goals
            go_ret
            exact ⟨rfl, hb⟩

/-- The number behind a number, as Go reckons it, is no day where this is so. -/
theorem no_next (d : Int) (h : d < -1 ∨ 1048575 ≤ d) (lo : -9223372036854775808 ≤ d) (hi : d ≤ 9223372036854775807) : dayB (wrap64 (d + 1)) = false := by
  refine dayB_no ?_
  have e : wrap64 (d + 1) = d + 1 ∨ wrap64 (d + 1) = d + 1 - 18446744073709551616 := by unfold wrap64; omega
  omega

set_option maxRecDepth 100000 in
set_option maxHeartbeats 2000000 in
theorem DayNext_any (d : Int) (w : World) (hT : Tab w) (wf : Hid (-9223372036854775808 ≤ d ∧ d ≤ 9223372036854775807)) :
    Calls Tryd.prog 6 #[.int .i64 d] w fun e w' => e = .returned (.bool true) ∧ Below w.heap.size w w' := by
  by_cases c : 0 ≤ d ∧ d + 1 ≤ 1048575
  · exact DayNext_in d w hT c.1 c.2
  · by_cases c1 : d = -1
    · subst c1
      obtain ⟨u, v, r, hE⟩ := Cal.exists_date 0 (by decide) (by decide)
      clear wf c
      go_enter Tryd.func6, Tryd.ntmps6
      go_wp2_with fail
      refine (awake_any _ hT).mono ?_; rintro e w1 ⟨rfl, hb⟩
      have hT1 := hT.below hb
      go_wp2_with fail
      refine (Date_no (-1) w1 (by decide)).mono ?_; rintro e w' ⟨rfl, rfl⟩
      go_wp2_with fail
      refine (Date_yes 0 u v r w1 hT1 hE (by decide) (by decide)).mono ?_; rintro e w' ⟨rfl, rfl⟩
      go_wp2
      go_ret
      exact ⟨rfl, hb⟩
    · by_cases c2 : d = 1048575
      · subst c2
        obtain ⟨u, v, r, hE⟩ := Cal.exists_date 1048575 (by decide) (by decide)
        clear wf c c1
        go_enter Tryd.func6, Tryd.ntmps6
        go_wp2_with fail
        refine (awake_any _ hT).mono ?_; rintro e w1 ⟨rfl, hb⟩
        have hT1 := hT.below hb
        go_wp2_with fail
        refine (Date_yes 1048575 u v r w1 hT1 hE (by decide) (by decide)).mono ?_; rintro e w' ⟨rfl, rfl⟩
        go_wp2_with fail
        refine (Date_no _ w1 (by decide)).mono ?_; rintro e w' ⟨rfl, rfl⟩
        go_wp2
        go_ret
        exact ⟨rfl, hb⟩
      · have n1 : dayB d = false := dayB_no (by omega)
        have n2 := no_next d (by omega) wf.out.1 wf.out.2
        by_cases s : d < -1
        · clear wf c c1 c2
          go_enter Tryd.func6, Tryd.ntmps6
          go_wp2_with fail
          refine (awake_any _ hT).mono ?_; rintro e w1 ⟨rfl, hb⟩
          go_wp2_with fail
          refine (Date_no d w1 n1).mono ?_; rintro e w' ⟨rfl, rfl⟩
          go_wp2_with fail
          refine (Date_no _ w1 n2).mono ?_; rintro e w' ⟨rfl, rfl⟩
          go_wp2
          go_ret
          exact ⟨rfl, hb⟩
        · have s' : 1048575 < d := by omega
          clear wf c c1 c2 s
          go_enter Tryd.func6, Tryd.ntmps6
          go_wp2_with fail
          refine (awake_any _ hT).mono ?_; rintro e w1 ⟨rfl, hb⟩
          go_wp2_with fail
          refine (Date_no d w1 n1).mono ?_; rintro e w' ⟨rfl, rfl⟩
          go_wp2_with fail
          refine (Date_no _ w1 n2).mono ?_; rintro e w' ⟨rfl, rfl⟩
          go_wp2
          go_ret
          exact ⟨ret_bool (a := decide (d < -1) || decide (1048575 ≤ d)) (by simp; omega), hb⟩
end Go.Proofs.YtjjkciakkknhkaaDoor
