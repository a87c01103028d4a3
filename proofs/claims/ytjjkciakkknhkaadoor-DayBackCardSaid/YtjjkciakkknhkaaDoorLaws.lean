/- The walks of the laws of package day that read no text: from the contracts of the functions that they call. -/
import Derived.Test.YtjjkciakkknhkaaDoorAwake
namespace Go.Proofs.YtjjkciakkknhkaaDoor
open Go.RowKit

/-- A new block of three cells is still there behind a call. -/
theorem three {w w1 : World} {a b c : Value} {t : TypeId} (hb : Below (w.alloc (.cells #[a, b, c] t)).heap.size (w.alloc (.cells #[a, b, c] t)) w1) :
    w1.cell? ⟨w.heap.size, 0, none⟩ = some a ∧ w1.cell? ⟨w.heap.size, 1, none⟩ = some b ∧ w1.cell? ⟨w.heap.size, 2, none⟩ = some c := by
  have h : ∀ o, w1.cell? ⟨w.heap.size, o, none⟩ = (#[a, b, c] : Array Value)[o]? := fun o =>
    (hb.cell (p := ⟨w.heap.size, o, none⟩) (by simp)).trans (World.cell?_alloc_mark w _ t (0, 0) o)
  exact ⟨h 0, h 1, h 2⟩
theorem over_new {w w1 : World} {o : Obj} (hb : Below (w.alloc o).heap.size (w.alloc o) w1) : Below w.heap.size w w1 :=
  ((Below.refl _ _).alloc (Nat.le_refl _) o).trans (hb.mono (by simp))

set_option maxHeartbeats 2000000 in
theorem DayConverts_any (y m k d : Int) (w : World) (hT : Tab w) :
    Calls Tryd.prog 3 #[.agg #[.int .i64 y, .int .i64 m, .int .i64 k], .int .i64 d] w fun e w' => e = .returned (.bool true) ∧ Below w.heap.size w w' := by
  have hT0 := hT.alloc (.cells #[.int .i64 y, .int .i64 m, .int .i64 k] 22)
  cases hd : dayB d
  · go_enter Tryd.func3, Tryd.ntmps3
    go_wp2_with fail
    refine (awake_any _ hT0).mono ?_; rintro e w1 ⟨rfl, hb⟩
    have hT1 := hT0.below hb
    obtain ⟨x0, x1, x2⟩ := three hb
    go_wp2_with (first | (go_at_call 11; refine (Of_any y m k w1 hT1).mono ?_; rintro e w' ⟨rfl, rfl⟩) | (go_at_call 12; refine (refOf_any y m k w1).mono ?_; rintro e w' ⟨rfl, rfl⟩) | (go_at_call 13; refine (Date_no d w1 hd).mono ?_; rintro e w' ⟨rfl, rfl⟩) | (go_at_call 14; refine (refDate_no d w1 hd).mono ?_; rintro e w' ⟨rfl, rfl⟩) | (go_at_call 15; refine (Weekday_no d w1 hd).mono ?_; rintro e w' ⟨rfl, rfl⟩) | (go_at_call 16; refine (refWeekday_no d w1 hd).mono ?_; rintro e w' ⟨rfl, rfl⟩))
    go_ret
    exact ⟨rfl, over_new hb⟩
  · obtain ⟨h0, h1⟩ := dayB_t hd
    obtain ⟨u, v, r, hD⟩ := Cal.exists_date d h0 h1
    go_enter Tryd.func3, Tryd.ntmps3
    go_wp2_with fail
    refine (awake_any _ hT0).mono ?_; rintro e w1 ⟨rfl, hb⟩
    have hT1 := hT0.below hb
    obtain ⟨x0, x1, x2⟩ := three hb
    go_wp2_with (first | (go_at_call 11; refine (Of_any y m k w1 hT1).mono ?_; rintro e w' ⟨rfl, rfl⟩) | (go_at_call 12; refine (refOf_any y m k w1).mono ?_; rintro e w' ⟨rfl, rfl⟩) | (go_at_call 13; refine (Date_yes d u v r w1 hT1 hD h0 h1).mono ?_; rintro e w' ⟨rfl, rfl⟩) | (go_at_call 14; refine (refDate_yes d u v r w1 hD h0 h1).mono ?_; rintro e w' ⟨rfl, rfl⟩) | (go_at_call 15; refine (Weekday_yes d w1 h0 h1).mono ?_; rintro e w' ⟨rfl, rfl⟩) | (go_at_call 16; refine (refWeekday_yes d w1 h0 h1).mono ?_; rintro e w' ⟨rfl, rfl⟩))
    go_ret
    exact ⟨rfl, over_new hb⟩

set_option maxHeartbeats 2000000 in
theorem DayLater_any (y m d n : Int) (w : World) (hT : Tab w) :
    Calls Tryd.prog 4 #[.int .i64 y, .int .i64 m, .int .i64 d, .int .i64 n] w fun e w' => e = .returned (.bool true) ∧ Below w.heap.size w w' := by
  cases hd : dayB d
  · have hn : yrB d n = false := by
      cases hy : yrB d n
      · rfl
      · have := yrB_yes hy; have := dayB_f hd; omega
    go_enter Tryd.func4, Tryd.ntmps4
    go_wp2_with fail
    refine (awake_any _ hT).mono ?_; rintro e w1 ⟨rfl, hb⟩
    have hT1 := hT.below hb
    go_wp2_with (first | (go_at_call 17; refine (Years_no d n w1 hn).mono ?_; rintro e w' ⟨rfl, rfl⟩) | (go_at_call 18; refine (refYears_no d n w1 hn).mono ?_; rintro e w' ⟨rfl, rfl⟩) | (go_at_call 19; refine (YearEnd_no d w1 hd).mono ?_; rintro e w' ⟨rfl, rfl⟩) | (go_at_call 20; refine (refYearEnd_no d w1 hd).mono ?_; rintro e w' ⟨rfl, rfl⟩) | (go_at_call 21; refine (Length_any y m w1 hT1).mono ?_; rintro e w' ⟨rfl, rfl⟩) | (go_at_call 22; refine (refLength_any y m w1).mono ?_; rintro e w' ⟨rfl, rfl⟩))
    go_ret
    exact ⟨rfl, hb⟩
  · obtain ⟨h0, h1⟩ := dayB_t hd
    obtain ⟨u, v, r, hD⟩ := Cal.exists_date d h0 h1
    cases hn : yrB d n
    · go_enter Tryd.func4, Tryd.ntmps4
      go_wp2_with fail
      refine (awake_any _ hT).mono ?_; rintro e w1 ⟨rfl, hb⟩
      have hT1 := hT.below hb
      go_wp2_with (first | (go_at_call 17; refine (Years_no d n w1 hn).mono ?_; rintro e w' ⟨rfl, rfl⟩) | (go_at_call 18; refine (refYears_no d n w1 hn).mono ?_; rintro e w' ⟨rfl, rfl⟩) | (go_at_call 19; refine (YearEnd_yes d u v r w1 hT1 hD h0 h1).mono ?_; rintro e w' ⟨rfl, rfl⟩) | (go_at_call 20; refine (refYearEnd_yes d u v r w1 hD h0 h1).mono ?_; rintro e w' ⟨rfl, rfl⟩) | (go_at_call 21; refine (Length_any y m w1 hT1).mono ?_; rintro e w' ⟨rfl, rfl⟩) | (go_at_call 22; refine (refLength_any y m w1).mono ?_; rintro e w' ⟨rfl, rfl⟩))
      go_ret
      exact ⟨rfl, hb⟩
    · obtain ⟨_, _, n0, n1⟩ := yrB_yes hn
      go_enter Tryd.func4, Tryd.ntmps4
      go_wp2_with fail
      refine (awake_any _ hT).mono ?_; rintro e w1 ⟨rfl, hb⟩
      have hT1 := hT.below hb
      go_wp2_with (first | (go_at_call 17; refine (Years_yes d n u v r w1 hT1 hD h0 h1 n0 n1).mono ?_; rintro e w' ⟨rfl, rfl⟩) | (go_at_call 18; refine (refYears_yes d n u v r w1 hD h0 h1 n0 n1).mono ?_; rintro e w' ⟨rfl, rfl⟩) | (go_at_call 19; refine (YearEnd_yes d u v r w1 hT1 hD h0 h1).mono ?_; rintro e w' ⟨rfl, rfl⟩) | (go_at_call 20; refine (refYearEnd_yes d u v r w1 hD h0 h1).mono ?_; rintro e w' ⟨rfl, rfl⟩) | (go_at_call 21; refine (Length_any y m w1 hT1).mono ?_; rintro e w' ⟨rfl, rfl⟩) | (go_at_call 22; refine (refLength_any y m w1).mono ?_; rintro e w' ⟨rfl, rfl⟩))
      go_ret
      exact ⟨rfl, hb⟩
end Go.Proofs.YtjjkciakkknhkaaDoor
