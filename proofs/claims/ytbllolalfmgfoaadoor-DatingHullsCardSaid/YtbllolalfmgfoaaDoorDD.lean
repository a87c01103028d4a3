/- Periods: their last days and texts; the lists of those that begin or end on a day. -/
import Derived.Test.YtbllolalfmgfoaaDoorDC
import Derived.Test.YtbllolalfmgfoaaDoorParse3
import Derived.Deep.RegionWith
namespace Go.Proofs.YtbllolalfmgfoaaDoor
open Go.RowKit Go.Shelf

/-- The last day of a period that begins on a day of this year and month. -/
def lst (f wd y m : Int) : Int := if wd = 4 then orMax y 12 31 else if wd = 7 then min (f + Cal.len y m - 1) 1048575 else f

theorem YearEnd_in (f y m k : Int) (w : World) (hT : Tab w) (hD : Cal.DateIs f y m k) (h0 : 0 ≤ f) (h1 : f ≤ 1048575) :
    Calls Tryd.prog 75 #[.int .i64 f] w (Two (orMax y 12 31) 0 w) := YearEnd_yes f y m k w hT hD h0 h1

set_option maxHeartbeats 2000000 in
theorem last_year (f y m k : Int) (w : World) (hT : Tab w) (hD : Cal.DateIs f y m k) (h0 : 0 ≤ f) (h1 : f ≤ 1048575) :
    Calls Tryd.prog 48 #[.agg #[.int .i64 f, .int .i64 4]] w fun e w' => e = .returned (.int .i64 (orMax y 12 31)) ∧ Below w.heap.size w w' := by
  have c1 := YearEnd_in f y m k _ (hT.alloc (.cells #[.int .i64 f, .int .i64 4] 51)) hD h0 h1
  have c1 := Lib.hid c1
  clear hT hD
  go_enter Tryd.func48, Tryd.ntmps48
  go_wp2_with fail
  refine c1.out.mono ?_; rintro e w1 ⟨rfl, rfl⟩
  go_wp2
  go_ret
  exact ⟨rfl, (Below.refl _ w).alloc (Nat.le_refl _) _⟩

set_option maxHeartbeats 2000000 in
theorem last_day (f : Int) (w : World) :
    Calls Tryd.prog 48 #[.agg #[.int .i64 f, .int .i64 10]] w fun e w' => e = .returned (.int .i64 f) ∧ Below w.heap.size w w' := by
  go_enter Tryd.func48, Tryd.ntmps48
  go_wp2
  go_ret
  exact ⟨rfl, (Below.refl _ w).alloc (Nat.le_refl _) _⟩

set_option maxHeartbeats 2000000 in
theorem last_month (f y m k : Int) (w : World) (hT : Tab w) (hD : Cal.DateIs f y m k) (h0 : 0 ≤ f) (h1 : f ≤ 1048575) :
    Calls Tryd.prog 48 #[.agg #[.int .i64 f, .int .i64 7]] w fun e w' => e = .returned (.int .i64 (min (f + Cal.len y m - 1) 1048575)) ∧ Below w.heap.size w w' := by
  have hT1 := hT.alloc (.cells #[.int .i64 f, .int .i64 7] 51)
  have c1 := Lib.hid (Date_yes f y m k _ hT1 hD h0 h1)
  have c2 := Lib.hid (fun W (h : Tab W) => Length_any y m W h)
  have lb := Cal.ln_bd y m
  have le := Cal.len_of y m hD.y0 hD.y1 hD.m0 hD.m1
  generalize hL : Cal.len y m = L at c2 le ⊢
  have l0 : 28 ≤ L ∧ L ≤ 31 := by rw [le]; exact lb
  have w1 : IntKind.i64.wrap (f + L) = f + L := IntWalk.i64_in _ ⟨by omega, by omega⟩
  have w2 : IntKind.i64.wrap (f + L - 1) = f + L - 1 := IntWalk.i64_in _ ⟨by omega, by omega⟩
  have hc : (w.alloc (.cells #[.int .i64 f, .int .i64 7] 51)).cell? ⟨w.heap.size, 0, none⟩ = some (.int .i64 f) := cell_new w _ _ 0
  clear hT hD lb le hL
  go_enter Tryd.func48, Tryd.ntmps48
  go_wp2_with fail
  refine c1.out.mono ?_; rintro e w1 ⟨rfl, rfl⟩
  have hb : Below w.heap.size w (w.alloc (.cells #[.int .i64 f, .int .i64 7] 51)) := (Below.refl _ w).alloc (Nat.le_refl _) _
  clear c1
  generalize w.alloc (.cells #[.int .i64 f, .int .i64 7] 51) = W at hb hc hT1 ⊢
  have hT2 : Tab W.drew := hT1.below (Below.refl W.heap.size W).drew
  have hc2 : W.drew.cell? ⟨w.heap.size, 0, none⟩ = some (.int .i64 f) := hc
  have e1 := Lib.hid (c2.out W hT1)
  have e2 := Lib.hid (c2.out W.drew hT2)
  clear c2 hT1 hT2
  go_wp2_with fail
  go_region_with (go_at_call 56; first | (refine e1.out.mono ?_; rintro e w' ⟨rfl, rfl⟩) | (refine e2.out.mono ?_; rintro e w' ⟨rfl, rfl⟩))
  all_goals (go_wp2 <;> go_ret <;> first | exact ⟨rfl, hb.drew⟩ | exact ⟨by rw [Int.min_eq_left (by omega)]; rfl, hb.drew⟩ | exact ⟨by rw [Int.min_eq_right (by omega)]; rfl, hb.drew⟩)
end Go.Proofs.YtbllolalfmgfoaaDoor
