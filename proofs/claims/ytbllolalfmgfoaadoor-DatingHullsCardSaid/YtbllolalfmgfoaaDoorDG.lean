/- A year's lists, whether a list has a period, the text of a year's dating. -/
import Derived.Test.YtbllolalfmgfoaaDoorDF
import Derived.BigQuiet
import Derived.Deep.QuietTactic
namespace Go.Proofs.YtbllolalfmgfoaaDoor
open Go.RowKit Go.Shelf

set_option maxHeartbeats 1000000 in
theorem beginning_year (d y : Int) (w : World) (hT : Tab w) (hD : Cal.DateIs d y 1 1) (h0 : 0 ≤ d) (h1 : d ≤ 1048575) :
    Calls Tryd.prog 35 #[.int .i64 d] w
      fun e w' => ∃ B, e = .returned (.slice (some ⟨B, 0, none⟩) 3 3) ∧ Dats w' B 0 3 (all3P d y 1) ∧ Below w.heap.size w w' ∧ w.heap.size ≤ B := by
  have eg : ∀ args w, (callFunc 65 args).run Tryd.prog w = .ok (.enter 65 args) w := enters_of Tryd.func65 (by kernel_rfl) rfl
  have hB : Below w.heap.size w (w.alloc (.cells #[.int .i64 d] 3)) := (Below.refl _ w).alloc (Nat.le_refl _) _
  have hc : (w.alloc (.cells #[.int .i64 d] 3)).cell? ⟨w.heap.size, 0, none⟩ = some (.int .i64 d) := cell_new w _ _ 0
  have hs : w.heap.size < (w.alloc (.cells #[.int .i64 d] 3)).heap.size := by simp
  have c := around_all 65 #[.pointer (some ⟨w.heap.size, 0, none⟩)] eg d y 1 1 _ (hT.below hB) hD h0 h1 (fun W j hj hb => by
    have h := beginTest (all3P d y 1 j) d w.heap.size W (Nat.lt_of_lt_of_le hs hb.size) ((hb.cell (p := ⟨w.heap.size, 0, none⟩) hs).trans hc)
    have e : ((all3P d y 1 j).1 == d) = true := by
      have e1 := hD.eq
      match j, hj with
      | 0, _ => simp [all3P, sel3, e1]
      | 1, _ => simp [all3P, sel3, e1]
      | 2, _ => simp [all3P, sel3]
      | j + 3, hj => omega
    rw [e] at h
    exact h)
  have c := Lib.hid c
  clear hc hs hT hD
  go_enter Tryd.func35, Tryd.ntmps35
  go_wp2_with fail
  refine c.out.mono ?_; rintro e w1 ⟨B, rfl, hd, hb, hle⟩
  go_wp2
  go_ret
  exact ⟨B, rfl, hd, hB.trans (hb.mono hB.size), Nat.le_trans hB.size hle⟩

set_option maxHeartbeats 1000000 in
theorem ending_year (d y : Int) (w : World) (hT : Tab w) (hD : Cal.DateIs d y 12 31) (h0 : 0 ≤ d) (h1 : d ≤ 1048575) :
    Calls Tryd.prog 36 #[.int .i64 d] w
      fun e w' => ∃ B, e = .returned (.slice (some ⟨B, 0, none⟩) 3 3) ∧ Dats w' B 0 3 (all3P d y 12) ∧ Below w.heap.size w w' ∧ w.heap.size ≤ B := by
  have eg : ∀ args w, (callFunc 66 args).run Tryd.prog w = .ok (.enter 66 args) w := enters_of Tryd.func66 (by kernel_rfl) rfl
  have hB : Below w.heap.size w (w.alloc (.cells #[.int .i64 d] 3)) := (Below.refl _ w).alloc (Nat.le_refl _) _
  have hc : (w.alloc (.cells #[.int .i64 d] 3)).cell? ⟨w.heap.size, 0, none⟩ = some (.int .i64 d) := cell_new w _ _ 0
  have hs : w.heap.size < (w.alloc (.cells #[.int .i64 d] 3)).heap.size := by simp
  have y0 := hD.y0; have y1 := hD.y1
  obtain ⟨g1, g2⟩ := firsts hD h1
  have D1 := Cal.DateIs.of_good (ofB_good g1)
  have D2 := Cal.DateIs.of_good (ofB_good g2)
  have n1 := D1.year.1; have n2 := D2.year.1
  have z0 := Cal.ys_bd y y0
  have m1 := (ofB_good g1).2.2; have m2 := (ofB_good g2).2.2
  have eq := hD.eq
  have l31 : Cal.len y 12 = 31 := by rw [Cal.len_of y 12 y0 y1 (by omega) (by omega)]; simp [Cal.ln]
  have p1 : 0 ≤ Cal.num y 1 1 := by omega
  have p2 : 0 ≤ Cal.num y 12 1 := by omega
  have em : min (Cal.num y 12 1 + Cal.len y 12 - 1) 1048575 = d := by
    have e1 : Cal.num y 12 1 + Cal.len y 12 - 1 = d := by rw [l31, ← eq]; unfold Cal.num; omega
    rw [e1, Int.min_eq_left h1]
  have hY : ofB y 12 31 = true := ofB_mk ⟨by omega, by omega, by omega⟩
  have c := around_all 66 #[.pointer (some ⟨w.heap.size, 0, none⟩)] eg d y 12 31 _ (hT.below hB) hD h0 h1 (fun W j hj hb => by
    have hTW := (hT.below hB).below hb
    have e : ∃ v : Int, v = d ∧ ∀ V, Below W.heap.size W V → Calls Tryd.prog 48 #[pv (all3P d y 12 j)] V fun e w' => e = .returned (.int .i64 v) ∧ Below V.heap.size V w' := by
      match j, hj with
      | 0, _ => exact ⟨_, (orMax_yes hY).trans eq, fun V hV => last_year (Cal.num y 1 1) y 1 1 V (hTW.below hV) D1 p1 m1⟩
      | 1, _ => exact ⟨_, em, fun V hV => last_month (Cal.num y 12 1) y 12 1 V (hTW.below hV) D2 p2 m2⟩
      | 2, _ => exact ⟨_, rfl, fun V hV => last_day d V⟩
      | j + 3, hj => omega
    obtain ⟨v, rfl, hl⟩ := e
    have h := endTest (all3P v y 12 j) v v w.heap.size W (Nat.lt_of_lt_of_le hs hb.size) ((hb.cell (p := ⟨w.heap.size, 0, none⟩) hs).trans hc) hl
    rw [beq_self_eq_true] at h
    exact h)
  have c := Lib.hid c
  clear hc hs hT hD D1 D2 n1 n2 z0 m1 m2 eq l31 hY g1 g2 p1 p2 em
  go_enter Tryd.func36, Tryd.ntmps36
  go_wp2_with fail
  refine c.out.mono ?_; rintro e w1 ⟨B, rfl, hd, hb, hle⟩
  go_wp2
  go_ret
  exact ⟨B, rfl, hd, hB.trans (hb.mono hB.size), Nat.le_trans hB.size hle⟩

/-- '==' of two periods. -/
theorem eqP (a b c d : Int) (w : World) : (binOp .eql 51 (.agg #[.int .i64 a, .int .i64 b]) (.agg #[.int .i64 c, .int .i64 d])).run Tryd.prog w = .ok (.bool (decide (a = c ∧ b = d))) w := by
  have u3 := Tryd.underlying3
  have a3 := Tryd.isAgg3
  have z3 := Tryd.sizeOf3
  have hS : Tryd.prog.underlying 51 = some (.struct (Tryd.prog.fieldsOf 51)) := by kernel_rfl
  have hp : Tryd.prog.stoodInHeld 51 = false := by kernel_rfl
  rw [run_eql_struct, show (10000 : Nat) = 9999 + 1 from rfl, run_equalIn_agg w 9999 51 _ _ hS hp]
  simp only [Program.fieldsOf, Tryd.underlying51]
  go_simp
  by_cases h1 : a = c <;> by_cases h2 : b = d <;> simp [h1, h2]
theorem eqPg (a b c d : Int) (op : BinOp) (x y : Operand) (w : World) : (eqGuard op 51 x y (.agg #[.int .i64 a, .int .i64 b]) (.agg #[.int .i64 c, .int .i64 d])).run Tryd.prog w = .ok () w :=
  run_eqGuard_agg w op _ x y _ _ (by kernel_rfl)

def isP (v : Int × Int) (D : Nat → Int × Int) (j : Nat) : Bool := decide (v.1 = (D j).1 ∧ v.2 = (D j).2)

set_option maxHeartbeats 2000000 in
theorem IndexP_any (b off n c : Nat) (D : Nat → Int × Int) (v : Int × Int) (w : World) (hn : n ≤ 9223372036854775807) (hD : Dats w b off n D) :
    Calls Tryd.prog 84 #[.slice (some ⟨b, off, none⟩) n c, .agg #[.int .i64 v.1, .int .i64 v.2]] w
      fun e w' => ∃ z : Int, e = .returned (.int .i64 z) ∧ FirstT (isP v D) n z ∧ Below w.heap.size w w' := by
  have hB : Below w.heap.size w (w.alloc (.cells #[.int .i64 v.1, .int .i64 v.2] 51)) := (Below.refl _ w).alloc (Nat.le_refl _) _
  have hc0 : (w.alloc (.cells #[.int .i64 v.1, .int .i64 v.2] 51)).cell? ⟨w.heap.size, 0, none⟩ = some (.int .i64 v.1) := cell_new w _ _ 0
  have hc1 : (w.alloc (.cells #[.int .i64 v.1, .int .i64 v.2] 51)).cell? ⟨w.heap.size, 1, none⟩ = some (.int .i64 v.2) := cell_new w _ _ 1
  have hs : w.heap.size < (w.alloc (.cells #[.int .i64 v.1, .int .i64 v.2] 51)).heap.size := by simp
  have hD1 := hD.below hB
  clear hD
  go_enter Tryd.func84, Tryd.ntmps84
  go_wp2
  generalize w.alloc (.cells #[.int .i64 v.1, .int .i64 v.2] 51) = V at hB hc0 hc1 hs hD1 ⊢
  have HD := Lib.hid hD1
  have HC := Lib.hid (And.intro hc0 hc1)
  clear hD1 hc0 hc1
  go_loopg [5, 8] n (fun gg _ s8 wr => ∃ kk : Nat, kk ≤ n ∧ n - kk ≤ gg ∧ s8 = .int .i64 kk ∧ Aside (Below V.heap.size V wr) ∧ Aside (∀ j, j < kk → isP v D j = false))
  case atStart => exact ⟨0, Nat.zero_le _, by omega, rfl, Below.refl _ V, fun j hj => absurd hj (Nat.not_lt_zero _)⟩
  case round =>
    obtain ⟨kk, hkk, hg, rfl, BW, A⟩ := hrel
    by_cases hlt : kk < n
    · have hltz : (kk : Int) < (n : Int) := by omega
      obtain ⟨l1, l2⟩ := (HD.out.below BW.out).2 kk hlt
      have k0 := (BW.out.cell (p := ⟨w.heap.size, 0, none⟩) hs).trans HC.out.1
      have k1 := (BW.out.cell (p := ⟨w.heap.size, 1, none⟩) hs).trans HC.out.2
      have q := eqP v.1 v.2 (D kk).1 (D kk).2
      have qg := eqPg v.1 v.2 (D kk).1 (D kk).2
      have hq : isP v D kk = decide (v.1 = (D kk).1 ∧ v.2 = (D kk).2) := rfl
      rw [← hq] at q
      clear hq
      have HA := Lib.hid A.out
      cases hh : isP v D kk with
      | true =>
        rw [hh] at q
        go_wp2_with fail
        go_quiet (fail)
        go_wp2
        go_ret
        exact ⟨_, rfl, Or.inr ⟨kk, hlt, rfl, hh, A.out⟩, hB.trans ((BW.out.mono hB.size).trans ⟨rfl, rfl, rfl, Nat.le_refl _, fun _ _ => rfl⟩)⟩
      | false =>
        rw [hh] at q
        go_wp2_with fail
        go_quiet (fail)
        go_wp2
        go_roundg (n - (kk + 1))
        case measure => omega
        case rel =>
          refine ⟨kk + 1, by omega, by omega, by go_num, (show Aside _ from BW.out.trans ⟨rfl, rfl, rfl, Nat.le_refl _, fun _ _ => rfl⟩), (show Aside _ from fun j hj => ?_)⟩
          by_cases e : j = kk
          · rw [e]; exact hh
          · exact A.out j (by omega)
    · have hltz : ¬ (kk : Int) < (n : Int) := by omega
      have : kk = n := by omega
      subst this
      go_wp2
      go_ret
      exact ⟨_, rfl, Or.inl ⟨A.out, rfl⟩, hB.trans (BW.out.mono hB.size)⟩

def hasP (v : Int × Int) (D : Nat → Int × Int) (n : Nat) : Bool := decide (∃ j, j < n ∧ isP v D j = true)
theorem Contains_any (b off n c : Nat) (D : Nat → Int × Int) (v : Int × Int) (w : World) (hn : n ≤ 9223372036854775807) (hD : Dats w b off n D) :
    Calls Tryd.prog 62 #[.slice (some ⟨b, off, none⟩) n c, .agg #[.int .i64 v.1, .int .i64 v.2]] w
      fun e w' => e = .returned (.bool (hasP v D n)) ∧ Below w.heap.size w w' := by
  have hB : Below w.heap.size w (w.alloc (.cells #[.int .i64 v.1, .int .i64 v.2] 51)) := (Below.refl _ w).alloc (Nat.le_refl _) _
  have c0 := IndexP_any b off n c D v _ hn (hD.below hB)
  have c0 := Lib.hid c0
  clear hD
  go_enter Tryd.func62, Tryd.ntmps62
  go_wp2_with fail
  refine c0.out.mono ?_; rintro e w1 ⟨z, rfl, hz, hb⟩
  have hbel := hB.trans (hb.mono hB.size)
  clear c0 hb
  rcases hz with ⟨hz, rfl⟩ | ⟨i, hi, rfl, hq, _⟩
  · have hr : hasP v D n = false := decide_eq_false (fun ⟨j, hj, hjq⟩ => by rw [hz j hj] at hjq; cases hjq)
    go_wp2
    go_ret
    exact ⟨by first | rfl | (rw [hr]; rfl), hbel⟩
  · have hr : hasP v D n = true := decide_eq_true ⟨i, hi, hq⟩
    have h0 : ¬ (i : Int) < 0 := by omega
    clear hq
    go_wp2
    go_ret
    exact ⟨by first | rfl | (rw [hr]; rfl), hbel⟩
end Go.Proofs.YtbllolalfmgfoaaDoor
