/- cmp.Compare, cmp.Or; which of two notes ends later; the latest note. -/
import Derived.Test.YtfgpmghaebdhpaaGreatDoorFC
namespace Go.Proofs.YtfgpmghaebdhpaaGreatDoor
open Go.RowKit Go.Shelf

set_option maxHeartbeats 1000000 in
theorem cmpC_any (a b : Int) (w : World) : Calls Tryz.prog 26 #[.int .i64 a, .int .i64 b] w fun e w' => e = .returned (.int .i64 (cmpZ a b)) ∧ w' = w := by
  have N1 := Lib.hid (isNaN_any a w)
  have N2 := Lib.hid (isNaN_any b w)
  by_cases h : a < b
  · have R := Lib.hid (show cmpZ a b = -1 from if_pos h)
    go_enter Tryz.func26, Tryz.ntmps26
    go_wp2_with fail
    refine N1.out.mono ?_; rintro e w1 ⟨rfl, rfl⟩
    go_wp2_with fail
    refine N2.out.mono ?_; rintro e w1 ⟨rfl, rfl⟩
    go_wp2_with fail
    go_ret
    exact ⟨by rw [R.out]; rfl, rfl⟩
  · by_cases g : b < a
    · have R := Lib.hid (show cmpZ a b = 1 by unfold cmpZ; rw [if_neg h, if_pos g])
      go_enter Tryz.func26, Tryz.ntmps26
      go_wp2_with fail
      refine N1.out.mono ?_; rintro e w1 ⟨rfl, rfl⟩
      go_wp2_with fail
      refine N2.out.mono ?_; rintro e w1 ⟨rfl, rfl⟩
      go_wp2_with fail
      go_ret
      exact ⟨by rw [R.out]; rfl, rfl⟩
    · have R := Lib.hid (show cmpZ a b = 0 by unfold cmpZ; rw [if_neg h, if_neg g])
      go_enter Tryz.func26, Tryz.ntmps26
      go_wp2_with fail
      refine N1.out.mono ?_; rintro e w1 ⟨rfl, rfl⟩
      go_wp2_with fail
      refine N2.out.mono ?_; rintro e w1 ⟨rfl, rfl⟩
      go_wp2_with fail
      go_ret
      exact ⟨by rw [R.out]; rfl, rfl⟩
def orZ (a b : Int) : Int := if a = 0 then b else a
set_option maxHeartbeats 1000000 in
theorem orC_any (a b : Int) (g : Nat) (w : World) (ha : w.cell? ⟨g, 0, none⟩ = some (.int .i64 a)) (hb : w.cell? ⟨g, 1, none⟩ = some (.int .i64 b)) :
    Calls Tryz.prog 25 #[.slice (some ⟨g, 0, none⟩) 2 2] w fun e w' => e = .returned (.int .i64 (orZ a b)) ∧ w' = w := by
  have HB := Lib.hid hb
  have HA := Lib.hid ha
  clear ha hb
  go_enter Tryz.func25, Tryz.ntmps25
  go_wp2_with fail
  go_loop [8] (fun i => (i = .int .i64 0) ∨ (i = .int .i64 1 ∧ Hid (a = 0)) ∨ (i = .int .i64 2 ∧ Hid (a = 0 ∧ b = 0))) (fun i => 2 - (intOf i).toNat)
  case atStart => exact Or.inl rfl
  case round =>
    rcases hrel with rfl | ⟨rfl, h⟩ | ⟨rfl, h⟩
    · have ha := HA.out
      by_cases e : a = 0
      · have D : (a != 0) = false := by simpa using e
        have E := Lib.hid e
        clear e
        go_wp2
        go_round
        case rel => exact Or.inr (Or.inl ⟨by go_num, E⟩)
        case measure => simp [intOf]
      · have D : (a != 0) = true := by simpa using e
        have R := Lib.hid (show orZ a b = a from if_neg e)
        clear e
        go_wp2
        go_ret
        exact ⟨by rw [R.out]; rfl, rfl⟩
    · have hb := HB.out
      by_cases e : b = 0
      · have D : (b != 0) = false := by simpa using e
        have E := Lib.hid (show a = 0 ∧ b = 0 from ⟨h.out, e⟩)
        clear e
        go_wp2
        go_round
        case rel => exact Or.inr (Or.inr ⟨by go_num, E⟩)
        case measure => simp [intOf]
      · have D : (b != 0) = true := by simpa using e
        have R := Lib.hid (show orZ a b = b from if_pos h.out)
        clear e
        go_wp2
        go_ret
        exact ⟨by rw [R.out]; rfl, rfl⟩
    · have R := Lib.hid (show orZ a b = 0 by unfold orZ; rw [if_pos h.out.1]; exact h.out.2)
      go_wp2
      go_ret
      exact ⟨by rw [R.out]; rfl, rfl⟩
theorem orNew (a b : Int) (w : World) : Calls Tryz.prog 25 #[.slice (some ⟨w.heap.size, 0, none⟩) 2 2] (w.alloc (.cells #[.int .i64 a, .int .i64 b] 3)) fun e w' => e = .returned (.int .i64 (orZ a b)) ∧ w' = w.alloc (.cells #[.int .i64 a, .int .i64 b] 3) :=
  orC_any a b w.heap.size _ (nCell w _ _ 0) (nCell w _ _ 1)
/-- How two notes compare by their last days, and then by their first ones. -/
def lateZ (x y : Nt) : Int := orZ (cmpZ x.l y.l) (cmpZ x.f y.f)
abbrev Sq (w : World) (n m : Nat) (fx lx fy ly : Int) (W : World) : Prop :=
  W.cell? ⟨n, 1, none⟩ = some (.int .i64 fx) ∧ W.cell? ⟨n, 2, none⟩ = some (.int .i64 lx) ∧ W.cell? ⟨m, 1, none⟩ = some (.int .i64 fy) ∧ W.cell? ⟨m, 2, none⟩ = some (.int .i64 ly) ∧ (n < W.heap.size ∧ m < W.heap.size ∧ Below w.heap.size w W)
theorem Sq.al {w : World} {n m : Nat} {fx lx fy ly : Int} {W : World} (h : Sq w n m fx lx fy ly W) (o : Obj) : Sq w n m fx lx fy ly (W.alloc o) := by
  obtain ⟨a, b, c, d, e, f, g⟩ := h
  have B := (Below.refl W.heap.size W).alloc (Nat.le_refl _) o
  exact ⟨(B.cell (p := ⟨n, 1, none⟩) e).trans a, (B.cell (p := ⟨n, 2, none⟩) e).trans b, (B.cell (p := ⟨m, 1, none⟩) f).trans c, (B.cell (p := ⟨m, 2, none⟩) f).trans d, Nat.lt_of_lt_of_le e B.size, Nat.lt_of_lt_of_le f B.size, g.alloc g.size o⟩
theorem Sq.drew {w : World} {n m : Nat} {fx lx fy ly : Int} {W : World} (h : Sq w n m fx lx fy ly W) : Sq w n m fx lx fy ly W.drew := by
  obtain ⟨a, b, c, d, e, f, g⟩ := h
  exact ⟨a, b, c, d, e, f, g.drew⟩
theorem Sq.same {w : World} {n m : Nat} {fx lx fy ly : Int} {W : World} {f : FuncId} {args : Array Value} {v : Value} (hS : Sq w n m fx lx fy ly W)
    (h : Calls Tryz.prog f args W fun e w' => e = .returned v ∧ w' = W) : Calls Tryz.prog f args W fun e w' => e = .returned v ∧ Sq w n m fx lx fy ly w' :=
  h.mono fun _ _ ⟨he, hb⟩ => ⟨he, by rw [hb]; exact hS⟩
set_option maxRecDepth 100000 in
set_option maxHeartbeats 4000000 in
theorem late_any (x y : Nt) (w : World) :
    Calls Tryz.prog 24 #[x.val, y.val] w fun e w' => e = .returned (.int .i64 (lateZ x y)) ∧ Below w.heap.size w w' := by
  obtain ⟨nx, fx, lx, rx⟩ := x
  obtain ⟨ny, fy, ly, ry⟩ := y
  have B1 := (Below.refl w.heap.size w).alloc (Nat.le_refl _) (.cells #[.string nx, .int .i64 fx, .int .i64 lx, .int .i64 rx] 39)
  have X1 := Bx4.new w ⟨nx, fx, lx, rx⟩
  have s1 : (w.alloc (.cells #[.string nx, .int .i64 fx, .int .i64 lx, .int .i64 rx] 39)).heap.size = w.heap.size + 1 := by simp
  have X2 := Bx4.new (w.alloc (.cells #[.string nx, .int .i64 fx, .int .i64 lx, .int .i64 rx] 39)) ⟨ny, fy, ly, ry⟩
  have A2 := (Below.refl (w.alloc (.cells #[.string nx, .int .i64 fx, .int .i64 lx, .int .i64 rx] 39)).heap.size (w.alloc (.cells #[.string nx, .int .i64 fx, .int .i64 lx, .int .i64 rx] 39))).alloc (Nat.le_refl _) (.cells #[.string ny, .int .i64 fy, .int .i64 ly, .int .i64 ry] 39)
  have hS0 : Sq w w.heap.size (w.heap.size + 1) fx lx fy ly ((w.alloc (.cells #[.string nx, .int .i64 fx, .int .i64 lx, .int .i64 rx] 39)).alloc (.cells #[.string ny, .int .i64 fy, .int .i64 ly, .int .i64 ry] 39)) := by
    rw [← s1]
    exact ⟨(X1.below A2).c1, (X1.below A2).c2, X2.c1, X2.c2, (X1.below A2).lt, X2.lt, B1.trans (A2.mono B1.size)⟩
  have E : lateZ ⟨nx, fx, lx, rx⟩ ⟨ny, fy, ly, ry⟩ = orZ (cmpZ lx ly) (cmpZ fx fy) := rfl
  rw [E]
  show Calls Tryz.prog 24 #[.agg #[.string nx, .int .i64 fx, .int .i64 lx, .int .i64 rx], .agg #[.string ny, .int .i64 fy, .int .i64 ly, .int .i64 ry]] w _
  have HS0 := Lib.hid hS0
  clear B1 X1 X2 A2 E hS0 s1
  go_enter Tryz.func24, Tryz.ntmps24
  go_wp2_with fail
  have hS0 := HS0.out.drew
  go_region_held3 (fun W => W.cell? ⟨w.heap.size, 1, none⟩ = some (.int .i64 fx) ∧ W.cell? ⟨w.heap.size, 2, none⟩ = some (.int .i64 lx) ∧ W.cell? ⟨w.heap.size + 1, 1, none⟩ = some (.int .i64 fy) ∧ W.cell? ⟨w.heap.size + 1, 2, none⟩ = some (.int .i64 ly) ∧ (w.heap.size < W.heap.size ∧ w.heap.size + 1 < W.heap.size ∧ Below w.heap.size w W))
    (first | assumption | exact hS0 | exact Sq.al (by assumption) _)
    (first | (go_at_call 26; refine (Sq.same (by assumption) (cmpC_any _ _ _)).mono ?_; rintro e w6 ⟨rfl, hS6⟩) | (go_at_call 25; refine (Sq.same (by assumption) (orNew _ _ _)).mono ?_; rintro e w7 ⟨rfl, hS7⟩))
  go_wp2
  go_ret
  exact ⟨rfl, hS7.2.2.2.2.2.2⟩
end Go.Proofs.YtfgpmghaebdhpaaGreatDoor
