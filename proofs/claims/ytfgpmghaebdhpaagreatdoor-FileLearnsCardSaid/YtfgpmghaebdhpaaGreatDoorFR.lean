/- awake. -/
import Derived.Test.YtfgpmghaebdhpaaGreatDoorFQ
namespace Go.Proofs.YtfgpmghaebdhpaaGreatDoor
open Go.RowKit Go.Maps Go.Shelf

theorem trg1 (p : Option Addr) : dv (trg (exF p) bA 41) = .tuple #[.agg #[.int .i64 20, .int .i64 25], .bool true] := by kernel_rfl
theorem trg2 (p : Option Addr) : dv (trg (exF p) ⟨#[99, 108, 111, 115, 101, 100]⟩ 30) = .tuple #[.agg #[.int .i64 30, .int .i64 30], .bool true] := by kernel_rfl
theorem trg3 (p : Option Addr) : dv (trg (exF p) ⟨#[99, 108, 111, 115, 101, 100]⟩ 29) = .tuple #[.agg #[.int .i64 0, .int .i64 0], .bool false] := by kernel_rfl
theorem kn1 : [n1, n2].filter (fun n => decide (n.r ≤ 26)) = [n1] := by kernel_rfl
theorem st1 (p : Option Addr) : stZ (exF p) 5 = 1 := by kernel_rfl
/-- The example's box. -/
structure Fbx (w : World) (B : Nat) (p : Option Addr) : Prop where
  lt : B < w.heap.size
  c : w.cell? ⟨B, 0, none⟩ = some (.int .i64 1) ∧ w.cell? ⟨B, 1, none⟩ = some (.int .i64 1) ∧ w.cell? ⟨B, 2, none⟩ = some (.int .i64 5) ∧ w.cell? ⟨B, 3, none⟩ = some (.int .i64 30) ∧ w.cell? ⟨B, 4, none⟩ = some (.string ⟨#[49]⟩) ∧ w.cell? ⟨B, 5, none⟩ = some (.string ⟨#[84]⟩) ∧ w.cell? ⟨B, 6, none⟩ = some (.int .i64 0) ∧ w.cell? ⟨B, 7, none⟩ = some (.slice p 2 2)
theorem Fbx.below {w w' : World} {B : Nat} {p : Option Addr} (h : Fbx w B p) (hb : Below w.heap.size w w') : Fbx w' B p :=
  ⟨Nat.lt_of_lt_of_le h.lt hb.size, (hb.cell (p := ⟨B, 0, none⟩) h.lt).trans h.c.1, (hb.cell (p := ⟨B, 1, none⟩) h.lt).trans h.c.2.1, (hb.cell (p := ⟨B, 2, none⟩) h.lt).trans h.c.2.2.1, (hb.cell (p := ⟨B, 3, none⟩) h.lt).trans h.c.2.2.2.1, (hb.cell (p := ⟨B, 4, none⟩) h.lt).trans h.c.2.2.2.2.1, (hb.cell (p := ⟨B, 5, none⟩) h.lt).trans h.c.2.2.2.2.2.1, (hb.cell (p := ⟨B, 6, none⟩) h.lt).trans h.c.2.2.2.2.2.2.1, (hb.cell (p := ⟨B, 7, none⟩) h.lt).trans h.c.2.2.2.2.2.2.2⟩
theorem isCl_ex (w : World) : IsCl (w.alloc (.cells #[.string ⟨#[49]⟩, .string ⟨#[84]⟩] 50)) (.slice (some ⟨w.heap.size, 0, none⟩) 1 1) [cEx] := by
  have C := nCell w #[.string ⟨#[49]⟩, .string ⟨#[84]⟩] 50
  have lt := nLt (C 0)
  refine ⟨_, 1, rfl, Nat.le_refl _, fun _ => ⟨_, _, rfl, fun j x hj => ?_⟩⟩
  match j, hj with
  | 0, hj => cases hj; exact ⟨lt, C 0, C 1⟩
theorem p1_ex (w : World) : P1 ((w.alloc (.cells #[.string ⟨#[49]⟩, .string ⟨#[84]⟩] 50)).alloc (.cells #[.int .i64 1, .int .i64 0, .int .i64 50, .slice (some ⟨w.heap.size, 0, none⟩) 1 1, .slice none 0 0] 54)) (w.heap.size + 1) (some ⟨w.heap.size, 0, none⟩) := by
  have I := isCl_ex w
  have s1 : (w.alloc (.cells #[.string ⟨#[49]⟩, .string ⟨#[84]⟩] 50)).heap.size = w.heap.size + 1 := by simp
  generalize w.alloc (.cells #[.string ⟨#[49]⟩, .string ⟨#[84]⟩] 50) = v at I s1
  have C := nCell v #[.int .i64 1, .int .i64 0, .int .i64 50, .slice (some ⟨w.heap.size, 0, none⟩) 1 1, .slice none 0 0] 54
  rw [s1] at C
  exact ⟨nLt (C 0), C 0, C 1, C 2, C 3, C 4, I.below ((Below.refl _ v).alloc (Nat.le_refl _) _)⟩
set_option maxRecDepth 100000 in
set_option maxHeartbeats 16000000 in
theorem awake_any (w : World) (hw : Lw w) : Calls Tryz.prog 6 #[] w fun e w' => e = .returned (.bool true) ∧ Below w.heap.size w w' := by
  have HL := Lib.hid (fun V (hV : Below w.heap.size w V) => hw.below hV hw.n0)
  have EX := Lib.hid (example_any w)
  replace EX : Hid (Calls Tryz.prog 18 #[] w fun e w' => ∃ p, e = .returned (.agg #[.int .i64 1, .int .i64 1, .int .i64 5, .int .i64 30, .string ⟨#[49]⟩, .string ⟨#[84]⟩, .int .i64 0, .slice p 2 2]) ∧ IsNt w' (.slice p 2 2) [n1, n2] ∧ Below w.heap.size w w') := EX
  clear hw
  go_enter Tryz.func6, Tryz.ntmps6
  go_wp2_with fail
  refine EX.out.mono ?_
  rintro e w1 ⟨p, rfl, iv, b1⟩
  have B1 := Lib.hid b1
  have X2 := nCell w1 #[.int .i64 1, .int .i64 1, .int .i64 5, .int .i64 30, .string ⟨#[49]⟩, .string ⟨#[84]⟩, .int .i64 0, .slice p 2 2] 24
  have A2 := (Below.refl w1.heap.size w1).alloc (Nat.le_refl _) (.cells #[.int .i64 1, .int .i64 1, .int .i64 5, .int .i64 30, .string ⟨#[49]⟩, .string ⟨#[84]⟩, .int .i64 0, .slice p 2 2] 24)
  obtain ⟨w2, hw2⟩ : ∃ w2, w2 = w1.alloc (.cells #[.int .i64 1, .int .i64 1, .int .i64 5, .int .i64 30, .string ⟨#[49]⟩, .string ⟨#[84]⟩, .int .i64 0, .slice p 2 2] 24) := ⟨_, rfl⟩
  rw [← hw2] at X2 A2
  have FB := Lib.hid (show Fbx w2 w1.heap.size p from ⟨nLt (X2 0), X2 0, X2 1, X2 2, X2 3, X2 4, X2 5, X2 6, X2 7⟩)
  have IV := Lib.hid (iv.below A2)
  have B2 := Lib.hid (B1.out.trans (A2.mono B1.out.size))
  have HW2 := Lib.hid hw2
  have T1 := Lib.hid (Trigger_any (exF p) bA 41 w2 IV.out (by simp [exF]))
  rw [trg1] at T1
  replace T1 : Hid (Calls Tryz.prog 8 #[.agg #[.int .i64 1, .int .i64 1, .int .i64 5, .int .i64 30, .string ⟨#[49]⟩, .string ⟨#[84]⟩, .int .i64 0, .slice p 2 2], .string ⟨#[97, 117, 100, 105, 116, 101, 100]⟩, .int .i64 41] w2 fun e w' => e = .returned (.tuple #[.agg #[.int .i64 20, .int .i64 25], .bool true]) ∧ Below w2.heap.size w2 w') := T1
  clear b1 EX iv hw2 X2 A2
  go_upto_region 2 with (fail)
  have hw2 := HW2.out
  rw [← hw2]
  clear hw2 HW2
  obtain ⟨x0, x1, x2, x3, x4, x5, x6, x7⟩ := FB.out.c
  go_wp2_with fail
  refine T1.out.mono ?_
  rintro e w3 ⟨rfl, b3⟩
  clear x0 x1 x2 x3 x4 x5 x6 x7 T1
  have D4 := Bx2.new w3 20 25
  have A4 := (Below.refl w3.heap.size w3).alloc (Nat.le_refl _) (.cells #[.int .i64 20, .int .i64 25] 29)
  obtain ⟨w4, hw4⟩ : ∃ w4, w4 = w3.alloc (.cells #[.int .i64 20, .int .i64 25] 29) := ⟨_, rfl⟩
  rw [← hw4] at D4 A4
  have C4 := Lib.hid (b3.trans (A4.mono b3.size))
  have D4 := Lib.hid D4
  have T2 := Lib.hid (Trigger_any (exF p) ⟨#[99, 108, 111, 115, 101, 100]⟩ 30 w4 (IV.out.below C4.out) (by simp [exF]))
  rw [trg2] at T2
  replace T2 : Hid (Calls Tryz.prog 8 #[.agg #[.int .i64 1, .int .i64 1, .int .i64 5, .int .i64 30, .string ⟨#[49]⟩, .string ⟨#[84]⟩, .int .i64 0, .slice p 2 2], .string ⟨#[99, 108, 111, 115, 101, 100]⟩, .int .i64 30] w4 fun e w' => e = .returned (.tuple #[.agg #[.int .i64 30, .int .i64 30], .bool true]) ∧ Below w4.heap.size w4 w') := T2
  have HW4 := Lib.hid hw4
  clear b3 A4 hw4
  go_upto_region 3 with (fail)
  have hw4 := HW4.out
  rw [← hw4]
  clear hw4 HW4
  obtain ⟨x0, x1, x2, x3, x4, x5, x6, x7⟩ := (FB.out.below C4.out).c
  go_wp2_with fail
  refine T2.out.mono ?_
  rintro e w5 ⟨rfl, b5⟩
  clear x0 x1 x2 x3 x4 x5 x6 x7 T2
  have D6 := Bx2.new w5 30 30
  have A6 := (Below.refl w5.heap.size w5).alloc (Nat.le_refl _) (.cells #[.int .i64 30, .int .i64 30] 29)
  obtain ⟨w6, hw6⟩ : ∃ w6, w6 = w5.alloc (.cells #[.int .i64 30, .int .i64 30] 29) := ⟨_, rfl⟩
  rw [← hw6] at D6 A6
  have E6 := Lib.hid (b5.trans (A6.mono b5.size))
  have C6 := Lib.hid (C4.out.trans (E6.out.mono C4.out.size))
  have D6 := Lib.hid D6
  have T3 := Lib.hid (Trigger_any (exF p) ⟨#[99, 108, 111, 115, 101, 100]⟩ 29 w6 (IV.out.below C6.out) (by simp [exF]))
  rw [trg3] at T3
  replace T3 : Hid (Calls Tryz.prog 8 #[.agg #[.int .i64 1, .int .i64 1, .int .i64 5, .int .i64 30, .string ⟨#[49]⟩, .string ⟨#[84]⟩, .int .i64 0, .slice p 2 2], .string ⟨#[99, 108, 111, 115, 101, 100]⟩, .int .i64 29] w6 fun e w' => e = .returned (.tuple #[.agg #[.int .i64 0, .int .i64 0], .bool false]) ∧ Below w6.heap.size w6 w') := T3
  have HW6 := Lib.hid hw6
  clear b5 A6 hw6
  go_upto_region 4 with (fail)
  have hw6 := HW6.out
  rw [← hw6]
  clear hw6 HW6
  obtain ⟨x0, x1, x2, x3, x4, x5, x6, x7⟩ := (FB.out.below C6.out).c
  go_wp2_with fail
  refine T3.out.mono ?_
  rintro e w7 ⟨rfl, b7⟩
  clear x0 x1 x2 x3 x4 x5 x6 x7 T3
  have A8 := (Below.refl w7.heap.size w7).alloc (Nat.le_refl _) (.cells #[.int .i64 0, .int .i64 0] 29)
  obtain ⟨w8, hw8⟩ : ∃ w8, w8 = w7.alloc (.cells #[.int .i64 0, .int .i64 0] 29) := ⟨_, rfl⟩
  rw [← hw8] at A8
  have E8 := Lib.hid (b7.trans (A8.mono b7.size))
  have PX := Lib.hid (p1_ex w8)
  have A9 := ((Below.refl w8.heap.size w8).alloc (Nat.le_refl _) (.cells #[.string ⟨#[49]⟩, .string ⟨#[84]⟩] 50)).alloc (by simp) (.cells #[.int .i64 1, .int .i64 0, .int .i64 50, .slice (some ⟨w8.heap.size, 0, none⟩) 1 1, .slice none 0 0] 54)
  have E9 := Lib.hid (E8.out.trans (A9.mono E8.out.size))
  have C9 := Lib.hid (C6.out.trans (E9.out.mono C6.out.size))
  have B9 := Lib.hid (B2.out.trans (C9.out.mono B2.out.size))
  have KL := Lib.hid (Class_ex (w8.heap.size + 1) _ (.slice p 2 2) p 2 2 _ (HL.out _ B9.out) PX.out rfl)
  have HW8 := Lib.hid hw8
  clear b7 A8 hw8 A9
  go_upto_region 5 with (fail)
  have hw8 := HW8.out
  rw [← hw8]
  clear hw8 HW8
  obtain ⟨x0, x1, x2, x3, x4, x5, x6, x7⟩ := (FB.out.below C9.out).c
  go_wp2_with fail
  refine KL.out.mono ?_
  rintro e w10 ⟨rfl, b10⟩
  clear x0 x1 x2 x3 x4 x5 x6 x7 KL
  have C10 := Lib.hid (C9.out.trans (b10.mono C9.out.size))
  have B10 := Lib.hid (B2.out.trans (C10.out.mono B2.out.size))
  have D410 := (D4.out.below E6.out).below (E9.out.trans (b10.mono E9.out.size))
  have D610 := D6.out.below (E9.out.trans (b10.mono E9.out.size))
  have y0 := D410.c0
  have y1 := D410.c1
  have z0 := D610.c0
  have z1 := D610.c1
  have KN := Lib.hid (Known_any (exF p) 26 w10 (IV.out.below C10.out) (by simp [exF]))
  replace KN : Hid (Calls Tryz.prog 11 #[.agg #[.int .i64 1, .int .i64 1, .int .i64 5, .int .i64 30, .string ⟨#[49]⟩, .string ⟨#[84]⟩, .int .i64 0, .slice p 2 2], .int .i64 26] w10 fun e w' => ∃ u, e = .returned u ∧ IsNt w' u ([n1, n2].filter fun n => decide (n.r ≤ 26)) ∧ Below w10.heap.size w10 w') := KN
  rw [kn1] at KN
  obtain ⟨x0, x1, x2, x3, x4, x5, x6, x7⟩ := (FB.out.below C10.out).c
  clear b10 D410 D610
  go_wp2_with fail
  refine KN.out.mono ?_
  rintro e w11 ⟨u, rfl, hu, b11⟩
  obtain ⟨pu, cu, rfl, -, -⟩ := hu
  have C11 := Lib.hid (C10.out.trans (b11.mono C10.out.size))
  have B11 := Lib.hid (B10.out.trans (b11.mono B10.out.size))
  have ST := Lib.hid (State_any (exF p) 5 w11)
  rw [st1] at ST
  replace ST : Hid (Calls Tryz.prog 13 #[.agg #[.int .i64 1, .int .i64 1, .int .i64 5, .int .i64 30, .string ⟨#[49]⟩, .string ⟨#[84]⟩, .int .i64 0, .slice p 2 2], .int .i64 5] w11 fun e w' => e = .returned (.int .i64 1) ∧ Below w11.heap.size w11 w') := ST
  clear x0 x1 x2 x3 x4 x5 x6 x7 KN b11 y0 y1 z0 z1
  obtain ⟨x0, x1, x2, x3, x4, x5, x6, x7⟩ := (FB.out.below C11.out).c
  go_wp2_with fail
  refine ST.out.mono ?_
  rintro e w12 ⟨rfl, b12⟩
  have B12 := Lib.hid (B11.out.trans (b12.mono B11.out.size))
  clear x0 x1 x2 x3 x4 x5 x6 x7 ST b12
  go_wp2_with fail
  go_ret
  exact ⟨rfl, B12.out⟩
end Go.Proofs.YtfgpmghaebdhpaaGreatDoor
