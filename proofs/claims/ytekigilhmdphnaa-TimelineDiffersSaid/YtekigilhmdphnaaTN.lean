/- The laws' common test; the walk of TimelineLooks. -/
import Derived.Test.YtekigilhmdphnaaTM
import Derived.Laws.StructEq
namespace Go.Proofs.Ytekigilhmdphnaa
open Go.RowKit Go.Shelf

/-- '==' of two equal pieces. -/
theorem eqP (f u v : Int) (w : World) : (binOp .eql 47 (.agg #[.int .i64 f, .int .i64 u, .int .i64 v]) (.agg #[.int .i64 f, .int .i64 u, .int .i64 v])).run Try.prog w = .ok (.bool true) w := by
  have u3 := Try.underlying3
  have a3 := Try.isAgg3
  have z3 := Try.sizeOf3
  have a33 := Try.isAgg33
  have z33 := Try.sizeOf33
  have hS : Try.prog.underlying 47 = some (.struct (Try.prog.fieldsOf 47)) := by kernel_rfl
  have hp : Try.prog.stoodInHeld 47 = false := by kernel_rfl
  have hS2 : Try.prog.underlying 33 = some (.struct (Try.prog.fieldsOf 33)) := by kernel_rfl
  have hp2 : Try.prog.stoodInHeld 33 = false := by kernel_rfl
  have inner : ∀ W, (Op.equalIn (9998 + 1) 33 (.agg #[.int .i64 f, .int .i64 u]) (.agg #[.int .i64 f, .int .i64 u])).run Try.prog W = .ok true W := fun W => by
    rw [run_equalIn_agg W 9998 33 _ _ hS2 hp2]
    simp only [Program.fieldsOf, Try.underlying33]
    go_simp
  rw [run_eql_struct, show (10000 : Nat) = 9999 + 1 from rfl, run_equalIn_agg w 9999 47 _ _ hS hp]
  simp only [Program.fieldsOf, Try.underlying47]
  go_simp
theorem eqPg (f u v : Int) (op : BinOp) (x y : Operand) (w : World) : (eqGuard op 47 x y (.agg #[.int .i64 f, .int .i64 u, .int .i64 v]) (.agg #[.int .i64 f, .int .i64 u, .int .i64 v])).run Try.prog w = .ok () w :=
  run_eqGuard_agg w op _ x y _ _ (by kernel_rfl)

theorem At_ex (b : Nat) (w : World) (h : Ex w b) : Calls Try.prog 12 #[.slice (some ⟨b, 0, none⟩) 1 1, .int .i64 19] w fun e w' => e = .returned (.tuple #[.int .i64 1, .bool true]) ∧ Below w.heap.size w w' :=
  (At_is _ 1 1 _ 19 w h.isP).mono fun e w' r => ⟨AtR.same r (w2 := w) (w2' := w') ⟨Or.inl ⟨0, by decide, by decide, fun j hj => absurd hj (Nat.not_lt_zero _), rfl⟩, r.2⟩, r.2⟩
theorem dsum_ex : dsum (fun _ => ⟨10, 20, 1⟩) 1 1 = 10 := by decide
theorem Days_ex (b : Nat) (w : World) (h : Ex w b) : Calls Try.prog 18 #[.slice (some ⟨b, 0, none⟩) 1 1, .int .i64 1] w fun e w' => e = .returned (.int .i64 10) ∧ Below w.heap.size w w' := by
  have := Days_good b 0 1 1 _ 1 w (by decide) h.pcs ck_ex
  rw [dsum_ex] at this
  exact this

set_option maxRecDepth 10000 in
set_option maxHeartbeats 4000000 in
theorem awake_any (w : World) : Calls Try.prog 10 #[] w fun e w' => e = .returned (.bool true) ∧ Below w.heap.size w w' := by
  have al := (Below.refl w.heap.size w).alloc (Nat.le_refl _) (.cells #[.int .i64 10, .int .i64 20, .int .i64 1] 47)
  have E0 : Ex (w.alloc (.cells #[.int .i64 10, .int .i64 20, .int .i64 1] 47)) w.heap.size := Box3.new w ⟨10, 20, 1⟩ 47
  have E0 := Lib.hid E0
  have AL := Lib.hid al
  have q := fun W => eqP 15 25 2 W
  have qg := eqPg 15 25 2
  clear al
  go_enter Try.func10, Try.ntmps10
  go_wp2_with fail
  refine (Set_ex w.heap.size _ E0.out).mono ?_; rintro e w1 ⟨g1, c1, rfl, p1, b1⟩
  have P1 := Lib.hid p1
  have B1 := Lib.hid (AL.out.trans (b1.mono AL.out.size))
  have E1 := Lib.hid (E0.out.below b1)
  clear p1 b1 E0 AL
  go_wp2_with fail
  refine (Clear_ex w.heap.size _ E1.out).mono ?_; rintro e w2 ⟨g2, c2, rfl, p2, b2⟩
  have P1 := Lib.hid (P1.out.below b2)
  have P2 := Lib.hid p2
  have B2 := Lib.hid (B1.out.trans (b2.mono B1.out.size))
  have E2 := Lib.hid (E1.out.below b2)
  clear p2 b2 B1 E1
  go_wp2_with fail
  refine (At_ex w.heap.size _ E2.out).mono ?_; rintro e w3 ⟨rfl, b3⟩
  have P1 := Lib.hid (P1.out.below b3)
  have P2 := Lib.hid (P2.out.below b3)
  have B3 := Lib.hid (B2.out.trans (b3.mono B2.out.size))
  have E3 := Lib.hid (E2.out.below b3)
  clear b3 B2 E2
  obtain ⟨y0, y1, y2⟩ := P1.out.2 1 (by decide)
  obtain ⟨z0, z1, z2⟩ := P2.out.2 1 (by decide)
  simp only [two] at y0 y1 y2 z0 z1 z2
  have D3 := Lib.hid (Days_ex w.heap.size w3 E3.out)
  go_wp2_with fail
  refine D3.out.mono ?_; rintro e w4 ⟨rfl, b4⟩
  have B4 := Lib.hid (B3.out.trans (b4.mono B3.out.size))
  clear b4
  go_wp2_with fail
  go_ret
  exact ⟨by first | rfl | simp, B4.out⟩

/-- Is a list small enough? -/
theorem Few_any (p : Option Addr) (n c : Nat) (w : World) (hn : n ≤ 9223372036854775807) :
    Calls Try.prog 11 #[.slice p n c] w fun e w' => e = .returned (.bool (decide (n ≤ 40 ∨ 1024 < n ∧ n ≤ 1034))) ∧ w = w' := by
  by_cases a : n ≤ 40
  · have a1 : decide ((n : Int) ≤ 40) = true := by simp; omega
    have hc : decide (n ≤ 40 ∨ 1024 < n ∧ n ≤ 1034) = true := decide_eq_true (Or.inl a)
    go_enter Try.func11, Try.ntmps11
    go_wp2
    go_ret
    exact ⟨by rw [hc]; rfl, rfl⟩
  · have a1 : decide ((n : Int) ≤ 40) = false := by simp; omega
    by_cases b : 1024 < n
    · have b1 : decide ((1024 : Int) < (n : Int)) = true := by simp; omega
      by_cases d : n ≤ 1034
      · have d1 : decide ((n : Int) ≤ 1034) = true := by simp; omega
        have hc : decide (n ≤ 40 ∨ 1024 < n ∧ n ≤ 1034) = true := decide_eq_true (Or.inr ⟨b, d⟩)
        clear a
        go_enter Try.func11, Try.ntmps11
        go_wp2
        go_ret
        exact ⟨by rw [hc]; rfl, rfl⟩
      · have d1 : decide ((n : Int) ≤ 1034) = false := by simp; omega
        have hc : decide (n ≤ 40 ∨ 1024 < n ∧ n ≤ 1034) = false := decide_eq_false (by omega)
        clear a
        go_enter Try.func11, Try.ntmps11
        go_wp2
        go_ret
        exact ⟨by rw [hc]; rfl, rfl⟩
    · have b1 : decide ((1024 : Int) < (n : Int)) = false := by simp; omega
      have hc : decide (n ≤ 40 ∨ 1024 < n ∧ n ≤ 1034) = false := decide_eq_false (by omega)
      clear a
      go_enter Try.func11, Try.ntmps11
      go_wp2
      go_ret
      exact ⟨by rw [hc]; rfl, rfl⟩

set_option maxRecDepth 10000 in
set_option maxHeartbeats 4000000 in
theorem law_looks (p : Option Addr) (n c : Nat) (P : Nat → Pc) (d f v : Int) (w : World) (hP : IsP w p n c P) :
    Calls Try.prog 3 #[.slice p n c, .int .i64 d, .int .i64 f, .int .i64 v] w fun e w' => e = .returned (.bool true) ∧ Below w.heap.size w w' := by
  have FW := Lib.hid (fun V => Few_any p n c V hP.le)
  obtain ⟨x1, y1, a1, a2⟩ := ats p n c P d w hP
  obtain ⟨x2, y2, f1, f2⟩ := firsts p n c P f v w hP
  obtain ⟨x3, d1, d2⟩ := dayss p n c P v w hP
  have c1 := fun V (hV : Below w.heap.size w V) => Check_any p n c P V (hP.below hV)
  have c2 := fun V (hV : Below w.heap.size w V) => rCheck_any p n c P V (hP.below hV)
  generalize ckV P n = x4 at c1 c2
  have A1 := Lib.hid a1; have A2 := Lib.hid a2; have F1 := Lib.hid f1; have F2 := Lib.hid f2; have D1 := Lib.hid d1; have D2 := Lib.hid d2; have C1 := Lib.hid c1; have C2 := Lib.hid c2
  clear a1 a2 f1 f2 d1 d2 c1 c2 hP
  generalize decide (n ≤ 40 ∨ 1024 < n ∧ n ≤ 1034) = fw at FW
  go_enter Try.func3, Try.ntmps3
  go_wp2_with fail
  refine (awake_any w).mono ?_; rintro e w1 ⟨rfl, b1⟩
  have B1 := Lib.hid b1
  clear b1
  cases fw with
  | false =>
    go_wp2_with fail
    refine (FW.out _).mono ?_; rintro e w2 ⟨rfl, rfl⟩
    go_wp2_with fail
    go_ret
    exact ⟨rfl, B1.out⟩
  | true =>
    go_wp2_with fail
    refine (FW.out _).mono ?_; rintro e w2 ⟨rfl, rfl⟩
    go_wp2_with fail
    refine (A1.out _ B1.out).mono ?_; rintro e w2 ⟨rfl, b2⟩
    have B2 := Lib.hid (B1.out.trans (b2.mono B1.out.size))
    clear b2
    go_wp2_with fail
    refine (A2.out _ B2.out).mono ?_; rintro e w3 ⟨rfl, b3⟩
    have B3 := Lib.hid (B2.out.trans (b3.mono B2.out.size))
    clear b3
    go_wp2_with fail
    refine (F1.out _ B3.out).mono ?_; rintro e w4 ⟨rfl, b4⟩
    have B4 := Lib.hid (B3.out.trans (b4.mono B3.out.size))
    clear b4
    go_wp2_with fail
    refine (F2.out _ B4.out).mono ?_; rintro e w5 ⟨rfl, b5⟩
    have B5 := Lib.hid (B4.out.trans (b5.mono B4.out.size))
    clear b5
    go_wp2_with fail
    refine (C1.out _ B5.out).mono ?_; rintro e w6 ⟨rfl, b6⟩
    have B6 := Lib.hid (B5.out.trans (b6.mono B5.out.size))
    clear b6
    go_wp2_with fail
    refine (C2.out _ B6.out).mono ?_; rintro e w7 ⟨rfl, b7⟩
    have B7 := Lib.hid (B6.out.trans (b7.mono B6.out.size))
    clear b7
    go_wp2_with fail
    refine (D1.out _ B7.out).mono ?_; rintro e w8 ⟨rfl, b8⟩
    have B8 := Lib.hid (B7.out.trans (b8.mono B7.out.size))
    clear b8
    go_wp2_with fail
    refine (D2.out _ B8.out).mono ?_; rintro e w9 ⟨rfl, b9⟩
    have B9 := Lib.hid (B8.out.trans (b9.mono B8.out.size))
    clear b9
    go_wp2_with fail
    go_ret
    exact ⟨by first | rfl | simp, B9.out⟩
end Go.Proofs.Ytekigilhmdphnaa
