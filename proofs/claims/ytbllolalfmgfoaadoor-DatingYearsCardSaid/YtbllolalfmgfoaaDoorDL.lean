/- The walk of DatingSound. -/
import Derived.Test.YtbllolalfmgfoaaDoorDK
namespace Go.Proofs.YtbllolalfmgfoaaDoor
open Go.RowKit Go.Shelf

theorem below_drewN (w : World) (n : Nat) : Below w.heap.size w (w.drewN n) := ⟨rfl, rfl, rfl, Nat.le_refl _, fun _ _ => rfl⟩
theorem pick_in (a b x : Int) (h : a ≤ b) : a ≤ a + x % (b - a + 1) ∧ a + x % (b - a + 1) ≤ b := by
  have h1 := Int.emod_nonneg x (show b - a + 1 ≠ 0 by omega)
  have h2 := Int.emod_lt_of_pos x (show 0 < b - a + 1 by omega)
  omega
theorem pick_nums (a b x : Int) (a0 : 0 ≤ a) (h : a ≤ b) (b1 : b ≤ 1048575) (hx : 0 ≤ x) (x1 : x < 4294967296) :
    IntKind.i64.wrap x = x ∧ IntKind.i64.wrap (b - a) = b - a ∧ IntKind.i64.wrap (b - a + 1) = b - a + 1 ∧ x.tmod (b - a + 1) = x % (b - a + 1) ∧
    IntKind.i64.wrap (x % (b - a + 1)) = x % (b - a + 1) ∧ IntKind.i64.wrap (a + x % (b - a + 1)) = a + x % (b - a + 1) ∧ ¬ b - a + 1 = 0 ∧ ((b - a + 1) == 0) = false := by
  have h1 := Int.emod_nonneg x (show b - a + 1 ≠ 0 by omega)
  have h2 := Int.emod_lt_of_pos x (show 0 < b - a + 1 by omega)
  refine ⟨IntWalk.i64_in _ ⟨by omega, by omega⟩, IntWalk.i64_in _ ⟨by omega, by omega⟩, IntWalk.i64_in _ ⟨by omega, by omega⟩, Int.tmod_eq_emod_of_nonneg hx, IntWalk.i64_in _ ⟨by omega, by omega⟩, IntWalk.i64_in _ ⟨by omega, by omega⟩, by omega, by simp; omega⟩

/-- What the two relations are, and what they say of any days of the two datings. -/
theorem sound (a b c d p q : Int) (ha : gd (a, b) = true) (hc : gd (c, d) = true) (p0 : a ≤ p) (p1 : p ≤ b) (q0 : c ≤ q) (q1 : q ≤ d) :
    (befV (a, b) (c, d) = 2 ∧ samV (a, b) (c, d) = 0 ∧ b < c ∧ p < q) ∨ (befV (a, b) (c, d) = 0 ∧ samV (a, b) (c, d) = 0 ∧ ¬ b < c ∧ d ≤ a ∧ d < a ∧ ¬ p < q ∧ ¬ p = q) ∨
    (befV (a, b) (c, d) = 0 ∧ samV (a, b) (c, d) = 2 ∧ ¬ b < c ∧ d ≤ a ∧ ¬ p < q ∧ p = q) ∨ (befV (a, b) (c, d) = 0 ∧ samV (a, b) (c, d) = 1 ∧ ¬ b < c ∧ d ≤ a ∧ a ≤ d ∧ c ≤ b ∧ ¬ p < q ∧ ¬ a = b) ∨
    (befV (a, b) (c, d) = 0 ∧ samV (a, b) (c, d) = 1 ∧ ¬ b < c ∧ d ≤ a ∧ a ≤ d ∧ c ≤ b ∧ ¬ p < q ∧ a = b ∧ ¬ c = d) ∨ (befV (a, b) (c, d) = 1 ∧ samV (a, b) (c, d) = 1 ∧ ¬ b < c ∧ ¬ d ≤ a ∧ a ≤ d ∧ c ≤ b ∧ ¬ a = b) ∨
    (befV (a, b) (c, d) = 1 ∧ samV (a, b) (c, d) = 1 ∧ ¬ b < c ∧ ¬ d ≤ a ∧ a ≤ d ∧ c ≤ b ∧ a = b ∧ ¬ c = d) := by
  have hg : (gd (a, b) && gd (c, d)) = true := by rw [ha, hc]; rfl
  by_cases h1 : b < c
  · exact Or.inl ⟨bef_2 hg h1, sam_0 hg (Or.inl h1), h1, by omega⟩
  · by_cases h2 : d ≤ a
    · by_cases h3 : d < a
      · exact Or.inr (Or.inl ⟨bef_0 hg h1 h2, sam_0 hg (Or.inr h3), h1, h2, h3, by omega, by omega⟩)
      · have h4 : ¬ ((a, b).2 < (c, d).1 ∨ (c, d).2 < (a, b).1) := by simp only; omega
        by_cases h5 : a = c ∧ b = d ∧ a = b
        · exact Or.inr (Or.inr (Or.inl ⟨bef_0 hg h1 h2, sam_2 hg h4 ⟨by rw [h5.1, h5.2.1], h5.2.2⟩, h1, h2, by omega, by omega⟩))
        · by_cases h6 : a = b
          · exact Or.inr (Or.inr (Or.inr (Or.inr (Or.inl ⟨bef_0 hg h1 h2, sam_1 hg h4 (sameE a b c d h5), h1, h2, by omega, by omega, by omega, h6, by omega⟩))))
          · exact Or.inr (Or.inr (Or.inr (Or.inl ⟨bef_0 hg h1 h2, sam_1 hg h4 (sameE a b c d h5), h1, h2, by omega, by omega, by omega, h6⟩)))
    · have h4 : ¬ ((a, b).2 < (c, d).1 ∨ (c, d).2 < (a, b).1) := by simp only; omega
      have h5 : ¬ (a = c ∧ b = d ∧ a = b) := by omega
      by_cases h6 : a = b
      · exact Or.inr (Or.inr (Or.inr (Or.inr (Or.inr (Or.inr ⟨bef_1 hg h1 h2, sam_1 hg h4 (sameE a b c d h5), h1, h2, by omega, by omega, h6, by omega⟩)))))
      · exact Or.inr (Or.inr (Or.inr (Or.inr (Or.inr (Or.inl ⟨bef_1 hg h1 h2, sam_1 hg h4 (sameE a b c d h5), h1, h2, by omega, by omega, h6⟩)))))

set_option maxRecDepth 100000 in
set_option maxHeartbeats 4000000 in
theorem DatingSound_yes (a b c d x y : Int) (w : World) (hT : Tab w) (x0 : 0 ≤ x) (x1 : x < 4294967296) (y0 : 0 ≤ y) (y1 : y < 4294967296) (ha : gd (a, b) = true) (hc : gd (c, d) = true) :
    Calls Tryd.prog 6 #[.agg #[.int .i64 a, .int .i64 b], .agg #[.int .i64 c, .int .i64 d], .int .u32 x, .int .u32 y] w fun e w' => e = .returned (.bool true) ∧ Below w.heap.size w w' := by
  have X0 := Pair.new w a b c d 23 23
  have g0 : Below w.heap.size w ((w.alloc (.cells #[.int .i64 a, .int .i64 b] 23)).alloc (.cells #[.int .i64 c, .int .i64 d] 23)) := ((Below.refl _ w).alloc (Nat.le_refl _) _).alloc (by simp) _
  have C0 := Lib.hid (awake_any _ (hT.below g0))
  have C1 := Lib.hid (fun V => Before_any a b c d V)
  have C3 := Lib.hid (fun V => Same_any a b c d V)
  have C5 := Lib.hid (fun V => Check_any a b V)
  have C6 := Lib.hid (fun V => Check_any c d V)
  rw [chk_t ha] at C5
  rw [chk_t hc] at C6
  obtain ⟨a0, a1, a2⟩ := gd_t ha
  obtain ⟨c0, c1, c2⟩ := gd_t hc
  simp only at a0 a1 a2 c0 c1 c2
  have PA := pick_in a b x a1
  have PC := pick_in c d y c1
  have SO := sound a b c d _ _ ha hc PA.1 PA.2 PC.1 PC.2
  rw [befE_yes (a := (a, b)) (b := (c, d)) (by rw [ha, hc]; rfl)] at C1 C3
  generalize befV (a, b) (c, d) = V at SO C1
  generalize samV (a, b) (c, d) = S at SO C3
  have SO := Lib.hid SO
  clear PA PC
  obtain ⟨p1, p2, p3, p4, p5, p6, p7, p8⟩ := pick_nums a b x a0 a1 a2 x0 x1
  obtain ⟨q1, q2, q3, q4, q5, q6, q7, q8⟩ := pick_nums c d y c0 c1 c2 y0 y1
  clear hT
  go_enter Tryd.func6, Tryd.ntmps6
  go_wp2_with fail
  generalize (w.alloc (.cells #[.int .i64 a, .int .i64 b] 23)).alloc (.cells #[.int .i64 c, .int .i64 d] 23) = W at X0 g0 C0 ⊢
  refine C0.out.mono ?_; rintro e w1 ⟨rfl, b1⟩
  have X1 := X0.below b1
  have g1 := g0.trans (b1.mono g0.size)
  clear X0 g0 C0 b1
  obtain ⟨k0, k1, k2, k3⟩ := X1.cells
  have X1 := Lib.hid X1
  go_wp2_with fail
  refine (C5.out _).mono ?_; rintro e w2 ⟨rfl, b2⟩
  have X2 := X1.out.below b2
  have g2 := g1.trans (b2.mono g1.size)
  clear X1 g1 C5 b2 k0 k1 k2 k3
  obtain ⟨k0, k1, k2, k3⟩ := X2.cells
  have X2 := Lib.hid X2
  go_wp2_with fail
  refine (C6.out _).mono ?_; rintro e w3 ⟨rfl, b3⟩
  have X3 := X2.out.below b3
  have g3 := g2.trans (b3.mono g2.size)
  clear X2 g2 C6 b3 k0 k1 k2 k3
  obtain ⟨k0, k1, k2, k3⟩ := X3.cells
  have X3 := Lib.hid X3
  go_wp2_with fail
  go_quiet (fail)
  go_wp2_with fail
  go_quiet (fail)
  go_wp2_with fail
  refine (C1.out _).mono ?_; rintro e w4 ⟨rfl, b4⟩
  have b4 := (below_drewN w3 _).trans (show Below w3.heap.size _ _ from b4)
  have X4 := X3.out.below b4
  have g4 := g3.trans (b4.mono g3.size)
  clear X3 g3 C1 b4 k0 k1 k2 k3 p1 p2 p3 p4 p5 p6 p7 p8 q1 q2 q3 q4 q5 q6 q7 q8
  obtain ⟨k0, k1, k2, k3⟩ := X4.cells
  have X4 := Lib.hid X4
  go_wp2_with fail
  refine (C3.out _).mono ?_; rintro e w5 ⟨rfl, b5⟩
  have X5 := X4.out.below b5
  have g5 := g4.trans (b5.mono g4.size)
  clear X4 g4 C3 b5 k0 k1 k2 k3
  obtain ⟨k0, k1, k2, k3⟩ := X5.cells
  clear X5
  generalize a + x % (b - a + 1) = p at *
  generalize c + y % (d - c + 1) = q at *
  have so := SO.out
  clear SO
  rcases so with ⟨rfl, rfl, h1, h2⟩ | ⟨rfl, rfl, h1, h2, h3, h4, h5⟩ | ⟨rfl, rfl, h1, h2, h4, rfl⟩ | ⟨rfl, rfl, h1, h2, h3, h4, h5, h6⟩ | ⟨rfl, rfl, h1, h2, h3, h4, h5, rfl, h7⟩ | ⟨rfl, rfl, h1, h2, h3, h4, h5⟩ | ⟨rfl, rfl, h1, h2, h3, h4, rfl, h6⟩
  · have e1 : (p == q) = false := by simp; omega
    go_wp2
    go_ret
    exact ⟨by first | rfl | (simp [*]; done), g5⟩
  · have e1 : (p == q) = false := by simp [h5]
    go_wp2
    go_ret
    exact ⟨by first | rfl | (simp [*]; done), g5⟩
  · have e1 : (p != p) = false := by simp
    go_wp2 <;> go_ret <;> exact ⟨by first | rfl | (simp [*]; done), g5⟩
  · have e1 : (a != b) = true := by simp [h6]
    go_wp2
    go_ret
    exact ⟨by first | rfl | (simp [*]; done), g5⟩
  · have e1 : (c != d) = true := by simp [h7]
    go_wp2
    go_ret
    exact ⟨by first | rfl | (simp [*]; done), g5⟩
  · have e1 : (a != b) = true := by simp [h5]
    go_wp2
    go_ret
    exact ⟨by first | rfl | (simp [*]; done), g5⟩
  · have e1 : (c != d) = true := by simp [h6]
    go_wp2
    go_ret
    exact ⟨by first | rfl | (simp [*]; done), g5⟩

set_option maxRecDepth 100000 in
set_option maxHeartbeats 4000000 in
theorem DatingSound_any (a b c d x y : Int) (w : World) (hT : Tab w) (x0 : 0 ≤ x) (x1 : x < 4294967296) (y0 : 0 ≤ y) (y1 : y < 4294967296) :
    Calls Tryd.prog 6 #[.agg #[.int .i64 a, .int .i64 b], .agg #[.int .i64 c, .int .i64 d], .int .u32 x, .int .u32 y] w fun e w' => e = .returned (.bool true) ∧ Below w.heap.size w w' := by
  by_cases h : gd (a, b) = true ∧ gd (c, d) = true
  · exact DatingSound_yes a b c d x y w hT x0 x1 y0 y1 h.1 h.2
  have X0 := Pair.new w a b c d 23 23
  have g0 : Below w.heap.size w ((w.alloc (.cells #[.int .i64 a, .int .i64 b] 23)).alloc (.cells #[.int .i64 c, .int .i64 d] 23)) := ((Below.refl _ w).alloc (Nat.le_refl _) _).alloc (by simp) _
  have C0 := Lib.hid (awake_any _ (hT.below g0))
  have C5 := Lib.hid (fun V => Check_any a b V)
  have C6 := Lib.hid (fun V => Check_any c d V)
  clear hT x0 x1 y0 y1
  cases ha : gd (a, b)
  · rw [chk_f ha] at C5
    clear h ha C6
    go_enter Tryd.func6, Tryd.ntmps6
    go_wp2_with fail
    generalize (w.alloc (.cells #[.int .i64 a, .int .i64 b] 23)).alloc (.cells #[.int .i64 c, .int .i64 d] 23) = W at X0 g0 C0 ⊢
    refine C0.out.mono ?_; rintro e w1 ⟨rfl, b1⟩
    have X1 := X0.below b1
    have g1 := g0.trans (b1.mono g0.size)
    clear X0 g0 C0 b1
    obtain ⟨k0, k1, k2, k3⟩ := X1.cells
    clear X1
    go_wp2_with fail
    refine (C5.out _).mono ?_; rintro e w2 ⟨rfl, b2⟩
    have g2 := g1.trans (b2.mono g1.size)
    clear g1 C5 b2 k0 k1 k2 k3
    go_wp2
    go_ret
    exact ⟨rfl, g2⟩
  · have hc : gd (c, d) = false := by
      cases hc : gd (c, d)
      · rfl
      · exact absurd ⟨ha, hc⟩ h
    rw [chk_t ha] at C5
    rw [chk_f hc] at C6
    clear h ha hc
    go_enter Tryd.func6, Tryd.ntmps6
    go_wp2_with fail
    generalize (w.alloc (.cells #[.int .i64 a, .int .i64 b] 23)).alloc (.cells #[.int .i64 c, .int .i64 d] 23) = W at X0 g0 C0 ⊢
    refine C0.out.mono ?_; rintro e w1 ⟨rfl, b1⟩
    have X1 := X0.below b1
    have g1 := g0.trans (b1.mono g0.size)
    clear X0 g0 C0 b1
    obtain ⟨k0, k1, k2, k3⟩ := X1.cells
    have X1 := Lib.hid X1
    go_wp2_with fail
    refine (C5.out _).mono ?_; rintro e w2 ⟨rfl, b2⟩
    have X2 := X1.out.below b2
    have g2 := g1.trans (b2.mono g1.size)
    clear X1 g1 C5 b2 k0 k1 k2 k3
    obtain ⟨k0, k1, k2, k3⟩ := X2.cells
    clear X2
    go_wp2_with fail
    refine (C6.out _).mono ?_; rintro e w3 ⟨rfl, b3⟩
    have g3 := g2.trans (b3.mono g2.size)
    clear g2 C6 b3 k0 k1 k2 k3
    go_wp2
    go_ret
    exact ⟨rfl, g3⟩
end Go.Proofs.YtbllolalfmgfoaaDoor
