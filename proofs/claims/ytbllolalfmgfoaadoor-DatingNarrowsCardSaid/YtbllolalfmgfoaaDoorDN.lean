/- The walk of DatingNarrows. -/
import Derived.Test.YtbllolalfmgfoaaDoorDM
namespace Go.Proofs.YtbllolalfmgfoaaDoor
open Go.RowKit Go.Shelf

/-- A dating within another one keeps its certain and impossible relations. -/
theorem narrows (a b x c : Int × Int) (ha : gd a = true) (hx : gd x = true) (hc : gd c = true) (h1 : a.1 ≤ x.1) (h2 : x.2 ≤ a.2) (_hb : b = c) :
    (befV a c = 1 ∨ (¬ befV a c = 1 ∧ befV x c = befV a c)) ∧ (befV c a = 1 ∨ (¬ befV c a = 1 ∧ befV c x = befV c a)) ∧ (samV a c = 1 ∨ (¬ samV a c = 1 ∧ samV x c = samV a c)) := by
  obtain ⟨a0, a1, a2⟩ := gd_t ha
  obtain ⟨x0, x1, x2⟩ := gd_t hx
  obtain ⟨c0, c1, c2⟩ := gd_t hc
  have k1 : (gd a && gd c) = true := by rw [ha, hc]; rfl
  have k2 : (gd x && gd c) = true := by rw [hx, hc]; rfl
  have k3 : (gd c && gd a) = true := by rw [ha, hc]; rfl
  have k4 : (gd c && gd x) = true := by rw [hx, hc]; rfl
  refine ⟨?_, ?_, ?_⟩
  · by_cases p : a.2 < c.1
    · right; rw [bef_2 k1 p, bef_2 k2 (by omega)]; exact ⟨by omega, rfl⟩
    · by_cases q : c.2 ≤ a.1
      · right; rw [bef_0 k1 p q, bef_0 k2 (by omega) (by omega)]; exact ⟨by omega, rfl⟩
      · left; exact bef_1 k1 p q
  · by_cases p : c.2 < a.1
    · right; rw [bef_2 k3 p, bef_2 k4 (by omega)]; exact ⟨by omega, rfl⟩
    · by_cases q : a.2 ≤ c.1
      · right; rw [bef_0 k3 p q, bef_0 k4 (by omega) (by omega)]; exact ⟨by omega, rfl⟩
      · left; exact bef_1 k3 p q
  · by_cases p : a.2 < c.1 ∨ c.2 < a.1
    · right; rw [sam_0 k1 p, sam_0 k2 (by omega)]; exact ⟨by omega, rfl⟩
    · by_cases q : a = c ∧ a.1 = a.2
      · right
        have e1 : x.1 = c.1 := by rw [← q.1]; omega
        have e2 : x.2 = c.2 := by rw [← q.1]; omega
        rw [sam_2 k1 p q, sam_2 k2 (by omega) ⟨Prod.ext e1 e2, by rw [e1, e2, ← q.1]; exact q.2⟩]; exact ⟨by omega, rfl⟩
      · left; exact sam_1 k1 p q

/-- Three boxes of datings. -/
theorem Tri.new (w : World) (a b c d f l : Int) (t u v : TypeId) :
    Pair (((w.alloc (.cells #[.int .i64 a, .int .i64 b] t)).alloc (.cells #[.int .i64 c, .int .i64 d] u)).alloc (.cells #[.int .i64 f, .int .i64 l] v)) w.heap.size a b c d ∧
    Box2 (((w.alloc (.cells #[.int .i64 a, .int .i64 b] t)).alloc (.cells #[.int .i64 c, .int .i64 d] u)).alloc (.cells #[.int .i64 f, .int .i64 l] v)) (w.heap.size + 1 + 1) (.int .i64 f) (.int .i64 l) ∧
    Below w.heap.size w (((w.alloc (.cells #[.int .i64 a, .int .i64 b] t)).alloc (.cells #[.int .i64 c, .int .i64 d] u)).alloc (.cells #[.int .i64 f, .int .i64 l] v)) := by
  have X := Pair.new w a b c d t u
  have g : Below w.heap.size w ((w.alloc (.cells #[.int .i64 a, .int .i64 b] t)).alloc (.cells #[.int .i64 c, .int .i64 d] u)) := ((Below.refl _ w).alloc (Nat.le_refl _) _).alloc (by simp) _
  have s : ((w.alloc (.cells #[.int .i64 a, .int .i64 b] t)).alloc (.cells #[.int .i64 c, .int .i64 d] u)).heap.size = w.heap.size + 1 + 1 := by simp
  generalize (w.alloc (.cells #[.int .i64 a, .int .i64 b] t)).alloc (.cells #[.int .i64 c, .int .i64 d] u) = W at X g s
  have N := Box2.new W (.int .i64 f) (.int .i64 l) v
  rw [s] at N
  exact ⟨X.below ((Below.refl _ W).alloc (Nat.le_refl _) _), N, g.alloc g.size _⟩

set_option maxRecDepth 100000 in
set_option maxHeartbeats 8000000 in
theorem DatingNarrows_any (a b c d f l : Int) (w : World) (hT : Tab w) :
    Calls Tryd.prog 7 #[.agg #[.int .i64 a, .int .i64 b], .agg #[.int .i64 c, .int .i64 d], .agg #[.int .i64 f, .int .i64 l]] w fun e w' => e = .returned (.bool true) ∧ Below w.heap.size w w' := by
  obtain ⟨X0, Y0, g0⟩ := Tri.new w a b c d f l 23 23 23
  have C0 := Lib.hid (awake_any _ (hT.below g0))
  have CM := Lib.hid (fun V => Meet_any a b f l V)
  have CK := Lib.hid (fun V => Check_any c d V)
  clear hT
  cases hm : mtB a b f l
  · rw [(mt_f hm).1, (mt_f hm).2, hm] at CM
    clear hm CK
    go_enter Tryd.func7, Tryd.ntmps7
    go_wp2_with fail
    generalize ((w.alloc (.cells #[.int .i64 a, .int .i64 b] 23)).alloc (.cells #[.int .i64 c, .int .i64 d] 23)).alloc (.cells #[.int .i64 f, .int .i64 l] 23) = W at X0 Y0 g0 C0 ⊢
    refine C0.out.mono ?_; rintro e w1 ⟨rfl, b1⟩
    have X1 := X0.below b1
    have Y1 := Y0.below b1
    have g1 := g0.trans (b1.mono g0.size)
    clear X0 g0 C0 b1 Y0
    obtain ⟨k0, k1, k2, k3⟩ := X1.cells
    obtain ⟨_, k4, k5, _⟩ := Y1
    have X1 := Lib.hid X1
    go_wp2_with fail
    refine (CM.out _).mono ?_; rintro e w2 ⟨rfl, b2⟩
    have X2 := X1.out.below b2
    have g2 := g1.trans (b2.mono g1.size)
    clear X1 g1 CM b2 k0 k1 k2 k3 k4 k5
    go_wp2
    go_ret
    exact ⟨rfl, g2.alloc g2.size _⟩
  · rw [(mt_t hm).1, (mt_t hm).2, hm] at CM
    cases hk : gd (c, d)
    · rw [chk_f hk] at CK
      clear hm hk
      go_enter Tryd.func7, Tryd.ntmps7
      go_wp2_with fail
      generalize ((w.alloc (.cells #[.int .i64 a, .int .i64 b] 23)).alloc (.cells #[.int .i64 c, .int .i64 d] 23)).alloc (.cells #[.int .i64 f, .int .i64 l] 23) = W at X0 Y0 g0 C0 ⊢
      refine C0.out.mono ?_; rintro e w1 ⟨rfl, b1⟩
      have X1 := X0.below b1
      have Y1 := Y0.below b1
      have g1 := g0.trans (b1.mono g0.size)
      clear X0 g0 C0 b1 Y0
      obtain ⟨k0, k1, k2, k3⟩ := X1.cells
      obtain ⟨_, k4, k5, _⟩ := Y1
      have X1 := Lib.hid X1
      go_wp2_with fail
      refine (CM.out _).mono ?_; rintro e w2 ⟨rfl, b2⟩
      have X2 := X1.out.below b2
      have g2 := g1.trans (b2.mono g1.size)
      clear X1 g1 CM b2 k0 k1 k2 k3 k4 k5
      have N := Box2.new w2 (.int .i64 (mx a f)) (.int .i64 (mn b l)) 23
      have X3 := X2.below ((Below.refl _ w2).alloc (Nat.le_refl _) (.cells #[.int .i64 (mx a f), .int .i64 (mn b l)] 23))
      have g3 := g2.alloc g2.size (.cells #[.int .i64 (mx a f), .int .i64 (mn b l)] 23)
      clear X2 g2
      obtain ⟨k0, k1, k2, k3⟩ := X3.cells
      have X3 := Lib.hid X3
      have NH := Lib.hid N
      obtain ⟨_, n0, n1, _⟩ := N
      go_wp2_with fail
      generalize w2.alloc (.cells #[.int .i64 (mx a f), .int .i64 (mn b l)] 23) = W3 at X3 g3 NH k0 k1 k2 k3 n0 n1 ⊢
      refine (CK.out _).mono ?_; rintro e w4 ⟨rfl, b4⟩
      have g4 := g3.trans (b4.mono g3.size)
      clear g3 CK b4 k0 k1 k2 k3 n0 n1 X3 NH
      go_wp2
      go_ret
      exact ⟨rfl, g4⟩
    · rw [chk_t hk] at CK
      have hx : gd (a, b) = true ∧ gd (mx a f, mn b l) = true := by
        unfold mtB at hm
        cases h1 : gd (a, b) <;> cases h2 : gd (f, l) <;> cases h3 : gd (mx a f, mn b l) <;> rw [h1, h2, h3] at hm <;> first | exact ⟨rfl, rfl⟩ | cases hm
      obtain ⟨ha, hx⟩ := hx
      have q1 : a ≤ mx a f := by unfold mx; split <;> omega
      have q2 : mn b l ≤ b := by unfold mn; split <;> omega
      have NA := narrows (a, b) (c, d) (mx a f, mn b l) (c, d) ha hx hk q1 q2 rfl
      have C1 := Lib.hid (fun V => Before_any a b c d V)
      have C2 := Lib.hid (fun V => Before_any (mx a f) (mn b l) c d V)
      have C3 := Lib.hid (fun V => Before_any c d a b V)
      have C4 := Lib.hid (fun V => Before_any c d (mx a f) (mn b l) V)
      have C5 := Lib.hid (fun V => Same_any a b c d V)
      have C6 := Lib.hid (fun V => Same_any (mx a f) (mn b l) c d V)
      rw [befE_yes (a := (a, b)) (b := (c, d)) (by rw [ha, hk]; rfl)] at C1 C5
      rw [befE_yes (a := (mx a f, mn b l)) (b := (c, d)) (by rw [hx, hk]; rfl)] at C2 C6
      rw [befE_yes (a := (c, d)) (b := (a, b)) (by rw [ha, hk]; rfl)] at C3
      rw [befE_yes (a := (c, d)) (b := (mx a f, mn b l)) (by rw [hx, hk]; rfl)] at C4
      generalize befV (a, b) (c, d) = v1 at NA C1
      generalize befV (mx a f, mn b l) (c, d) = v2 at NA C2
      generalize befV (c, d) (a, b) = v3 at NA C3
      generalize befV (c, d) (mx a f, mn b l) = v4 at NA C4
      generalize samV (a, b) (c, d) = v5 at NA C5
      generalize samV (mx a f, mn b l) (c, d) = v6 at NA C6
      generalize mx a f = xf at *
      generalize mn b l = xl at *
      have NA := Lib.hid NA
      clear hm hk ha hx q1 q2
      go_enter Tryd.func7, Tryd.ntmps7
      go_wp2_with fail
      generalize ((w.alloc (.cells #[.int .i64 a, .int .i64 b] 23)).alloc (.cells #[.int .i64 c, .int .i64 d] 23)).alloc (.cells #[.int .i64 f, .int .i64 l] 23) = W at X0 Y0 g0 C0 ⊢
      refine C0.out.mono ?_; rintro e w1 ⟨rfl, b1⟩
      have X1 := X0.below b1
      have Y1 := Y0.below b1
      have g1 := g0.trans (b1.mono g0.size)
      clear X0 g0 C0 b1 Y0
      obtain ⟨k0, k1, k2, k3⟩ := X1.cells
      obtain ⟨_, k4, k5, _⟩ := Y1
      have X1 := Lib.hid X1
      go_wp2_with fail
      refine (CM.out _).mono ?_; rintro e w2 ⟨rfl, b2⟩
      have X2 := X1.out.below b2
      have g2 := g1.trans (b2.mono g1.size)
      clear X1 g1 CM b2 k0 k1 k2 k3 k4 k5
      have N := Box2.new w2 (.int .i64 xf) (.int .i64 xl) 23
      have X3 := X2.below ((Below.refl _ w2).alloc (Nat.le_refl _) (.cells #[.int .i64 xf, .int .i64 xl] 23))
      have g3 := g2.alloc g2.size (.cells #[.int .i64 xf, .int .i64 xl] 23)
      clear X2 g2
      obtain ⟨k0, k1, k2, k3⟩ := X3.cells
      have X3 := Lib.hid X3
      have NH := Lib.hid N
      obtain ⟨_, n0, n1, _⟩ := N
      go_wp2_with fail
      generalize w2.alloc (.cells #[.int .i64 xf, .int .i64 xl] 23) = W3 at X3 g3 NH k0 k1 k2 k3 n0 n1 ⊢
      refine (CK.out _).mono ?_; rintro e w4 ⟨rfl, b4⟩
      have X4 := X3.out.below b4
      have N4 := NH.out.below b4
      have g4 := g3.trans (b4.mono g3.size)
      clear g3 CK b4 k0 k1 k2 k3 n0 n1 X3 NH
      obtain ⟨k0, k1, k2, k3⟩ := X4.cells
      have X4 := Lib.hid X4
      have NH4 := Lib.hid N4
      obtain ⟨_, n0, n1, _⟩ := N4
      go_wp2_with fail
      refine (C1.out _).mono ?_; rintro e w5 ⟨rfl, b5⟩
      have X5 := X4.out.below b5
      have N5 := NH4.out.below b5
      have g5 := g4.trans (b5.mono g4.size)
      clear g4 C1 b5 k0 k1 k2 k3 n0 n1 X4 NH4
      obtain ⟨k0, k1, k2, k3⟩ := X5.cells
      have X5 := Lib.hid X5
      have NH5 := Lib.hid N5
      obtain ⟨_, n0, n1, _⟩ := N5
      go_wp2_with fail
      refine (C2.out _).mono ?_; rintro e w6 ⟨rfl, b6⟩
      have X6 := X5.out.below b6
      have N6 := NH5.out.below b6
      have g6 := g5.trans (b6.mono g5.size)
      clear g5 C2 b6 k0 k1 k2 k3 n0 n1 X5 NH5
      obtain ⟨k0, k1, k2, k3⟩ := X6.cells
      have X6 := Lib.hid X6
      have NH6 := Lib.hid N6
      obtain ⟨_, n0, n1, _⟩ := N6
      go_wp2_with fail
      refine (C3.out _).mono ?_; rintro e w7 ⟨rfl, b7⟩
      have X7 := X6.out.below b7
      have N7 := NH6.out.below b7
      have g7 := g6.trans (b7.mono g6.size)
      clear g6 C3 b7 k0 k1 k2 k3 n0 n1 X6 NH6
      obtain ⟨k0, k1, k2, k3⟩ := X7.cells
      have X7 := Lib.hid X7
      have NH7 := Lib.hid N7
      obtain ⟨_, n0, n1, _⟩ := N7
      go_wp2_with fail
      refine (C4.out _).mono ?_; rintro e w8 ⟨rfl, b8⟩
      have X8 := X7.out.below b8
      have N8 := NH7.out.below b8
      have g8 := g7.trans (b8.mono g7.size)
      clear g7 C4 b8 k0 k1 k2 k3 n0 n1 X7 NH7
      obtain ⟨k0, k1, k2, k3⟩ := X8.cells
      have X8 := Lib.hid X8
      have NH8 := Lib.hid N8
      obtain ⟨_, n0, n1, _⟩ := N8
      go_wp2_with fail
      refine (C5.out _).mono ?_; rintro e w9 ⟨rfl, b9⟩
      have X9 := X8.out.below b9
      have N9 := NH8.out.below b9
      have g9 := g8.trans (b9.mono g8.size)
      clear g8 C5 b9 k0 k1 k2 k3 n0 n1 X8 NH8
      obtain ⟨k0, k1, k2, k3⟩ := X9.cells
      have X9 := Lib.hid X9
      have NH9 := Lib.hid N9
      obtain ⟨_, n0, n1, _⟩ := N9
      go_wp2_with fail
      refine (C6.out _).mono ?_; rintro e w10 ⟨rfl, b10⟩
      have X10 := X9.out.below b10
      have N10 := NH9.out.below b10
      have g10 := g9.trans (b10.mono g9.size)
      clear g9 C6 b10 k0 k1 k2 k3 n0 n1 X9 NH9
      obtain ⟨k0, k1, k2, k3⟩ := X10.cells
      have X10 := Lib.hid X10
      have NH10 := Lib.hid N10
      obtain ⟨_, n0, n1, _⟩ := N10
      obtain ⟨r1, r2, r3⟩ := NA.out
      clear NA
      rcases r1 with rfl | ⟨r1, rfl⟩ <;> rcases r2 with rfl | ⟨r2, rfl⟩ <;> rcases r3 with rfl | ⟨r3, rfl⟩
      all_goals
        go_wp2 <;> go_ret <;> exact ⟨by first | rfl | (simp [*]; done), g10⟩
end Go.Proofs.YtbllolalfmgfoaaDoor
