/- The reference's Meet; the walk of DatingJoins. -/
import Derived.Test.YtbllolalfmgfoaaDoorDR
import Derived.Test.YtbllolalfmgfoaaDoorDO
namespace Go.Proofs.YtbllolalfmgfoaaDoor
open Go.RowKit Go.Shelf

theorem quad (w : World) (a b c d x y u v : Int) (t1 t2 t3 t4 : TypeId) :
    Pair ((((w.alloc (.cells #[.int .i64 a, .int .i64 b] t1)).alloc (.cells #[.int .i64 c, .int .i64 d] t2)).alloc (.cells #[.int .i64 x, .int .i64 y] t3)).alloc (.cells #[.int .i64 u, .int .i64 v] t4)) w.heap.size a b c d ∧
    Pair ((((w.alloc (.cells #[.int .i64 a, .int .i64 b] t1)).alloc (.cells #[.int .i64 c, .int .i64 d] t2)).alloc (.cells #[.int .i64 x, .int .i64 y] t3)).alloc (.cells #[.int .i64 u, .int .i64 v] t4)) (w.heap.size + 1 + 1) x y u v ∧
    Below w.heap.size w ((((w.alloc (.cells #[.int .i64 a, .int .i64 b] t1)).alloc (.cells #[.int .i64 c, .int .i64 d] t2)).alloc (.cells #[.int .i64 x, .int .i64 y] t3)).alloc (.cells #[.int .i64 u, .int .i64 v] t4)) := by
  have X := Pair.new w a b c d t1 t2
  have g : Below w.heap.size w ((w.alloc (.cells #[.int .i64 a, .int .i64 b] t1)).alloc (.cells #[.int .i64 c, .int .i64 d] t2)) := ((Below.refl _ w).alloc (Nat.le_refl _) _).alloc (by simp) _
  have s : ((w.alloc (.cells #[.int .i64 a, .int .i64 b] t1)).alloc (.cells #[.int .i64 c, .int .i64 d] t2)).heap.size = w.heap.size + 1 + 1 := by simp
  generalize (w.alloc (.cells #[.int .i64 a, .int .i64 b] t1)).alloc (.cells #[.int .i64 c, .int .i64 d] t2) = W at X g s
  have Y := Pair.new W x y u v t3 t4
  have h : Below W.heap.size W ((W.alloc (.cells #[.int .i64 x, .int .i64 y] t3)).alloc (.cells #[.int .i64 u, .int .i64 v] t4)) := ((Below.refl _ W).alloc (Nat.le_refl _) _).alloc (by simp) _
  rw [s] at Y
  exact ⟨X.below h, Y, g.trans (h.mono g.size)⟩
theorem mtB_of {a b c d u v : Int} (em : mx a c = u) (en : mn b d = v) (ha : gd (a, b) = true) (hc : gd (c, d) = true) : mtB a b c d = decide (u ≤ v) := by
  obtain ⟨a0, a1, a2⟩ := gd_t ha
  obtain ⟨c0, c1, c2⟩ := gd_t hc
  simp only at a0 a1 a2 c0 c1 c2
  unfold mtB
  rw [ha, hc, em, en]
  show gd (u, v) = _
  have hu : 0 ≤ u := by rw [← em]; unfold mx; split <;> omega
  have hv : v ≤ 1048575 := by rw [← en]; unfold mn; split <;> omega
  by_cases h : u ≤ v
  · rw [decide_eq_true h]; exact gd_mk ⟨hu, h, hv⟩
  · rw [decide_eq_false h]; exact gd_no (fun x => h x.2.1)

set_option maxHeartbeats 8000000 in
theorem rMeet_any (a b c d : Int) (w : World) :
    Calls Tryd.prog 21 #[.agg #[.int .i64 a, .int .i64 b], .agg #[.int .i64 c, .int .i64 d]] w (DatB (mtF a b c d) (mtL a b c d) (mtB a b c d) w) := by
  by_cases h1 : a < c
  · have em : mx a c = c := by unfold mx; rw [if_pos h1]
    by_cases h2 : d < b
    · have en : mn b d = d := by unfold mn; rw [if_pos h2]
      cases ha : gd (a, b)
      · have er : mtB a b c d = false := by unfold mtB; rw [ha]; rfl
        rw [(mt_f er).1, (mt_f er).2, er]
        clear er em en
        obtain ⟨X0, Y0, g0⟩ := quad w a b c d 0 0 c d 23 23 23 23
        have C1 := Lib.hid (fun V => rGood_any a b V)
        have C2 := Lib.hid (fun V => rGood_any c d V)
        go_enter Tryd.func21, Tryd.ntmps21
        go_wp2_with fail
        generalize ((((w.alloc (.cells #[.int .i64 a, .int .i64 b] 23)).alloc (.cells #[.int .i64 c, .int .i64 d] 23)).alloc (.cells #[.int .i64 0, .int .i64 0] 23)).alloc (.cells #[.int .i64 c, .int .i64 d] 23)) = W at X0 Y0 g0 ⊢
        refine (C1.out _).mono ?_; rintro e w1 ⟨rfl, b1⟩; rw [ha]
        have X1 := X0.below b1
        have Y1 := Y0.below b1
        have g1 := g0.trans (b1.mono g0.size)
        clear X0 Y0 g0 b1 C1
        have Y1 := Y1
        have Z := Lib.hid (Y1.1.set (.int .i64 0) (.int .i64 0))
        have gE := (g1.setCell (p := ⟨w.heap.size + 1 + 1, 0, none⟩) (by simp; omega) (.int .i64 0)).setCell (p := ⟨w.heap.size + 1 + 1, 1, none⟩) (by simp; omega) (.int .i64 0)
        obtain ⟨⟨y0, y1, y2, y3, y4⟩, ⟨z0, z1, z2, z3, z4⟩⟩ := Y1
        go_wp2_with fail
        obtain ⟨_, r1, r2, _⟩ := Z.out
        generalize (w1.setCell ⟨w.heap.size + 1 + 1, 0, none⟩ (.int .i64 0)).setCell ⟨w.heap.size + 1 + 1, 1, none⟩ (.int .i64 0) = w4 at r1 r2 gE ⊢
        exact bodyPost_ret (v := .tuple #[.agg #[.int .i64 0, .int .i64 0], .bool false]) (by simp [results, Tryd.results21, go_sem, r1, r2]) rfl ⟨rfl, gE⟩
      · cases hc : gd (c, d)
        · have er : mtB a b c d = false := by unfold mtB; rw [ha, hc]; rfl
          rw [(mt_f er).1, (mt_f er).2, er]
          clear er em en
          obtain ⟨X0, Y0, g0⟩ := quad w a b c d 0 0 c d 23 23 23 23
          have C1 := Lib.hid (fun V => rGood_any a b V)
          have C2 := Lib.hid (fun V => rGood_any c d V)
          go_enter Tryd.func21, Tryd.ntmps21
          go_wp2_with fail
          generalize ((((w.alloc (.cells #[.int .i64 a, .int .i64 b] 23)).alloc (.cells #[.int .i64 c, .int .i64 d] 23)).alloc (.cells #[.int .i64 0, .int .i64 0] 23)).alloc (.cells #[.int .i64 c, .int .i64 d] 23)) = W at X0 Y0 g0 ⊢
          refine (C1.out _).mono ?_; rintro e w1 ⟨rfl, b1⟩; rw [ha]
          have X1 := X0.below b1
          have Y1 := Y0.below b1
          have g1 := g0.trans (b1.mono g0.size)
          clear X0 Y0 g0 b1 C1
          obtain ⟨k0, k1, k2, k3⟩ := X1.cells
          have Y1 := Lib.hid Y1
          go_wp2_with fail
          refine (C2.out _).mono ?_; rintro e w2 ⟨rfl, b2⟩; rw [hc]
          have Y2 := Y1.out.below b2
          have g2 := g1.trans (b2.mono g1.size)
          clear X1 Y1 g1 b2 C2 k0 k1 k2 k3
          have Z := Lib.hid (Y2.1.set (.int .i64 0) (.int .i64 0))
          have gE := (g2.setCell (p := ⟨w.heap.size + 1 + 1, 0, none⟩) (by simp; omega) (.int .i64 0)).setCell (p := ⟨w.heap.size + 1 + 1, 1, none⟩) (by simp; omega) (.int .i64 0)
          obtain ⟨⟨y0, y1, y2, y3, y4⟩, ⟨z0, z1, z2, z3, z4⟩⟩ := Y2
          go_wp2_with fail
          obtain ⟨_, r1, r2, _⟩ := Z.out
          generalize (w2.setCell ⟨w.heap.size + 1 + 1, 0, none⟩ (.int .i64 0)).setCell ⟨w.heap.size + 1 + 1, 1, none⟩ (.int .i64 0) = w4 at r1 r2 gE ⊢
          exact bodyPost_ret (v := .tuple #[.agg #[.int .i64 0, .int .i64 0], .bool false]) (by simp [results, Tryd.results21, go_sem, r1, r2]) rfl ⟨rfl, gE⟩
        · have eb := mtB_of em en ha hc
          by_cases h3 : c ≤ d
          · rw [decide_eq_true h3] at eb
            rw [(mt_t eb).1, (mt_t eb).2, eb, em, en]
            clear eb em en
            have h3' : ¬ d < c := by omega
            obtain ⟨X0, Y0, g0⟩ := quad w a b c d 0 0 c d 23 23 23 23
            have C1 := Lib.hid (fun V => rGood_any a b V)
            have C2 := Lib.hid (fun V => rGood_any c d V)
            go_enter Tryd.func21, Tryd.ntmps21
            go_wp2_with fail
            generalize ((((w.alloc (.cells #[.int .i64 a, .int .i64 b] 23)).alloc (.cells #[.int .i64 c, .int .i64 d] 23)).alloc (.cells #[.int .i64 0, .int .i64 0] 23)).alloc (.cells #[.int .i64 c, .int .i64 d] 23)) = W at X0 Y0 g0 ⊢
            refine (C1.out _).mono ?_; rintro e w1 ⟨rfl, b1⟩; rw [ha]
            have X1 := X0.below b1
            have Y1 := Y0.below b1
            have g1 := g0.trans (b1.mono g0.size)
            clear X0 Y0 g0 b1 C1
            obtain ⟨k0, k1, k2, k3⟩ := X1.cells
            have Y1 := Lib.hid Y1
            go_wp2_with fail
            refine (C2.out _).mono ?_; rintro e w2 ⟨rfl, b2⟩; rw [hc]
            have Y2 := Y1.out.below b2
            have g2 := g1.trans (b2.mono g1.size)
            clear X1 Y1 g1 b2 C2 k0 k1 k2 k3
            have Z := Lib.hid (Y2.1.set (.int .i64 c) (.int .i64 d))
            have gE := (g2.setCell (p := ⟨w.heap.size + 1 + 1, 0, none⟩) (by simp; omega) (.int .i64 c)).setCell (p := ⟨w.heap.size + 1 + 1, 1, none⟩) (by simp; omega) (.int .i64 d)
            obtain ⟨⟨y0, y1, y2, y3, y4⟩, ⟨z0, z1, z2, z3, z4⟩⟩ := Y2
            go_wp2_with fail
            obtain ⟨_, r1, r2, _⟩ := Z.out
            generalize (w2.setCell ⟨w.heap.size + 1 + 1, 0, none⟩ (.int .i64 c)).setCell ⟨w.heap.size + 1 + 1, 1, none⟩ (.int .i64 d) = w4 at r1 r2 gE ⊢
            exact bodyPost_ret (v := .tuple #[.agg #[.int .i64 c, .int .i64 d], .bool true]) (by simp [results, Tryd.results21, go_sem, r1, r2]) rfl ⟨rfl, gE⟩
          · rw [decide_eq_false h3] at eb
            rw [(mt_f eb).1, (mt_f eb).2, eb]
            clear eb em en
            have h3' : d < c := by omega
            obtain ⟨X0, Y0, g0⟩ := quad w a b c d 0 0 c d 23 23 23 23
            have C1 := Lib.hid (fun V => rGood_any a b V)
            have C2 := Lib.hid (fun V => rGood_any c d V)
            go_enter Tryd.func21, Tryd.ntmps21
            go_wp2_with fail
            generalize ((((w.alloc (.cells #[.int .i64 a, .int .i64 b] 23)).alloc (.cells #[.int .i64 c, .int .i64 d] 23)).alloc (.cells #[.int .i64 0, .int .i64 0] 23)).alloc (.cells #[.int .i64 c, .int .i64 d] 23)) = W at X0 Y0 g0 ⊢
            refine (C1.out _).mono ?_; rintro e w1 ⟨rfl, b1⟩; rw [ha]
            have X1 := X0.below b1
            have Y1 := Y0.below b1
            have g1 := g0.trans (b1.mono g0.size)
            clear X0 Y0 g0 b1 C1
            obtain ⟨k0, k1, k2, k3⟩ := X1.cells
            have Y1 := Lib.hid Y1
            go_wp2_with fail
            refine (C2.out _).mono ?_; rintro e w2 ⟨rfl, b2⟩; rw [hc]
            have Y2 := Y1.out.below b2
            have g2 := g1.trans (b2.mono g1.size)
            clear X1 Y1 g1 b2 C2 k0 k1 k2 k3
            have Z := Lib.hid (Y2.1.set (.int .i64 0) (.int .i64 0))
            have gE := (g2.setCell (p := ⟨w.heap.size + 1 + 1, 0, none⟩) (by simp; omega) (.int .i64 0)).setCell (p := ⟨w.heap.size + 1 + 1, 1, none⟩) (by simp; omega) (.int .i64 0)
            obtain ⟨⟨y0, y1, y2, y3, y4⟩, ⟨z0, z1, z2, z3, z4⟩⟩ := Y2
            go_wp2_with fail
            obtain ⟨_, r1, r2, _⟩ := Z.out
            generalize (w2.setCell ⟨w.heap.size + 1 + 1, 0, none⟩ (.int .i64 0)).setCell ⟨w.heap.size + 1 + 1, 1, none⟩ (.int .i64 0) = w4 at r1 r2 gE ⊢
            exact bodyPost_ret (v := .tuple #[.agg #[.int .i64 0, .int .i64 0], .bool false]) (by simp [results, Tryd.results21, go_sem, r1, r2]) rfl ⟨rfl, gE⟩
    · have en : mn b d = b := by unfold mn; rw [if_neg h2]
      have h2' : b ≤ d := by omega
      cases ha : gd (a, b)
      · have er : mtB a b c d = false := by unfold mtB; rw [ha]; rfl
        rw [(mt_f er).1, (mt_f er).2, er]
        clear er em en
        obtain ⟨X0, Y0, g0⟩ := quad w a b c d 0 0 c b 23 23 23 23
        have C1 := Lib.hid (fun V => rGood_any a b V)
        have C2 := Lib.hid (fun V => rGood_any c d V)
        go_enter Tryd.func21, Tryd.ntmps21
        go_wp2_with fail
        generalize ((((w.alloc (.cells #[.int .i64 a, .int .i64 b] 23)).alloc (.cells #[.int .i64 c, .int .i64 d] 23)).alloc (.cells #[.int .i64 0, .int .i64 0] 23)).alloc (.cells #[.int .i64 c, .int .i64 b] 23)) = W at X0 Y0 g0 ⊢
        refine (C1.out _).mono ?_; rintro e w1 ⟨rfl, b1⟩; rw [ha]
        have X1 := X0.below b1
        have Y1 := Y0.below b1
        have g1 := g0.trans (b1.mono g0.size)
        clear X0 Y0 g0 b1 C1
        have Y1 := Y1
        have Z := Lib.hid (Y1.1.set (.int .i64 0) (.int .i64 0))
        have gE := (g1.setCell (p := ⟨w.heap.size + 1 + 1, 0, none⟩) (by simp; omega) (.int .i64 0)).setCell (p := ⟨w.heap.size + 1 + 1, 1, none⟩) (by simp; omega) (.int .i64 0)
        obtain ⟨⟨y0, y1, y2, y3, y4⟩, ⟨z0, z1, z2, z3, z4⟩⟩ := Y1
        go_wp2_with fail
        obtain ⟨_, r1, r2, _⟩ := Z.out
        generalize (w1.setCell ⟨w.heap.size + 1 + 1, 0, none⟩ (.int .i64 0)).setCell ⟨w.heap.size + 1 + 1, 1, none⟩ (.int .i64 0) = w4 at r1 r2 gE ⊢
        exact bodyPost_ret (v := .tuple #[.agg #[.int .i64 0, .int .i64 0], .bool false]) (by simp [results, Tryd.results21, go_sem, r1, r2]) rfl ⟨rfl, gE⟩
      · cases hc : gd (c, d)
        · have er : mtB a b c d = false := by unfold mtB; rw [ha, hc]; rfl
          rw [(mt_f er).1, (mt_f er).2, er]
          clear er em en
          obtain ⟨X0, Y0, g0⟩ := quad w a b c d 0 0 c b 23 23 23 23
          have C1 := Lib.hid (fun V => rGood_any a b V)
          have C2 := Lib.hid (fun V => rGood_any c d V)
          go_enter Tryd.func21, Tryd.ntmps21
          go_wp2_with fail
          generalize ((((w.alloc (.cells #[.int .i64 a, .int .i64 b] 23)).alloc (.cells #[.int .i64 c, .int .i64 d] 23)).alloc (.cells #[.int .i64 0, .int .i64 0] 23)).alloc (.cells #[.int .i64 c, .int .i64 b] 23)) = W at X0 Y0 g0 ⊢
          refine (C1.out _).mono ?_; rintro e w1 ⟨rfl, b1⟩; rw [ha]
          have X1 := X0.below b1
          have Y1 := Y0.below b1
          have g1 := g0.trans (b1.mono g0.size)
          clear X0 Y0 g0 b1 C1
          obtain ⟨k0, k1, k2, k3⟩ := X1.cells
          have Y1 := Lib.hid Y1
          go_wp2_with fail
          refine (C2.out _).mono ?_; rintro e w2 ⟨rfl, b2⟩; rw [hc]
          have Y2 := Y1.out.below b2
          have g2 := g1.trans (b2.mono g1.size)
          clear X1 Y1 g1 b2 C2 k0 k1 k2 k3
          have Z := Lib.hid (Y2.1.set (.int .i64 0) (.int .i64 0))
          have gE := (g2.setCell (p := ⟨w.heap.size + 1 + 1, 0, none⟩) (by simp; omega) (.int .i64 0)).setCell (p := ⟨w.heap.size + 1 + 1, 1, none⟩) (by simp; omega) (.int .i64 0)
          obtain ⟨⟨y0, y1, y2, y3, y4⟩, ⟨z0, z1, z2, z3, z4⟩⟩ := Y2
          go_wp2_with fail
          obtain ⟨_, r1, r2, _⟩ := Z.out
          generalize (w2.setCell ⟨w.heap.size + 1 + 1, 0, none⟩ (.int .i64 0)).setCell ⟨w.heap.size + 1 + 1, 1, none⟩ (.int .i64 0) = w4 at r1 r2 gE ⊢
          exact bodyPost_ret (v := .tuple #[.agg #[.int .i64 0, .int .i64 0], .bool false]) (by simp [results, Tryd.results21, go_sem, r1, r2]) rfl ⟨rfl, gE⟩
        · have eb := mtB_of em en ha hc
          by_cases h3 : c ≤ b
          · rw [decide_eq_true h3] at eb
            rw [(mt_t eb).1, (mt_t eb).2, eb, em, en]
            clear eb em en
            have h3' : ¬ b < c := by omega
            obtain ⟨X0, Y0, g0⟩ := quad w a b c d 0 0 c b 23 23 23 23
            have C1 := Lib.hid (fun V => rGood_any a b V)
            have C2 := Lib.hid (fun V => rGood_any c d V)
            go_enter Tryd.func21, Tryd.ntmps21
            go_wp2_with fail
            generalize ((((w.alloc (.cells #[.int .i64 a, .int .i64 b] 23)).alloc (.cells #[.int .i64 c, .int .i64 d] 23)).alloc (.cells #[.int .i64 0, .int .i64 0] 23)).alloc (.cells #[.int .i64 c, .int .i64 b] 23)) = W at X0 Y0 g0 ⊢
            refine (C1.out _).mono ?_; rintro e w1 ⟨rfl, b1⟩; rw [ha]
            have X1 := X0.below b1
            have Y1 := Y0.below b1
            have g1 := g0.trans (b1.mono g0.size)
            clear X0 Y0 g0 b1 C1
            obtain ⟨k0, k1, k2, k3⟩ := X1.cells
            have Y1 := Lib.hid Y1
            go_wp2_with fail
            refine (C2.out _).mono ?_; rintro e w2 ⟨rfl, b2⟩; rw [hc]
            have Y2 := Y1.out.below b2
            have g2 := g1.trans (b2.mono g1.size)
            clear X1 Y1 g1 b2 C2 k0 k1 k2 k3
            have Z := Lib.hid (Y2.1.set (.int .i64 c) (.int .i64 b))
            have gE := (g2.setCell (p := ⟨w.heap.size + 1 + 1, 0, none⟩) (by simp; omega) (.int .i64 c)).setCell (p := ⟨w.heap.size + 1 + 1, 1, none⟩) (by simp; omega) (.int .i64 b)
            obtain ⟨⟨y0, y1, y2, y3, y4⟩, ⟨z0, z1, z2, z3, z4⟩⟩ := Y2
            go_wp2_with fail
            obtain ⟨_, r1, r2, _⟩ := Z.out
            generalize (w2.setCell ⟨w.heap.size + 1 + 1, 0, none⟩ (.int .i64 c)).setCell ⟨w.heap.size + 1 + 1, 1, none⟩ (.int .i64 b) = w4 at r1 r2 gE ⊢
            exact bodyPost_ret (v := .tuple #[.agg #[.int .i64 c, .int .i64 b], .bool true]) (by simp [results, Tryd.results21, go_sem, r1, r2]) rfl ⟨rfl, gE⟩
          · rw [decide_eq_false h3] at eb
            rw [(mt_f eb).1, (mt_f eb).2, eb]
            clear eb em en
            have h3' : b < c := by omega
            obtain ⟨X0, Y0, g0⟩ := quad w a b c d 0 0 c b 23 23 23 23
            have C1 := Lib.hid (fun V => rGood_any a b V)
            have C2 := Lib.hid (fun V => rGood_any c d V)
            go_enter Tryd.func21, Tryd.ntmps21
            go_wp2_with fail
            generalize ((((w.alloc (.cells #[.int .i64 a, .int .i64 b] 23)).alloc (.cells #[.int .i64 c, .int .i64 d] 23)).alloc (.cells #[.int .i64 0, .int .i64 0] 23)).alloc (.cells #[.int .i64 c, .int .i64 b] 23)) = W at X0 Y0 g0 ⊢
            refine (C1.out _).mono ?_; rintro e w1 ⟨rfl, b1⟩; rw [ha]
            have X1 := X0.below b1
            have Y1 := Y0.below b1
            have g1 := g0.trans (b1.mono g0.size)
            clear X0 Y0 g0 b1 C1
            obtain ⟨k0, k1, k2, k3⟩ := X1.cells
            have Y1 := Lib.hid Y1
            go_wp2_with fail
            refine (C2.out _).mono ?_; rintro e w2 ⟨rfl, b2⟩; rw [hc]
            have Y2 := Y1.out.below b2
            have g2 := g1.trans (b2.mono g1.size)
            clear X1 Y1 g1 b2 C2 k0 k1 k2 k3
            have Z := Lib.hid (Y2.1.set (.int .i64 0) (.int .i64 0))
            have gE := (g2.setCell (p := ⟨w.heap.size + 1 + 1, 0, none⟩) (by simp; omega) (.int .i64 0)).setCell (p := ⟨w.heap.size + 1 + 1, 1, none⟩) (by simp; omega) (.int .i64 0)
            obtain ⟨⟨y0, y1, y2, y3, y4⟩, ⟨z0, z1, z2, z3, z4⟩⟩ := Y2
            go_wp2_with fail
            obtain ⟨_, r1, r2, _⟩ := Z.out
            generalize (w2.setCell ⟨w.heap.size + 1 + 1, 0, none⟩ (.int .i64 0)).setCell ⟨w.heap.size + 1 + 1, 1, none⟩ (.int .i64 0) = w4 at r1 r2 gE ⊢
            exact bodyPost_ret (v := .tuple #[.agg #[.int .i64 0, .int .i64 0], .bool false]) (by simp [results, Tryd.results21, go_sem, r1, r2]) rfl ⟨rfl, gE⟩
  · have em : mx a c = a := by unfold mx; rw [if_neg h1]
    have h1' : c ≤ a := by omega
    by_cases h2 : d < b
    · have en : mn b d = d := by unfold mn; rw [if_pos h2]
      cases ha : gd (a, b)
      · have er : mtB a b c d = false := by unfold mtB; rw [ha]; rfl
        rw [(mt_f er).1, (mt_f er).2, er]
        clear er em en
        obtain ⟨X0, Y0, g0⟩ := quad w a b c d 0 0 a d 23 23 23 23
        have C1 := Lib.hid (fun V => rGood_any a b V)
        have C2 := Lib.hid (fun V => rGood_any c d V)
        go_enter Tryd.func21, Tryd.ntmps21
        go_wp2_with fail
        generalize ((((w.alloc (.cells #[.int .i64 a, .int .i64 b] 23)).alloc (.cells #[.int .i64 c, .int .i64 d] 23)).alloc (.cells #[.int .i64 0, .int .i64 0] 23)).alloc (.cells #[.int .i64 a, .int .i64 d] 23)) = W at X0 Y0 g0 ⊢
        refine (C1.out _).mono ?_; rintro e w1 ⟨rfl, b1⟩; rw [ha]
        have X1 := X0.below b1
        have Y1 := Y0.below b1
        have g1 := g0.trans (b1.mono g0.size)
        clear X0 Y0 g0 b1 C1
        have Y1 := Y1
        have Z := Lib.hid (Y1.1.set (.int .i64 0) (.int .i64 0))
        have gE := (g1.setCell (p := ⟨w.heap.size + 1 + 1, 0, none⟩) (by simp; omega) (.int .i64 0)).setCell (p := ⟨w.heap.size + 1 + 1, 1, none⟩) (by simp; omega) (.int .i64 0)
        obtain ⟨⟨y0, y1, y2, y3, y4⟩, ⟨z0, z1, z2, z3, z4⟩⟩ := Y1
        go_wp2_with fail
        obtain ⟨_, r1, r2, _⟩ := Z.out
        generalize (w1.setCell ⟨w.heap.size + 1 + 1, 0, none⟩ (.int .i64 0)).setCell ⟨w.heap.size + 1 + 1, 1, none⟩ (.int .i64 0) = w4 at r1 r2 gE ⊢
        exact bodyPost_ret (v := .tuple #[.agg #[.int .i64 0, .int .i64 0], .bool false]) (by simp [results, Tryd.results21, go_sem, r1, r2]) rfl ⟨rfl, gE⟩
      · cases hc : gd (c, d)
        · have er : mtB a b c d = false := by unfold mtB; rw [ha, hc]; rfl
          rw [(mt_f er).1, (mt_f er).2, er]
          clear er em en
          obtain ⟨X0, Y0, g0⟩ := quad w a b c d 0 0 a d 23 23 23 23
          have C1 := Lib.hid (fun V => rGood_any a b V)
          have C2 := Lib.hid (fun V => rGood_any c d V)
          go_enter Tryd.func21, Tryd.ntmps21
          go_wp2_with fail
          generalize ((((w.alloc (.cells #[.int .i64 a, .int .i64 b] 23)).alloc (.cells #[.int .i64 c, .int .i64 d] 23)).alloc (.cells #[.int .i64 0, .int .i64 0] 23)).alloc (.cells #[.int .i64 a, .int .i64 d] 23)) = W at X0 Y0 g0 ⊢
          refine (C1.out _).mono ?_; rintro e w1 ⟨rfl, b1⟩; rw [ha]
          have X1 := X0.below b1
          have Y1 := Y0.below b1
          have g1 := g0.trans (b1.mono g0.size)
          clear X0 Y0 g0 b1 C1
          obtain ⟨k0, k1, k2, k3⟩ := X1.cells
          have Y1 := Lib.hid Y1
          go_wp2_with fail
          refine (C2.out _).mono ?_; rintro e w2 ⟨rfl, b2⟩; rw [hc]
          have Y2 := Y1.out.below b2
          have g2 := g1.trans (b2.mono g1.size)
          clear X1 Y1 g1 b2 C2 k0 k1 k2 k3
          have Z := Lib.hid (Y2.1.set (.int .i64 0) (.int .i64 0))
          have gE := (g2.setCell (p := ⟨w.heap.size + 1 + 1, 0, none⟩) (by simp; omega) (.int .i64 0)).setCell (p := ⟨w.heap.size + 1 + 1, 1, none⟩) (by simp; omega) (.int .i64 0)
          obtain ⟨⟨y0, y1, y2, y3, y4⟩, ⟨z0, z1, z2, z3, z4⟩⟩ := Y2
          go_wp2_with fail
          obtain ⟨_, r1, r2, _⟩ := Z.out
          generalize (w2.setCell ⟨w.heap.size + 1 + 1, 0, none⟩ (.int .i64 0)).setCell ⟨w.heap.size + 1 + 1, 1, none⟩ (.int .i64 0) = w4 at r1 r2 gE ⊢
          exact bodyPost_ret (v := .tuple #[.agg #[.int .i64 0, .int .i64 0], .bool false]) (by simp [results, Tryd.results21, go_sem, r1, r2]) rfl ⟨rfl, gE⟩
        · have eb := mtB_of em en ha hc
          by_cases h3 : a ≤ d
          · rw [decide_eq_true h3] at eb
            rw [(mt_t eb).1, (mt_t eb).2, eb, em, en]
            clear eb em en
            have h3' : ¬ d < a := by omega
            obtain ⟨X0, Y0, g0⟩ := quad w a b c d 0 0 a d 23 23 23 23
            have C1 := Lib.hid (fun V => rGood_any a b V)
            have C2 := Lib.hid (fun V => rGood_any c d V)
            go_enter Tryd.func21, Tryd.ntmps21
            go_wp2_with fail
            generalize ((((w.alloc (.cells #[.int .i64 a, .int .i64 b] 23)).alloc (.cells #[.int .i64 c, .int .i64 d] 23)).alloc (.cells #[.int .i64 0, .int .i64 0] 23)).alloc (.cells #[.int .i64 a, .int .i64 d] 23)) = W at X0 Y0 g0 ⊢
            refine (C1.out _).mono ?_; rintro e w1 ⟨rfl, b1⟩; rw [ha]
            have X1 := X0.below b1
            have Y1 := Y0.below b1
            have g1 := g0.trans (b1.mono g0.size)
            clear X0 Y0 g0 b1 C1
            obtain ⟨k0, k1, k2, k3⟩ := X1.cells
            have Y1 := Lib.hid Y1
            go_wp2_with fail
            refine (C2.out _).mono ?_; rintro e w2 ⟨rfl, b2⟩; rw [hc]
            have Y2 := Y1.out.below b2
            have g2 := g1.trans (b2.mono g1.size)
            clear X1 Y1 g1 b2 C2 k0 k1 k2 k3
            have Z := Lib.hid (Y2.1.set (.int .i64 a) (.int .i64 d))
            have gE := (g2.setCell (p := ⟨w.heap.size + 1 + 1, 0, none⟩) (by simp; omega) (.int .i64 a)).setCell (p := ⟨w.heap.size + 1 + 1, 1, none⟩) (by simp; omega) (.int .i64 d)
            obtain ⟨⟨y0, y1, y2, y3, y4⟩, ⟨z0, z1, z2, z3, z4⟩⟩ := Y2
            go_wp2_with fail
            obtain ⟨_, r1, r2, _⟩ := Z.out
            generalize (w2.setCell ⟨w.heap.size + 1 + 1, 0, none⟩ (.int .i64 a)).setCell ⟨w.heap.size + 1 + 1, 1, none⟩ (.int .i64 d) = w4 at r1 r2 gE ⊢
            exact bodyPost_ret (v := .tuple #[.agg #[.int .i64 a, .int .i64 d], .bool true]) (by simp [results, Tryd.results21, go_sem, r1, r2]) rfl ⟨rfl, gE⟩
          · rw [decide_eq_false h3] at eb
            rw [(mt_f eb).1, (mt_f eb).2, eb]
            clear eb em en
            have h3' : d < a := by omega
            obtain ⟨X0, Y0, g0⟩ := quad w a b c d 0 0 a d 23 23 23 23
            have C1 := Lib.hid (fun V => rGood_any a b V)
            have C2 := Lib.hid (fun V => rGood_any c d V)
            go_enter Tryd.func21, Tryd.ntmps21
            go_wp2_with fail
            generalize ((((w.alloc (.cells #[.int .i64 a, .int .i64 b] 23)).alloc (.cells #[.int .i64 c, .int .i64 d] 23)).alloc (.cells #[.int .i64 0, .int .i64 0] 23)).alloc (.cells #[.int .i64 a, .int .i64 d] 23)) = W at X0 Y0 g0 ⊢
            refine (C1.out _).mono ?_; rintro e w1 ⟨rfl, b1⟩; rw [ha]
            have X1 := X0.below b1
            have Y1 := Y0.below b1
            have g1 := g0.trans (b1.mono g0.size)
            clear X0 Y0 g0 b1 C1
            obtain ⟨k0, k1, k2, k3⟩ := X1.cells
            have Y1 := Lib.hid Y1
            go_wp2_with fail
            refine (C2.out _).mono ?_; rintro e w2 ⟨rfl, b2⟩; rw [hc]
            have Y2 := Y1.out.below b2
            have g2 := g1.trans (b2.mono g1.size)
            clear X1 Y1 g1 b2 C2 k0 k1 k2 k3
            have Z := Lib.hid (Y2.1.set (.int .i64 0) (.int .i64 0))
            have gE := (g2.setCell (p := ⟨w.heap.size + 1 + 1, 0, none⟩) (by simp; omega) (.int .i64 0)).setCell (p := ⟨w.heap.size + 1 + 1, 1, none⟩) (by simp; omega) (.int .i64 0)
            obtain ⟨⟨y0, y1, y2, y3, y4⟩, ⟨z0, z1, z2, z3, z4⟩⟩ := Y2
            go_wp2_with fail
            obtain ⟨_, r1, r2, _⟩ := Z.out
            generalize (w2.setCell ⟨w.heap.size + 1 + 1, 0, none⟩ (.int .i64 0)).setCell ⟨w.heap.size + 1 + 1, 1, none⟩ (.int .i64 0) = w4 at r1 r2 gE ⊢
            exact bodyPost_ret (v := .tuple #[.agg #[.int .i64 0, .int .i64 0], .bool false]) (by simp [results, Tryd.results21, go_sem, r1, r2]) rfl ⟨rfl, gE⟩
    · have en : mn b d = b := by unfold mn; rw [if_neg h2]
      have h2' : b ≤ d := by omega
      cases ha : gd (a, b)
      · have er : mtB a b c d = false := by unfold mtB; rw [ha]; rfl
        rw [(mt_f er).1, (mt_f er).2, er]
        clear er em en
        obtain ⟨X0, Y0, g0⟩ := quad w a b c d 0 0 a b 23 23 23 23
        have C1 := Lib.hid (fun V => rGood_any a b V)
        have C2 := Lib.hid (fun V => rGood_any c d V)
        go_enter Tryd.func21, Tryd.ntmps21
        go_wp2_with fail
        generalize ((((w.alloc (.cells #[.int .i64 a, .int .i64 b] 23)).alloc (.cells #[.int .i64 c, .int .i64 d] 23)).alloc (.cells #[.int .i64 0, .int .i64 0] 23)).alloc (.cells #[.int .i64 a, .int .i64 b] 23)) = W at X0 Y0 g0 ⊢
        refine (C1.out _).mono ?_; rintro e w1 ⟨rfl, b1⟩; rw [ha]
        have X1 := X0.below b1
        have Y1 := Y0.below b1
        have g1 := g0.trans (b1.mono g0.size)
        clear X0 Y0 g0 b1 C1
        have Y1 := Y1
        have Z := Lib.hid (Y1.1.set (.int .i64 0) (.int .i64 0))
        have gE := (g1.setCell (p := ⟨w.heap.size + 1 + 1, 0, none⟩) (by simp; omega) (.int .i64 0)).setCell (p := ⟨w.heap.size + 1 + 1, 1, none⟩) (by simp; omega) (.int .i64 0)
        obtain ⟨⟨y0, y1, y2, y3, y4⟩, ⟨z0, z1, z2, z3, z4⟩⟩ := Y1
        go_wp2_with fail
        obtain ⟨_, r1, r2, _⟩ := Z.out
        generalize (w1.setCell ⟨w.heap.size + 1 + 1, 0, none⟩ (.int .i64 0)).setCell ⟨w.heap.size + 1 + 1, 1, none⟩ (.int .i64 0) = w4 at r1 r2 gE ⊢
        exact bodyPost_ret (v := .tuple #[.agg #[.int .i64 0, .int .i64 0], .bool false]) (by simp [results, Tryd.results21, go_sem, r1, r2]) rfl ⟨rfl, gE⟩
      · cases hc : gd (c, d)
        · have er : mtB a b c d = false := by unfold mtB; rw [ha, hc]; rfl
          rw [(mt_f er).1, (mt_f er).2, er]
          clear er em en
          obtain ⟨X0, Y0, g0⟩ := quad w a b c d 0 0 a b 23 23 23 23
          have C1 := Lib.hid (fun V => rGood_any a b V)
          have C2 := Lib.hid (fun V => rGood_any c d V)
          go_enter Tryd.func21, Tryd.ntmps21
          go_wp2_with fail
          generalize ((((w.alloc (.cells #[.int .i64 a, .int .i64 b] 23)).alloc (.cells #[.int .i64 c, .int .i64 d] 23)).alloc (.cells #[.int .i64 0, .int .i64 0] 23)).alloc (.cells #[.int .i64 a, .int .i64 b] 23)) = W at X0 Y0 g0 ⊢
          refine (C1.out _).mono ?_; rintro e w1 ⟨rfl, b1⟩; rw [ha]
          have X1 := X0.below b1
          have Y1 := Y0.below b1
          have g1 := g0.trans (b1.mono g0.size)
          clear X0 Y0 g0 b1 C1
          obtain ⟨k0, k1, k2, k3⟩ := X1.cells
          have Y1 := Lib.hid Y1
          go_wp2_with fail
          refine (C2.out _).mono ?_; rintro e w2 ⟨rfl, b2⟩; rw [hc]
          have Y2 := Y1.out.below b2
          have g2 := g1.trans (b2.mono g1.size)
          clear X1 Y1 g1 b2 C2 k0 k1 k2 k3
          have Z := Lib.hid (Y2.1.set (.int .i64 0) (.int .i64 0))
          have gE := (g2.setCell (p := ⟨w.heap.size + 1 + 1, 0, none⟩) (by simp; omega) (.int .i64 0)).setCell (p := ⟨w.heap.size + 1 + 1, 1, none⟩) (by simp; omega) (.int .i64 0)
          obtain ⟨⟨y0, y1, y2, y3, y4⟩, ⟨z0, z1, z2, z3, z4⟩⟩ := Y2
          go_wp2_with fail
          obtain ⟨_, r1, r2, _⟩ := Z.out
          generalize (w2.setCell ⟨w.heap.size + 1 + 1, 0, none⟩ (.int .i64 0)).setCell ⟨w.heap.size + 1 + 1, 1, none⟩ (.int .i64 0) = w4 at r1 r2 gE ⊢
          exact bodyPost_ret (v := .tuple #[.agg #[.int .i64 0, .int .i64 0], .bool false]) (by simp [results, Tryd.results21, go_sem, r1, r2]) rfl ⟨rfl, gE⟩
        · have eb := mtB_of em en ha hc
          by_cases h3 : a ≤ b
          · rw [decide_eq_true h3] at eb
            rw [(mt_t eb).1, (mt_t eb).2, eb, em, en]
            clear eb em en
            have h3' : ¬ b < a := by omega
            obtain ⟨X0, Y0, g0⟩ := quad w a b c d 0 0 a b 23 23 23 23
            have C1 := Lib.hid (fun V => rGood_any a b V)
            have C2 := Lib.hid (fun V => rGood_any c d V)
            go_enter Tryd.func21, Tryd.ntmps21
            go_wp2_with fail
            generalize ((((w.alloc (.cells #[.int .i64 a, .int .i64 b] 23)).alloc (.cells #[.int .i64 c, .int .i64 d] 23)).alloc (.cells #[.int .i64 0, .int .i64 0] 23)).alloc (.cells #[.int .i64 a, .int .i64 b] 23)) = W at X0 Y0 g0 ⊢
            refine (C1.out _).mono ?_; rintro e w1 ⟨rfl, b1⟩; rw [ha]
            have X1 := X0.below b1
            have Y1 := Y0.below b1
            have g1 := g0.trans (b1.mono g0.size)
            clear X0 Y0 g0 b1 C1
            obtain ⟨k0, k1, k2, k3⟩ := X1.cells
            have Y1 := Lib.hid Y1
            go_wp2_with fail
            refine (C2.out _).mono ?_; rintro e w2 ⟨rfl, b2⟩; rw [hc]
            have Y2 := Y1.out.below b2
            have g2 := g1.trans (b2.mono g1.size)
            clear X1 Y1 g1 b2 C2 k0 k1 k2 k3
            have Z := Lib.hid (Y2.1.set (.int .i64 a) (.int .i64 b))
            have gE := (g2.setCell (p := ⟨w.heap.size + 1 + 1, 0, none⟩) (by simp; omega) (.int .i64 a)).setCell (p := ⟨w.heap.size + 1 + 1, 1, none⟩) (by simp; omega) (.int .i64 b)
            obtain ⟨⟨y0, y1, y2, y3, y4⟩, ⟨z0, z1, z2, z3, z4⟩⟩ := Y2
            go_wp2_with fail
            obtain ⟨_, r1, r2, _⟩ := Z.out
            generalize (w2.setCell ⟨w.heap.size + 1 + 1, 0, none⟩ (.int .i64 a)).setCell ⟨w.heap.size + 1 + 1, 1, none⟩ (.int .i64 b) = w4 at r1 r2 gE ⊢
            exact bodyPost_ret (v := .tuple #[.agg #[.int .i64 a, .int .i64 b], .bool true]) (by simp [results, Tryd.results21, go_sem, r1, r2]) rfl ⟨rfl, gE⟩
          · rw [decide_eq_false h3] at eb
            rw [(mt_f eb).1, (mt_f eb).2, eb]
            clear eb em en
            have h3' : b < a := by omega
            obtain ⟨X0, Y0, g0⟩ := quad w a b c d 0 0 a b 23 23 23 23
            have C1 := Lib.hid (fun V => rGood_any a b V)
            have C2 := Lib.hid (fun V => rGood_any c d V)
            go_enter Tryd.func21, Tryd.ntmps21
            go_wp2_with fail
            generalize ((((w.alloc (.cells #[.int .i64 a, .int .i64 b] 23)).alloc (.cells #[.int .i64 c, .int .i64 d] 23)).alloc (.cells #[.int .i64 0, .int .i64 0] 23)).alloc (.cells #[.int .i64 a, .int .i64 b] 23)) = W at X0 Y0 g0 ⊢
            refine (C1.out _).mono ?_; rintro e w1 ⟨rfl, b1⟩; rw [ha]
            have X1 := X0.below b1
            have Y1 := Y0.below b1
            have g1 := g0.trans (b1.mono g0.size)
            clear X0 Y0 g0 b1 C1
            obtain ⟨k0, k1, k2, k3⟩ := X1.cells
            have Y1 := Lib.hid Y1
            go_wp2_with fail
            refine (C2.out _).mono ?_; rintro e w2 ⟨rfl, b2⟩; rw [hc]
            have Y2 := Y1.out.below b2
            have g2 := g1.trans (b2.mono g1.size)
            clear X1 Y1 g1 b2 C2 k0 k1 k2 k3
            have Z := Lib.hid (Y2.1.set (.int .i64 0) (.int .i64 0))
            have gE := (g2.setCell (p := ⟨w.heap.size + 1 + 1, 0, none⟩) (by simp; omega) (.int .i64 0)).setCell (p := ⟨w.heap.size + 1 + 1, 1, none⟩) (by simp; omega) (.int .i64 0)
            obtain ⟨⟨y0, y1, y2, y3, y4⟩, ⟨z0, z1, z2, z3, z4⟩⟩ := Y2
            go_wp2_with fail
            obtain ⟨_, r1, r2, _⟩ := Z.out
            generalize (w2.setCell ⟨w.heap.size + 1 + 1, 0, none⟩ (.int .i64 0)).setCell ⟨w.heap.size + 1 + 1, 1, none⟩ (.int .i64 0) = w4 at r1 r2 gE ⊢
            exact bodyPost_ret (v := .tuple #[.agg #[.int .i64 0, .int .i64 0], .bool false]) (by simp [results, Tryd.results21, go_sem, r1, r2]) rfl ⟨rfl, gE⟩
end Go.Proofs.YtbllolalfmgfoaaDoor
