/- The relation same, the reference's relations, and Meet. -/
import Derived.Test.YtbllolalfmgfoaaDoorDB
import Derived.Laws.StructEq
namespace Go.Proofs.YtbllolalfmgfoaaDoor
open Go.RowKit Go.Shelf

/-- '==' of two datings. -/
theorem eqD (a b c d : Int) (w : World) : (binOp .eql 23 (.agg #[.int .i64 a, .int .i64 b]) (.agg #[.int .i64 c, .int .i64 d])).run Tryd.prog w = .ok (.bool (decide (a = c ∧ b = d))) w := by
  have u3 := Tryd.underlying3
  have a3 := Tryd.isAgg3
  have z3 := Tryd.sizeOf3
  have hS : Tryd.prog.underlying 23 = some (.struct (Tryd.prog.fieldsOf 23)) := by kernel_rfl
  have hp : Tryd.prog.stoodInHeld 23 = false := by kernel_rfl
  rw [run_eql_struct, show (10000 : Nat) = 9999 + 1 from rfl, run_equalIn_agg w 9999 23 _ _ hS hp]
  simp only [Program.fieldsOf, Tryd.underlying23]
  go_simp
  by_cases h1 : a = c <;> by_cases h2 : b = d <;> simp [h1, h2]
theorem eqDg (a b c d : Int) (op : BinOp) (x y : Operand) (w : World) : (eqGuard op 23 x y (.agg #[.int .i64 a, .int .i64 b]) (.agg #[.int .i64 c, .int .i64 d])).run Tryd.prog w = .ok () w :=
  run_eqGuard_agg w op _ x y _ _ (by kernel_rfl)

theorem sameE (a b c d : Int) (h : ¬ (a = c ∧ b = d ∧ a = b)) : ¬ (((a, b) : Int × Int) = (c, d) ∧ (a, b).1 = (a, b).2) := by
  intro ⟨h1, h2⟩
  injection h1 with h3 h4
  exact h ⟨h3, h4, h2⟩
/-- The boxes of two datings, and a world in which they stand. -/
theorem boxes2 {w w1 : World} {a b c d : Int} {t1 t2 : TypeId}
    (hb : Below ((w.alloc (.cells #[.int .i64 a, .int .i64 b] t1)).alloc (.cells #[.int .i64 c, .int .i64 d] t2)).heap.size ((w.alloc (.cells #[.int .i64 a, .int .i64 b] t1)).alloc (.cells #[.int .i64 c, .int .i64 d] t2)) w1) :
    w1.cell? ⟨w.heap.size, 0, none⟩ = some (.int .i64 a) ∧ w1.cell? ⟨w.heap.size, 1, none⟩ = some (.int .i64 b) ∧ w1.cell? ⟨w.heap.size + 1, 0, none⟩ = some (.int .i64 c) ∧ w1.cell? ⟨w.heap.size + 1, 1, none⟩ = some (.int .i64 d) := by
  generalize hW1 : w.alloc (.cells #[.int .i64 a, .int .i64 b] t1) = W1 at hb
  have s1 : W1.heap.size = w.heap.size + 1 := by rw [← hW1]; simp
  generalize hW2 : W1.alloc (.cells #[.int .i64 c, .int .i64 d] t2) = W2 at hb
  have s2 : W2.heap.size = W1.heap.size + 1 := by rw [← hW2]; simp
  have b1 : Below W1.heap.size W1 w1 := by
    have := (Below.refl W1.heap.size W1).alloc (Nat.le_refl _) (.cells #[.int .i64 c, .int .i64 d] t2)
    rw [hW2] at this
    exact this.trans (hb.mono (by omega))
  have e1 : ∀ o, w1.cell? ⟨w.heap.size, o, none⟩ = (#[.int .i64 a, .int .i64 b] : Array Value)[o]? := fun o => by
    rw [b1.cell (p := ⟨w.heap.size, o, none⟩) (by show w.heap.size < W1.heap.size; omega), ← hW1]; exact cell_new w _ _ o
  have e2 : ∀ o, w1.cell? ⟨w.heap.size + 1, o, none⟩ = (#[.int .i64 c, .int .i64 d] : Array Value)[o]? := fun o => by
    rw [hb.cell (p := ⟨w.heap.size + 1, o, none⟩) (by show w.heap.size + 1 < W2.heap.size; omega), ← hW2, ← s1]; exact cell_new W1 _ _ o
  exact ⟨e1 0, e1 1, e2 0, e2 1⟩
theorem after2 {w w1 : World} {o1 o2 : Obj} (hb : Below ((w.alloc o1).alloc o2).heap.size ((w.alloc o1).alloc o2) w1) : Below w.heap.size w w1 :=
  (((Below.refl _ w).alloc (Nat.le_refl _) o1).alloc (by simp) o2).trans (hb.mono (by simp; omega))

set_option maxHeartbeats 4000000 in
theorem Same_any (a b c d : Int) (w : World) :
    Calls Tryd.prog 14 #[.agg #[.int .i64 a, .int .i64 b], .agg #[.int .i64 c, .int .i64 d]] w (TwoW (samV (a, b) (c, d)) (befE (a, b) (c, d)) w) := by
  cases hg : (gd (a, b) && gd (c, d))
  · obtain ⟨_, e2, e1⟩ := bef_no hg
    rw [e1, e2]; clear e1 e2
    go_enter Tryd.func14, Tryd.ntmps14
    go_wp2_with fail
    refine (valid2 a b c d _ _ (by simp) _).mono ?_; rintro e w1 ⟨rfl, hb⟩; rw [hg]
    have hbel := after3 hb
    obtain ⟨k0, k1, k2, k3⟩ := boxes hb
    clear hb
    go_wp2
    go_ret2
    exact TwoW.mk rfl rfl hbel
  · rw [befE_yes hg]
    have q := eqD a b c d
    have qg := eqDg a b c d
    by_cases h1 : b < c
    · rw [sam_0 hg (Or.inl h1)]
      go_enter Tryd.func14, Tryd.ntmps14
      go_wp2_with fail
      refine (valid2 a b c d _ _ (by simp) _).mono ?_; rintro e w1 ⟨rfl, hb⟩; rw [hg]
      have hbel := after3 hb
      obtain ⟨k0, k1, k2, k3⟩ := boxes hb
      clear hb
      go_wp2
      go_ret2
      exact TwoW.mk rfl rfl hbel
    · by_cases h2 : d < a
      · rw [sam_0 hg (Or.inr h2)]
        go_enter Tryd.func14, Tryd.ntmps14
        go_wp2_with fail
        refine (valid2 a b c d _ _ (by simp) _).mono ?_; rintro e w1 ⟨rfl, hb⟩; rw [hg]
        have hbel := after3 hb
        obtain ⟨k0, k1, k2, k3⟩ := boxes hb
        clear hb
        go_wp2
        go_ret2
        exact TwoW.mk rfl rfl hbel
      · have h3 : ¬ ((a, b).2 < (c, d).1 ∨ (c, d).2 < (a, b).1) := by simp only; omega
        by_cases h4 : a = c ∧ b = d
        · rw [decide_eq_true h4] at q
          by_cases h5 : a = b
          · rw [sam_2 hg h3 ⟨by rw [h4.1, h4.2], h5⟩]
            have h6 : (a == b) = true := by simp [h5]
            clear h4 h5 h3
            go_enter Tryd.func14, Tryd.ntmps14
            go_wp2_with fail
            refine (valid2 a b c d _ _ (by simp) _).mono ?_; rintro e w1 ⟨rfl, hb⟩; rw [hg]
            have hbel := after3 hb
            obtain ⟨k0, k1, k2, k3⟩ := boxes hb
            clear hb
            go_wp2
            go_ret2
            exact TwoW.mk rfl rfl hbel
          · rw [sam_1 hg h3 (sameE a b c d (fun x => h5 x.2.2))]
            have h6 : (a == b) = false := by simp [h5]
            clear h4 h5 h3
            go_enter Tryd.func14, Tryd.ntmps14
            go_wp2_with fail
            refine (valid2 a b c d _ _ (by simp) _).mono ?_; rintro e w1 ⟨rfl, hb⟩; rw [hg]
            have hbel := after3 hb
            obtain ⟨k0, k1, k2, k3⟩ := boxes hb
            clear hb
            go_wp2
            go_ret2
            exact TwoW.mk rfl rfl hbel
        · rw [decide_eq_false h4] at q
          rw [sam_1 hg h3 (sameE a b c d (fun x => h4 ⟨x.1, x.2.1⟩))]
          clear h4 h3
          go_enter Tryd.func14, Tryd.ntmps14
          go_wp2_with fail
          refine (valid2 a b c d _ _ (by simp) _).mono ?_; rintro e w1 ⟨rfl, hb⟩; rw [hg]
          have hbel := after3 hb
          obtain ⟨k0, k1, k2, k3⟩ := boxes hb
          clear hb
          go_wp2
          go_ret2
          exact TwoW.mk rfl rfl hbel

set_option maxHeartbeats 4000000 in
theorem rBefore_any (a b c d : Int) (w : World) :
    Calls Tryd.prog 13 #[.agg #[.int .i64 a, .int .i64 b], .agg #[.int .i64 c, .int .i64 d]] w (TwoW (befV (a, b) (c, d)) (befE (a, b) (c, d)) w) := by
  cases g1 : gd (a, b)
  · obtain ⟨e1, e2, e3⟩ := bef_no (a := (a, b)) (b := (c, d)) (by rw [g1]; rfl)
    rw [e1, e2]; clear e1 e2 e3
    go_enter Tryd.func13, Tryd.ntmps13
    go_wp2_with fail
    refine (rGood_any a b _).mono ?_; rintro e w1 ⟨rfl, hb⟩; rw [g1]
    have hbel := after2 hb
    obtain ⟨k0, k1, k2, k3⟩ := boxes2 hb
    clear hb
    go_wp2
    go_ret2
    exact TwoW.mk rfl rfl hbel
  · cases g2 : gd (c, d)
    · obtain ⟨e1, e2, e3⟩ := bef_no (a := (a, b)) (b := (c, d)) (by rw [g1, g2]; rfl)
      rw [e1, e2]; clear e1 e2 e3
      go_enter Tryd.func13, Tryd.ntmps13
      go_wp2_with fail
      refine (rGood_any a b _).mono ?_; rintro e w1 ⟨rfl, hb⟩; rw [g1]
      have hbel := after2 hb
      obtain ⟨k0, k1, k2, k3⟩ := boxes2 hb
      clear hb
      go_wp2_with fail
      refine (rGood_any c d _).mono ?_; rintro e w2 ⟨rfl, hb2⟩; rw [g2]
      have hbel2 := hbel.trans (hb2.mono hbel.size)
      clear hb2
      go_wp2
      go_ret2
      exact TwoW.mk rfl rfl hbel2
    · have hg : (gd (a, b) && gd (c, d)) = true := by rw [g1, g2]; rfl
      rw [befE_yes hg]
      by_cases h1 : b < c
      · rw [bef_2 hg h1]
        go_enter Tryd.func13, Tryd.ntmps13
        go_wp2_with fail
        refine (rGood_any a b _).mono ?_; rintro e w1 ⟨rfl, hb⟩; rw [g1]
        have hbel := after2 hb
        obtain ⟨k0, k1, k2, k3⟩ := boxes2 hb
        clear hb
        have l1 : w.heap.size + 1 < w1.heap.size := by
          rcases Nat.lt_or_ge (w.heap.size + 1) w1.heap.size with h | h
          · exact h
          · simp [World.cell?, Array.getElem?_eq_none h] at k2
        go_wp2_with fail
        refine (rGood_any c d _).mono ?_; rintro e w2 ⟨rfl, hb2⟩; rw [g2]
        have hbel2 := hbel.trans (hb2.mono hbel.size)
        replace k0 := (hb2.cell (p := ⟨w.heap.size, 0, none⟩) (by show w.heap.size < _; omega)).trans k0
        replace k1 := (hb2.cell (p := ⟨w.heap.size, 1, none⟩) (by show w.heap.size < _; omega)).trans k1
        replace k2 := (hb2.cell (p := ⟨w.heap.size + 1, 0, none⟩) l1).trans k2
        replace k3 := (hb2.cell (p := ⟨w.heap.size + 1, 1, none⟩) l1).trans k3
        clear hb2
        go_wp2
        go_ret2
        exact TwoW.mk rfl rfl hbel2
      · by_cases h2 : d ≤ a
        · rw [bef_0 hg h1 h2]
          have h3 : ¬ a < d := by omega
          go_enter Tryd.func13, Tryd.ntmps13
          go_wp2_with fail
          refine (rGood_any a b _).mono ?_; rintro e w1 ⟨rfl, hb⟩; rw [g1]
          have hbel := after2 hb
          obtain ⟨k0, k1, k2, k3⟩ := boxes2 hb
          clear hb
          have l1 : w.heap.size + 1 < w1.heap.size := by
            rcases Nat.lt_or_ge (w.heap.size + 1) w1.heap.size with h | h
            · exact h
            · simp [World.cell?, Array.getElem?_eq_none h] at k2
          go_wp2_with fail
          refine (rGood_any c d _).mono ?_; rintro e w2 ⟨rfl, hb2⟩; rw [g2]
          have hbel2 := hbel.trans (hb2.mono hbel.size)
          replace k0 := (hb2.cell (p := ⟨w.heap.size, 0, none⟩) (by show w.heap.size < _; omega)).trans k0
          replace k1 := (hb2.cell (p := ⟨w.heap.size, 1, none⟩) (by show w.heap.size < _; omega)).trans k1
          replace k2 := (hb2.cell (p := ⟨w.heap.size + 1, 0, none⟩) l1).trans k2
          replace k3 := (hb2.cell (p := ⟨w.heap.size + 1, 1, none⟩) l1).trans k3
          clear hb2
          go_wp2
          go_ret2
          exact TwoW.mk rfl rfl hbel2
        · rw [bef_1 hg h1 h2]
          have h3 : a < d := by omega
          go_enter Tryd.func13, Tryd.ntmps13
          go_wp2_with fail
          refine (rGood_any a b _).mono ?_; rintro e w1 ⟨rfl, hb⟩; rw [g1]
          have hbel := after2 hb
          obtain ⟨k0, k1, k2, k3⟩ := boxes2 hb
          clear hb
          have l1 : w.heap.size + 1 < w1.heap.size := by
            rcases Nat.lt_or_ge (w.heap.size + 1) w1.heap.size with h | h
            · exact h
            · simp [World.cell?, Array.getElem?_eq_none h] at k2
          go_wp2_with fail
          refine (rGood_any c d _).mono ?_; rintro e w2 ⟨rfl, hb2⟩; rw [g2]
          have hbel2 := hbel.trans (hb2.mono hbel.size)
          replace k0 := (hb2.cell (p := ⟨w.heap.size, 0, none⟩) (by show w.heap.size < _; omega)).trans k0
          replace k1 := (hb2.cell (p := ⟨w.heap.size, 1, none⟩) (by show w.heap.size < _; omega)).trans k1
          replace k2 := (hb2.cell (p := ⟨w.heap.size + 1, 0, none⟩) l1).trans k2
          replace k3 := (hb2.cell (p := ⟨w.heap.size + 1, 1, none⟩) l1).trans k3
          clear hb2
          go_wp2
          go_ret2
          exact TwoW.mk rfl rfl hbel2

set_option maxHeartbeats 4000000 in
theorem rSame_any (a b c d : Int) (w : World) :
    Calls Tryd.prog 15 #[.agg #[.int .i64 a, .int .i64 b], .agg #[.int .i64 c, .int .i64 d]] w (TwoW (samV (a, b) (c, d)) (befE (a, b) (c, d)) w) := by
  cases g1 : gd (a, b)
  · obtain ⟨e1, e2, e3⟩ := bef_no (a := (a, b)) (b := (c, d)) (by rw [g1]; rfl)
    rw [e3, e2]; clear e1 e2 e3
    go_enter Tryd.func15, Tryd.ntmps15
    go_wp2_with fail
    refine (rGood_any a b _).mono ?_; rintro e w1 ⟨rfl, hb⟩; rw [g1]
    have hbel := after2 hb
    obtain ⟨k0, k1, k2, k3⟩ := boxes2 hb
    clear hb
    go_wp2
    go_ret2
    exact TwoW.mk rfl rfl hbel
  · cases g2 : gd (c, d)
    · obtain ⟨e1, e2, e3⟩ := bef_no (a := (a, b)) (b := (c, d)) (by rw [g1, g2]; rfl)
      rw [e3, e2]; clear e1 e2 e3
      go_enter Tryd.func15, Tryd.ntmps15
      go_wp2_with fail
      refine (rGood_any a b _).mono ?_; rintro e w1 ⟨rfl, hb⟩; rw [g1]
      have hbel := after2 hb
      obtain ⟨k0, k1, k2, k3⟩ := boxes2 hb
      clear hb
      go_wp2_with fail
      refine (rGood_any c d _).mono ?_; rintro e w2 ⟨rfl, hb2⟩; rw [g2]
      have hbel2 := hbel.trans (hb2.mono hbel.size)
      clear hb2
      go_wp2
      go_ret2
      exact TwoW.mk rfl rfl hbel2
    · have hg : (gd (a, b) && gd (c, d)) = true := by rw [g1, g2]; rfl
      rw [befE_yes hg]
      have q := eqD a b c d
      have qg := eqDg a b c d
      by_cases h1 : b < c
      · rw [sam_0 hg (Or.inl h1)]
        go_enter Tryd.func15, Tryd.ntmps15
        go_wp2_with fail
        refine (rGood_any a b _).mono ?_; rintro e w1 ⟨rfl, hb⟩; rw [g1]
        have hbel := after2 hb
        obtain ⟨k0, k1, k2, k3⟩ := boxes2 hb
        clear hb
        have l1 : w.heap.size + 1 < w1.heap.size := by
          rcases Nat.lt_or_ge (w.heap.size + 1) w1.heap.size with h | h
          · exact h
          · simp [World.cell?, Array.getElem?_eq_none h] at k2
        go_wp2_with fail
        refine (rGood_any c d _).mono ?_; rintro e w2 ⟨rfl, hb2⟩; rw [g2]
        have hbel2 := hbel.trans (hb2.mono hbel.size)
        replace k0 := (hb2.cell (p := ⟨w.heap.size, 0, none⟩) (by show w.heap.size < _; omega)).trans k0
        replace k1 := (hb2.cell (p := ⟨w.heap.size, 1, none⟩) (by show w.heap.size < _; omega)).trans k1
        replace k2 := (hb2.cell (p := ⟨w.heap.size + 1, 0, none⟩) l1).trans k2
        replace k3 := (hb2.cell (p := ⟨w.heap.size + 1, 1, none⟩) l1).trans k3
        clear hb2
        go_wp2
        go_ret2
        exact TwoW.mk rfl rfl hbel2
      · by_cases h2 : d < a
        · rw [sam_0 hg (Or.inr h2)]
          go_enter Tryd.func15, Tryd.ntmps15
          go_wp2_with fail
          refine (rGood_any a b _).mono ?_; rintro e w1 ⟨rfl, hb⟩; rw [g1]
          have hbel := after2 hb
          obtain ⟨k0, k1, k2, k3⟩ := boxes2 hb
          clear hb
          have l1 : w.heap.size + 1 < w1.heap.size := by
            rcases Nat.lt_or_ge (w.heap.size + 1) w1.heap.size with h | h
            · exact h
            · simp [World.cell?, Array.getElem?_eq_none h] at k2
          go_wp2_with fail
          refine (rGood_any c d _).mono ?_; rintro e w2 ⟨rfl, hb2⟩; rw [g2]
          have hbel2 := hbel.trans (hb2.mono hbel.size)
          replace k0 := (hb2.cell (p := ⟨w.heap.size, 0, none⟩) (by show w.heap.size < _; omega)).trans k0
          replace k1 := (hb2.cell (p := ⟨w.heap.size, 1, none⟩) (by show w.heap.size < _; omega)).trans k1
          replace k2 := (hb2.cell (p := ⟨w.heap.size + 1, 0, none⟩) l1).trans k2
          replace k3 := (hb2.cell (p := ⟨w.heap.size + 1, 1, none⟩) l1).trans k3
          clear hb2
          go_wp2
          go_ret2
          exact TwoW.mk rfl rfl hbel2
        · have h3 : ¬ ((a, b).2 < (c, d).1 ∨ (c, d).2 < (a, b).1) := by simp only; omega
          by_cases h4 : a = c ∧ b = d
          · rw [decide_eq_true h4] at q
            by_cases h5 : a = b
            · rw [sam_2 hg h3 ⟨by rw [h4.1, h4.2], h5⟩]
              have h6 : (a == b) = true := by simp [h5]
              clear h4 h5 h3
              go_enter Tryd.func15, Tryd.ntmps15
              go_wp2_with fail
              refine (rGood_any a b _).mono ?_; rintro e w1 ⟨rfl, hb⟩; rw [g1]
              have hbel := after2 hb
              obtain ⟨k0, k1, k2, k3⟩ := boxes2 hb
              clear hb
              have l1 : w.heap.size + 1 < w1.heap.size := by
                rcases Nat.lt_or_ge (w.heap.size + 1) w1.heap.size with h | h
                · exact h
                · simp [World.cell?, Array.getElem?_eq_none h] at k2
              go_wp2_with fail
              refine (rGood_any c d _).mono ?_; rintro e w2 ⟨rfl, hb2⟩; rw [g2]
              have hbel2 := hbel.trans (hb2.mono hbel.size)
              replace k0 := (hb2.cell (p := ⟨w.heap.size, 0, none⟩) (by show w.heap.size < _; omega)).trans k0
              replace k1 := (hb2.cell (p := ⟨w.heap.size, 1, none⟩) (by show w.heap.size < _; omega)).trans k1
              replace k2 := (hb2.cell (p := ⟨w.heap.size + 1, 0, none⟩) l1).trans k2
              replace k3 := (hb2.cell (p := ⟨w.heap.size + 1, 1, none⟩) l1).trans k3
              clear hb2
              go_wp2
              go_ret2
              exact TwoW.mk rfl rfl hbel2
            · rw [sam_1 hg h3 (sameE a b c d (fun x => h5 x.2.2))]
              have h6 : (a == b) = false := by simp [h5]
              clear h4 h5 h3
              go_enter Tryd.func15, Tryd.ntmps15
              go_wp2_with fail
              refine (rGood_any a b _).mono ?_; rintro e w1 ⟨rfl, hb⟩; rw [g1]
              have hbel := after2 hb
              obtain ⟨k0, k1, k2, k3⟩ := boxes2 hb
              clear hb
              have l1 : w.heap.size + 1 < w1.heap.size := by
                rcases Nat.lt_or_ge (w.heap.size + 1) w1.heap.size with h | h
                · exact h
                · simp [World.cell?, Array.getElem?_eq_none h] at k2
              go_wp2_with fail
              refine (rGood_any c d _).mono ?_; rintro e w2 ⟨rfl, hb2⟩; rw [g2]
              have hbel2 := hbel.trans (hb2.mono hbel.size)
              replace k0 := (hb2.cell (p := ⟨w.heap.size, 0, none⟩) (by show w.heap.size < _; omega)).trans k0
              replace k1 := (hb2.cell (p := ⟨w.heap.size, 1, none⟩) (by show w.heap.size < _; omega)).trans k1
              replace k2 := (hb2.cell (p := ⟨w.heap.size + 1, 0, none⟩) l1).trans k2
              replace k3 := (hb2.cell (p := ⟨w.heap.size + 1, 1, none⟩) l1).trans k3
              clear hb2
              go_wp2
              go_ret2
              exact TwoW.mk rfl rfl hbel2
          · rw [decide_eq_false h4] at q
            rw [sam_1 hg h3 (sameE a b c d (fun x => h4 ⟨x.1, x.2.1⟩))]
            clear h4 h3
            go_enter Tryd.func15, Tryd.ntmps15
            go_wp2_with fail
            refine (rGood_any a b _).mono ?_; rintro e w1 ⟨rfl, hb⟩; rw [g1]
            have hbel := after2 hb
            obtain ⟨k0, k1, k2, k3⟩ := boxes2 hb
            clear hb
            have l1 : w.heap.size + 1 < w1.heap.size := by
              rcases Nat.lt_or_ge (w.heap.size + 1) w1.heap.size with h | h
              · exact h
              · simp [World.cell?, Array.getElem?_eq_none h] at k2
            go_wp2_with fail
            refine (rGood_any c d _).mono ?_; rintro e w2 ⟨rfl, hb2⟩; rw [g2]
            have hbel2 := hbel.trans (hb2.mono hbel.size)
            replace k0 := (hb2.cell (p := ⟨w.heap.size, 0, none⟩) (by show w.heap.size < _; omega)).trans k0
            replace k1 := (hb2.cell (p := ⟨w.heap.size, 1, none⟩) (by show w.heap.size < _; omega)).trans k1
            replace k2 := (hb2.cell (p := ⟨w.heap.size + 1, 0, none⟩) l1).trans k2
            replace k3 := (hb2.cell (p := ⟨w.heap.size + 1, 1, none⟩) l1).trans k3
            clear hb2
            go_wp2
            go_ret2
            exact TwoW.mk rfl rfl hbel2
end Go.Proofs.YtbllolalfmgfoaaDoor
