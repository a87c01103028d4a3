/- The relations of datings, and what two have in common. -/
import Derived.Test.YtbllolalfmgfoaaDoorDA
import Derived.Lib.Hide
namespace Go.Proofs.YtbllolalfmgfoaaDoor
open Go.RowKit Go.Shelf

def sel2 (a b : Int × Int) (j : Nat) : Int × Int := if j = 0 then a else b
def sel3 (a b c : Int × Int) (j : Nat) : Int × Int := if j = 0 then a else if j = 1 then b else c
theorem all2 (a b : Int × Int) : allGd (sel2 a b) 2 = (gd a && gd b) := by
  unfold allGd
  cases ha : gd a <;> cases hb : gd b
  · exact decide_eq_false (fun c => by have := c 0 (by omega); simp [sel2, ha] at this)
  · exact decide_eq_false (fun c => by have := c 0 (by omega); simp [sel2, ha] at this)
  · exact decide_eq_false (fun c => by have := c 1 (by omega); simp [sel2, hb] at this)
  · exact decide_eq_true (fun j hj => by
      match j, hj with
      | 0, _ => exact ha
      | 1, _ => exact hb
      | j + 2, hj => omega)
theorem all3 (a b c : Int × Int) : allGd (sel3 a b c) 3 = (gd a && (gd b && gd c)) := by
  unfold allGd
  cases ha : gd a
  · exact decide_eq_false (fun c => by have := c 0 (by omega); simp [sel3, ha] at this)
  · cases hb : gd b
    · exact decide_eq_false (fun c => by have := c 1 (by omega); simp [sel3, hb] at this)
    · cases hc : gd c
      · exact decide_eq_false (fun c => by have := c 2 (by omega); simp [sel3, hc] at this)
      · exact decide_eq_true (fun j hj => by
          match j, hj with
          | 0, _ => exact ha
          | 1, _ => exact hb
          | 2, _ => exact hc
          | j + 3, hj => omega)

theorem dats2 (a b : Int × Int) (w : World) (B : Nat) (hB : B = w.heap.size) (t : TypeId) :
    Dats (w.alloc (.cells #[.int .i64 a.1, .int .i64 a.2, .int .i64 b.1, .int .i64 b.2] t)) B 0 2 (sel2 a b) := by
  subst hB
  refine ⟨by simp, fun j hj => ?_⟩
  match j, hj with
  | 0, _ => exact ⟨by simp [sel2], by simp [sel2]⟩
  | 1, _ => exact ⟨by simp [sel2], by simp [sel2]⟩
  | j + 2, hj => omega
theorem dats3 (a b c : Int × Int) (w : World) (B : Nat) (hB : B = w.heap.size) (t : TypeId) :
    Dats (w.alloc (.cells #[.int .i64 a.1, .int .i64 a.2, .int .i64 b.1, .int .i64 b.2, .int .i64 c.1, .int .i64 c.2] t)) B 0 3 (sel3 a b c) := by
  subst hB
  refine ⟨by simp, fun j hj => ?_⟩
  match j, hj with
  | 0, _ => exact ⟨by simp [sel3], by simp [sel3]⟩
  | 1, _ => exact ⟨by simp [sel3], by simp [sel3]⟩
  | 2, _ => exact ⟨by simp [sel3], by simp [sel3]⟩
  | j + 3, hj => omega

/-- valid at two and at three datings that the caller has laid in a row. -/
theorem valid2 (a b c d : Int) (w : World) (B : Nat) (hB : B = w.heap.size) (t : TypeId) :
    Calls Tryd.prog 29 #[.slice (some ⟨B, 0, none⟩) 2 2] (w.alloc (.cells #[.int .i64 a, .int .i64 b, .int .i64 c, .int .i64 d] t))
      fun e w' => e = .returned (.bool (gd (a, b) && gd (c, d))) ∧ Below (w.heap.size + 1) (w.alloc (.cells #[.int .i64 a, .int .i64 b, .int .i64 c, .int .i64 d] t)) w' := by
  have h := valid_any B 0 2 2 _ _ (by omega) (dats2 (a, b) (c, d) w B hB t)
  rw [all2] at h
  simpa using h
theorem valid3 (a b c d x y : Int) (w : World) (B : Nat) (hB : B = w.heap.size) (t : TypeId) :
    Calls Tryd.prog 29 #[.slice (some ⟨B, 0, none⟩) 3 3] (w.alloc (.cells #[.int .i64 a, .int .i64 b, .int .i64 c, .int .i64 d, .int .i64 x, .int .i64 y] t))
      fun e w' => e = .returned (.bool (gd (a, b) && (gd (c, d) && gd (x, y)))) ∧ Below (w.heap.size + 1) (w.alloc (.cells #[.int .i64 a, .int .i64 b, .int .i64 c, .int .i64 d, .int .i64 x, .int .i64 y] t)) w' := by
  have h := valid_any B 0 3 3 _ _ (by omega) (dats3 (a, b) (c, d) (x, y) w B hB t)
  rw [all3] at h
  simpa using h

/-- The relation before: the number and the error. -/
def befV (a b : Int × Int) : Int := if gd a && gd b then (if a.2 < b.1 then 2 else if b.2 ≤ a.1 then 0 else 1) else 0
def befE (a b : Int × Int) : Int := if gd a && gd b then 0 else 1
def samV (a b : Int × Int) : Int := if gd a && gd b then (if a.2 < b.1 ∨ b.2 < a.1 then 0 else if a = b ∧ a.1 = a.2 then 2 else 1) else 0

def TwoW (v x : Int) (w : World) (e : Ending) (w' : World) : Prop := e = .returned (.tuple #[.int .i64 v, .int .i64 x]) ∧ Below w.heap.size w w'
theorem TwoW.mk {v x a b : Int} {w w' : World} (h : a = v) (k : b = x) (hb : Below w.heap.size w w') : TwoW v x w (.returned (.tuple #[.int .i64 a, .int .i64 b])) w' := ⟨by rw [h, k], hb⟩

/-- Behind two boxes and a row. -/
theorem after3 {w w1 : World} {o1 o2 o3 : Obj} (hb : Below (((w.alloc o1).alloc o2).heap.size + 1) (((w.alloc o1).alloc o2).alloc o3) w1) : Below w.heap.size w w1 :=
  ((((Below.refl _ w).alloc (Nat.le_refl _) o1).alloc (by simp) o2).alloc (by simp; omega) o3).trans (hb.mono (by simp; omega))
theorem cell_new (w : World) (cs : Array Value) (t : TypeId) (o : Nat) : (w.alloc (.cells cs t)).cell? ⟨w.heap.size, o, none⟩ = cs[o]? :=
  World.cell?_alloc_mark w _ t (0, 0) o
theorem boxes {w w1 : World} {a b c d : Int} {t1 t2 : TypeId} {o3 : Obj}
    (hb : Below (((w.alloc (.cells #[.int .i64 a, .int .i64 b] t1)).alloc (.cells #[.int .i64 c, .int .i64 d] t2)).heap.size + 1) (((w.alloc (.cells #[.int .i64 a, .int .i64 b] t1)).alloc (.cells #[.int .i64 c, .int .i64 d] t2)).alloc o3) w1) :
    w1.cell? ⟨w.heap.size, 0, none⟩ = some (.int .i64 a) ∧ w1.cell? ⟨w.heap.size, 1, none⟩ = some (.int .i64 b) ∧ w1.cell? ⟨w.heap.size + 1, 0, none⟩ = some (.int .i64 c) ∧ w1.cell? ⟨w.heap.size + 1, 1, none⟩ = some (.int .i64 d) := by
  generalize hW1 : w.alloc (.cells #[.int .i64 a, .int .i64 b] t1) = W1 at hb
  have s1 : W1.heap.size = w.heap.size + 1 := by rw [← hW1]; simp
  generalize hW2 : W1.alloc (.cells #[.int .i64 c, .int .i64 d] t2) = W2 at hb
  have s2 : W2.heap.size = W1.heap.size + 1 := by rw [← hW2]; simp
  have b2 : Below W2.heap.size W2 w1 := ((Below.refl _ W2).alloc (Nat.le_refl _) o3).trans (hb.mono (by omega))
  have b1 : Below W1.heap.size W1 w1 := by
    have := (Below.refl W1.heap.size W1).alloc (Nat.le_refl _) (.cells #[.int .i64 c, .int .i64 d] t2)
    rw [hW2] at this
    exact this.trans (b2.mono (by omega))
  have e1 : ∀ o, w1.cell? ⟨w.heap.size, o, none⟩ = (#[.int .i64 a, .int .i64 b] : Array Value)[o]? := fun o => by
    rw [b1.cell (p := ⟨w.heap.size, o, none⟩) (by show w.heap.size < W1.heap.size; omega), ← hW1]; exact cell_new w _ _ o
  have e2 : ∀ o, w1.cell? ⟨w.heap.size + 1, o, none⟩ = (#[.int .i64 c, .int .i64 d] : Array Value)[o]? := fun o => by
    rw [b2.cell (p := ⟨w.heap.size + 1, o, none⟩) (by show w.heap.size + 1 < W2.heap.size; omega), ← hW2, ← s1]; exact cell_new W1 _ _ o
  exact ⟨e1 0, e1 1, e2 0, e2 1⟩

theorem bef_no {a b : Int × Int} (h : (gd a && gd b) = false) : befV a b = 0 ∧ befE a b = 1 ∧ samV a b = 0 := by unfold befV befE samV; rw [h]; exact ⟨rfl, rfl, rfl⟩
theorem befE_yes {a b : Int × Int} (h : (gd a && gd b) = true) : befE a b = 0 := by unfold befE; rw [h]; rfl
theorem bef_2 {a b : Int × Int} (h : (gd a && gd b) = true) (h1 : a.2 < b.1) : befV a b = 2 := by unfold befV; rw [h, if_pos rfl, if_pos h1]
theorem bef_0 {a b : Int × Int} (h : (gd a && gd b) = true) (h1 : ¬ a.2 < b.1) (h2 : b.2 ≤ a.1) : befV a b = 0 := by unfold befV; rw [h, if_pos rfl, if_neg h1, if_pos h2]
theorem bef_1 {a b : Int × Int} (h : (gd a && gd b) = true) (h1 : ¬ a.2 < b.1) (h2 : ¬ b.2 ≤ a.1) : befV a b = 1 := by unfold befV; rw [h, if_pos rfl, if_neg h1, if_neg h2]
theorem sam_0 {a b : Int × Int} (h : (gd a && gd b) = true) (h1 : a.2 < b.1 ∨ b.2 < a.1) : samV a b = 0 := by unfold samV; rw [h, if_pos rfl, if_pos h1]
theorem sam_2 {a b : Int × Int} (h : (gd a && gd b) = true) (h1 : ¬ (a.2 < b.1 ∨ b.2 < a.1)) (h2 : a = b ∧ a.1 = a.2) : samV a b = 2 := by unfold samV; rw [h, if_pos rfl, if_neg h1, if_pos h2]
theorem sam_1 {a b : Int × Int} (h : (gd a && gd b) = true) (h1 : ¬ (a.2 < b.1 ∨ b.2 < a.1)) (h2 : ¬ (a = b ∧ a.1 = a.2)) : samV a b = 1 := by unfold samV; rw [h, if_pos rfl, if_neg h1, if_neg h2]

set_option maxHeartbeats 2000000 in
theorem Before_any (a b c d : Int) (w : World) :
    Calls Tryd.prog 12 #[.agg #[.int .i64 a, .int .i64 b], .agg #[.int .i64 c, .int .i64 d]] w (TwoW (befV (a, b) (c, d)) (befE (a, b) (c, d)) w) := by
  cases hg : (gd (a, b) && gd (c, d))
  · obtain ⟨e1, e2, _⟩ := bef_no hg
    rw [e1, e2]; clear e1 e2
    go_enter Tryd.func12, Tryd.ntmps12
    go_wp2_with fail
    refine (valid2 a b c d _ _ (by simp) _).mono ?_; rintro e w1 ⟨rfl, hb⟩; rw [hg]
    have hbel := after3 hb
    clear hb
    go_wp2
    go_ret2
    exact TwoW.mk rfl rfl hbel
  · rw [befE_yes hg]
    by_cases h1 : b < c
    · rw [bef_2 hg h1]
      go_enter Tryd.func12, Tryd.ntmps12
      go_wp2_with fail
      refine (valid2 a b c d _ _ (by simp) _).mono ?_; rintro e w1 ⟨rfl, hb⟩; rw [hg]
      have hbel := after3 hb
      obtain ⟨k0, k1, k2, k3⟩ := boxes hb
      clear hb
      go_wp2
      go_ret2
      exact TwoW.mk rfl rfl hbel
    · by_cases h2 : d ≤ a
      · rw [bef_0 hg h1 h2]
        have h3 : ¬ a < d := by omega
        go_enter Tryd.func12, Tryd.ntmps12
        go_wp2_with fail
        refine (valid2 a b c d _ _ (by simp) _).mono ?_; rintro e w1 ⟨rfl, hb⟩; rw [hg]
        have hbel := after3 hb
        obtain ⟨k0, k1, k2, k3⟩ := boxes hb
        clear hb
        go_wp2
        go_ret2
        exact TwoW.mk rfl rfl hbel
      · rw [bef_1 hg h1 h2]
        have h3 : a < d := by omega
        go_enter Tryd.func12, Tryd.ntmps12
        go_wp2_with fail
        refine (valid2 a b c d _ _ (by simp) _).mono ?_; rintro e w1 ⟨rfl, hb⟩; rw [hg]
        have hbel := after3 hb
        obtain ⟨k0, k1, k2, k3⟩ := boxes hb
        clear hb
        go_wp2
        go_ret2
        exact TwoW.mk rfl rfl hbel
end Go.Proofs.YtbllolalfmgfoaaDoor
