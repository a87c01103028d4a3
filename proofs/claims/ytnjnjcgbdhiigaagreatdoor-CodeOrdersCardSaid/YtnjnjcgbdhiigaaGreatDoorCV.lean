/- Free. -/
import Derived.Test.YtnjnjcgbdhiigaaGreatDoorCU
namespace Go.Proofs.YtnjnjcgbdhiigaaGreatDoor
open Go.RowKit Go.Shelf

/-- Texts in memory. -/
def IsT (w : World) (v : Value) (ts : List Txt) : Prop := ∃ p : Option Addr, ∃ c : Nat, v = .slice p ts.length c ∧ ts.length ≤ c ∧ (0 < ts.length → ∃ g off, p = some ⟨g, off, none⟩ ∧ g < w.heap.size ∧ ∀ (j : Nat) x, ts[j]? = some x → w.cell? ⟨g, off + j, none⟩ = some (.string x.1))
theorem IsT.below {w w' : World} {v : Value} {ts : List Txt} (h : IsT w v ts) (hb : Below w.heap.size w w') : IsT w' v ts := by
  obtain ⟨p, c, h1, h2, h3⟩ := h
  refine ⟨p, c, h1, h2, fun h0 => ?_⟩
  obtain ⟨g, off, e, hg, hc⟩ := h3 h0
  exact ⟨g, off, e, Nat.lt_of_lt_of_le hg hb.size, fun j x hj => (hb.cell (p := ⟨g, off + j, none⟩) hg).trans (hc j x hj)⟩
theorem begins_nil (v : Value) (ns : List Nat) (w : World) (h1 : IsN w v ns) :
    Calls Tryz.prog 42 #[v, .slice none 0 0] w fun e w' => e = .returned (.bool (wiL ns [])) ∧ Below w.heap.size w w' := by
  obtain ⟨g, off, c, rfl, _, hc, c1⟩ := h1
  have W : wiL ns [] = true := decide_eq_true ⟨Nat.zero_le _, rfl⟩
  have EQ := Lib.hid (Any.slices_Equal_int_empty Tryz.lays111 (some ⟨g, off, none⟩) none c 0 0 w (by decide))
  rw [W]
  clear c1
  go_enter Tryz.func42, Tryz.ntmps42
  go_wp2_with fail
  refine EQ.out.mono ?_; rintro e w1 ⟨rfl, rfl⟩
  go_wp2_with fail
  go_ret
  exact ⟨rfl, Below.refl _ _⟩
/-- The marks. -/
structure Us (G : Nat) (u : Nat → Bool) (w : World) : Prop where
  row : ∃ C : Array Value, w.heap[G]? = some (.cells C 56 (0, 0)) ∧ C.size = 1000 ∧ ∀ j, j < 1000 → C[j]? = some (.bool (u j))
theorem Us.lt {G : Nat} {u : Nat → Bool} {w : World} (h : Us G u w) : G < w.heap.size := by
  obtain ⟨C, h1, _⟩ := h.row
  exact (Array.getElem?_eq_some_iff.1 h1).1
theorem Us.kept {G : Nat} {u : Nat → Bool} {w w' : World} (h : Us G u w) (k : w'.heap[G]? = w.heap[G]?) : Us G u w' := by
  obtain ⟨C, h1, h2⟩ := h.row
  exact ⟨C, k.trans h1, h2⟩
theorem Us.below {G : Nat} {u : Nat → Bool} {w w' : World} (h : Us G u w) (hb : Below w.heap.size w w') : Us G u w' := h.kept (hb.block G h.lt)
theorem Us.cell {G : Nat} {u : Nat → Bool} {w : World} (h : Us G u w) (j : Nat) (hj : j < 1000) : w.cell? ⟨G, j, none⟩ = some (.bool (u j)) := by
  obtain ⟨C, h1, _, h3⟩ := h.row
  simp [World.cell?, h1, h3 j hj]
theorem Us.free {G : Nat} {u : Nat → Bool} {w : World} (h : Us G u w) (j : Nat) : w.frozen? ⟨G, j, none⟩ = false := by
  obtain ⟨C, h1, _, h3⟩ := h.row
  simp [World.frozen?, h1]
theorem Us.set {G : Nat} {u : Nat → Bool} {w : World} (h : Us G u w) (i : Nat) (hi : i < 1000) : Us G (fun j => u j || decide (j = i)) (w.setCell ⟨G, i, none⟩ (.bool true)) := by
  obtain ⟨C, h1, h2, h3⟩ := h.row
  have hG := (Array.getElem?_eq_some_iff.1 h1).1
  refine ⟨C.setIfInBounds i (.bool true), ?_, by simp [h2], fun j hj => ?_⟩
  · simp [World.setCell, Array.getElem?_modify, h1]
  · rw [Array.getElem?_setIfInBounds]
    by_cases e : i = j
    · subst e
      simp [h2, hi]
    · rw [if_neg e, h3 j hj]
      simp [Ne.symm e]
theorem zeros : Tryz.zeroCells56 = Array.replicate 1000 (.bool false) := by kernel_rfl
theorem Us.new (w : World) : Us w.heap.size (fun _ => false) (w.alloc (.cells Tryz.zeroCells56 56)) :=
  ⟨_, World.alloc_heap_new w _, by rw [zeros]; simp, fun j hj => by rw [zeros]; simp [hj]⟩
end Go.Proofs.YtnjnjcgbdhiigaaGreatDoor
