/- The order of codes: the mathematics. -/
import Derived.Test.YtnjnjcgbdhiigaaGreatDoorCZ
namespace Go.Proofs.YtnjnjcgbdhiigaaGreatDoor
open Go.RowKit Go.Shelf

theorem cmpL_rng : ∀ x y : List Nat, cmpL x y = -1 ∨ cmpL x y = 0 ∨ cmpL x y = 1
  | [], [] => Or.inr (Or.inl rfl)
  | [], _ :: _ => Or.inl rfl
  | _ :: _, [] => Or.inr (Or.inr rfl)
  | a :: x, b :: y => by
    unfold cmpL
    split
    · exact Or.inl rfl
    · split
      · exact Or.inr (Or.inr rfl)
      · exact cmpL_rng x y
theorem cmpL_anti : ∀ x y : List Nat, cmpL y x = - cmpL x y
  | [], [] => rfl
  | [], _ :: _ => rfl
  | _ :: _, [] => rfl
  | a :: x, b :: y => by
    have ih := cmpL_anti x y
    unfold cmpL
    rcases Nat.lt_trichotomy a b with h | h | h
    · rw [if_neg (by omega), if_pos h, if_pos h]; rfl
    · rw [if_neg (by omega), if_neg (by omega), if_neg (by omega), if_neg (by omega)]; exact ih
    · rw [if_pos h, if_neg (by omega), if_pos h]
theorem cmpL_zero : ∀ {x y : List Nat}, cmpL x y = 0 → x = y
  | [], [], _ => rfl
  | [], _ :: _, h => by cases h
  | _ :: _, [], h => by cases h
  | a :: x, b :: y, h => by
    unfold cmpL at h
    rcases Nat.lt_trichotomy a b with g | g | g
    · rw [if_pos g] at h; cases h
    · rw [if_neg (by omega), if_neg (by omega)] at h
      rw [g, cmpL_zero h]
    · rw [if_neg (by omega), if_pos g] at h; cases h
theorem cmpL_self : ∀ x : List Nat, cmpL x x = 0
  | [] => rfl
  | a :: x => by unfold cmpL; rw [if_neg (by omega), if_neg (by omega)]; exact cmpL_self x
theorem cmpL_trans : ∀ x y z : List Nat, cmpL x y ≤ 0 → cmpL y z ≤ 0 → cmpL x z ≤ 0
  | [], _, [], _, _ => by decide
  | [], _, _ :: _, _, _ => by show (-1 : Int) ≤ 0; decide
  | _ :: _, [], _, h, _ => absurd h (by show ¬ (1 : Int) ≤ 0; decide)
  | _ :: _, _ :: _, [], _, h => absurd h (by show ¬ (1 : Int) ≤ 0; decide)
  | a :: x, b :: y, c :: z, h, g => by
    have ih := cmpL_trans x y z
    unfold cmpL at h g ⊢
    rcases Nat.lt_trichotomy a b with p | p | p <;> rcases Nat.lt_trichotomy b c with q | q | q
    · rw [if_pos (by omega)]; decide
    · rw [if_pos (by omega)]; decide
    · rw [if_neg (by omega), if_pos q] at g; exact absurd g (by decide)
    · rw [if_pos (by omega)]; decide
    · rw [if_neg (by omega), if_neg (by omega)] at h g ⊢; exact ih h g
    · rw [if_neg (by omega), if_pos q] at g; exact absurd g (by decide)
    · rw [if_neg (by omega), if_pos p] at h; exact absurd h (by decide)
    · rw [if_neg (by omega), if_pos p] at h; exact absurd h (by decide)
    · rw [if_neg (by omega), if_pos p] at h; exact absurd h (by decide)
theorem wi_iff {ns ms : List Nat} : wiL ns ms = true ↔ ms <+: ns := by
  unfold wiL
  rw [decide_eq_true_eq]
  constructor
  · rintro ⟨_, h2⟩; rw [← h2]; exact List.take_prefix _ _
  · intro h; exact ⟨h.length_le, (List.prefix_iff_eq_take.1 h).symm⟩
/-- What lies between a code and one within it is within it. -/
theorem wi_mid : ∀ x y z : List Nat, cmpL x y ≤ 0 → cmpL y z ≤ 0 → x <+: z → x <+: y
  | [], _, _, _, _, _ => List.nil_prefix
  | _ :: _, [], _, h, _, _ => absurd h (by show ¬ (1 : Int) ≤ 0; decide)
  | _ :: _, _ :: _, [], _, _, p => by simp at p
  | a :: x, b :: y, c :: z, h, g, p => by
    obtain ⟨rfl, p2⟩ := List.cons_prefix_cons.1 p
    unfold cmpL at h g
    rcases Nat.lt_trichotomy a b with q | q | q
    · rw [if_neg (by omega), if_pos q] at g; exact absurd g (by decide)
    · subst q
      rw [if_neg (by omega), if_neg (by omega)] at h g
      exact List.cons_prefix_cons.2 ⟨rfl, wi_mid x y z h g p2⟩
    · rw [if_neg (by omega), if_pos q] at h; exact absurd h (by decide)
theorem Txt.ext {a b : Txt} (h : bts a = bts b) : a = b := Subtype.ext ((eq_bytes _ _).2 h)
theorem cmpOk (a b : Txt) {ns ms : List Nat} (ha : PR (bts a) ns) (hb : PR (bts b) ms) (w : World) (hw : Lw w) : Calls Tryz.prog 16 #[.string a.1, .string b.1] w fun e w' => e = .returned (.tuple #[.int .i64 (cmpL ns ms), .int .i64 0]) ∧ Below w.heap.size w w' := by
  refine (Compare_any a b w hw).mono ?_
  rintro e w' ⟨⟨x, y, h1, h2, rfl⟩ | ⟨h, _⟩, b⟩
  · obtain rfl := h1.one ha
    obtain rfl := h2.one hb
    exact ⟨rfl, b⟩
  · rcases h with h | h
    · exact absurd ha (h _)
    · exact absurd hb (h _)
theorem cmpBad (a b : Txt) (h : (∀ ns, ¬ PR (bts a) ns) ∨ (∀ ms, ¬ PR (bts b) ms)) (w : World) (hw : Lw w) : Calls Tryz.prog 16 #[.string a.1, .string b.1] w fun e w' => e = .returned (.tuple #[.int .i64 0, .int .i64 3]) ∧ Below w.heap.size w w' := by
  refine (Compare_any a b w hw).mono ?_
  rintro e w' ⟨⟨x, y, h1, h2, rfl⟩ | ⟨_, rfl⟩, b⟩
  · rcases h with h | h
    · exact absurd h1 (h _)
    · exact absurd h2 (h _)
  · exact ⟨rfl, b⟩
theorem witOk (a b : Txt) {ns ms : List Nat} (ha : PR (bts a) ns) (hb : PR (bts b) ms) (w : World) (hw : Lw w) : Calls Tryz.prog 20 #[.string a.1, .string b.1] w fun e w' => e = .returned (.bool (wiL ns ms)) ∧ Below w.heap.size w w' := by
  refine (Within_any a b w hw).mono ?_
  rintro e w' ⟨⟨z, rfl, hz⟩, b⟩
  have : z = wiL ns ms := by
    rw [Bool.eq_iff_iff, hz]
    exact ⟨fun ⟨x, y, h1, h2, h⟩ => by rw [← h1.one ha, ← h2.one hb]; exact h, fun h => ⟨_, _, ha, hb, h⟩⟩
  rw [this]
  exact ⟨rfl, b⟩
end Go.Proofs.YtnjnjcgbdhiigaaGreatDoor
