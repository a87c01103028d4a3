/- CodeTotal. -/
import Derived.Test.YtnjnjcgbdhiigaaGreatDoorDA
namespace Go.Proofs.YtnjnjcgbdhiigaaGreatDoor
open Go.RowKit Go.Shelf

/-- The four comparisons, and what the law makes of them. -/
def Bad4 (x u e g : Int) : Prop := (e = 3 ∧ x = 0 ∧ g = 3 ∧ u = 0) ∨ (e = 0 ∧ g = 3 ∧ u = 0) ∨ (e = 3 ∧ x = 0 ∧ g = 0)
structure Good4 (xa xb xc : Txt) (x y u v e f g h : Int) : Prop where
  gz : e = 0 ∧ f = 0 ∧ g = 0 ∧ h = 0
  gy : y = -x
  gx : x = -1 ∨ x = 0 ∨ x = 1
  gu : u = -1 ∨ u = 0 ∨ u = 1
  gv : x ≤ 0 → u ≤ 0 → v ≤ 0
  geq : x = 0 ↔ xa = xb
  gw : ∃ p q, (∀ W, Lw W → Calls Tryz.prog 20 #[.string xc.1, .string xa.1] W fun e w' => e = .returned (.bool p) ∧ Below W.heap.size W w') ∧ (∀ W, Lw W → Calls Tryz.prog 20 #[.string xb.1, .string xa.1] W fun e w' => e = .returned (.bool q) ∧ Below W.heap.size W w') ∧ (x ≤ 0 → u ≤ 0 → p = true → q = true)
def CmpC (a b : Txt) (x e : Int) : Prop := ∀ W, Lw W → Calls Tryz.prog 16 #[.string a.1, .string b.1] W fun z w' => z = .returned (.tuple #[.int .i64 x, .int .i64 e]) ∧ Below W.heap.size W w'
theorem str_ne {a b : Txt} (h : a ≠ b) : (a.1.toList == b.1.toList) = false := by
  rw [ByteArray.toList_eq, ByteArray.toList_eq, beq_eq_false_iff_ne]
  exact fun g => h (Txt.ext g)
end Go.Proofs.YtnjnjcgbdhiigaaGreatDoor
