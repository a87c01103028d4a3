/- CodeTree. -/
import Derived.Test.YtnjnjcgbdhiigaaGreatDoorDB
namespace Go.Proofs.YtnjnjcgbdhiigaaGreatDoor
open Go.RowKit Go.Shelf

/-- Of the code a, or one above it, among the first ones, is b. -/
def WB (a b : List UInt8) : Prop := ∃ ns ms, PR a ns ∧ PR b ms ∧ wiL ns ms = true
theorem cmpL_drop : ∀ x : List Nat, x ≠ [] → cmpL x.dropLast x = -1
  | [], h => absurd rfl h
  | [_], _ => rfl
  | a :: b :: x, _ => by
    have ih := cmpL_drop (b :: x) (by simp)
    show cmpL (a :: (b :: x).dropLast) (a :: b :: x) = -1
    unfold cmpL
    rw [if_neg (by omega), if_neg (by omega)]
    exact ih
theorem drop_take {l : List Nat} {i : Nat} (h : i ≤ l.length) : (l.take i).dropLast = l.take (i - 1) := by
  rw [List.dropLast_eq_take, List.take_take, List.length_take]
  congr 1; omega
/-- The loop's state behind k rounds: going on, or done. -/
structure Go1 (a b : List UInt8) (k : Nat) (t : Txt) (z : Bool) (ns : List Nat) : Prop where
  pa : PR a ns
  lt : k < ns.length
  pt : PR (bts t) (ns.take (ns.length - k))
  z : z = true ↔ ∃ m, ns.length - k < m ∧ m ≤ ns.length ∧ PR b (ns.take m)
def TS (a b : List UInt8) (k : Nat) (t : Txt) (z o : Bool) : Prop := k ≤ 6 ∧ ((o = true ∧ ∃ ns, Go1 a b k t z ns) ∨ (o = false ∧ (z = true ↔ WB a b)))
theorem wb_iff {a b : List UInt8} {ns : List Nat} (pa : PR a ns) : WB a b ↔ ∃ m, 0 < m ∧ m ≤ ns.length ∧ PR b (ns.take m) := by
  constructor
  · rintro ⟨xs, ms, h1, h2, h3⟩
    obtain rfl := h1.one pa
    have p := wi_iff.1 h3
    refine ⟨ms.length, h2.pos, p.length_le, ?_⟩
    rw [← List.prefix_iff_eq_take.1 p]; exact h2
  · rintro ⟨m, h1, h2, h3⟩
    exact ⟨ns, _, pa, h3, wi_iff.2 (List.take_prefix _ _)⟩
/-- What a round adds. -/
theorem Go1.or {a : List UInt8} {b : Txt} {k : Nat} {t : Txt} {z z' : Bool} {ns : List Nat} (h : Go1 a (bts b) k t z ns) (hz : z' = true ↔ z = true ∨ t = b) :
    z' = true ↔ ∃ m, ns.length - (k + 1) < m ∧ m ≤ ns.length ∧ PR (bts b) (ns.take m) := by
  rw [hz, h.z]
  have lt := h.lt
  constructor
  · rintro (⟨m, h1, h2, h3⟩ | rfl)
    · exact ⟨m, by omega, h2, h3⟩
    · exact ⟨ns.length - k, by omega, by omega, h.pt⟩
  · rintro ⟨m, h1, h2, h3⟩
    by_cases e : ns.length - k < m
    · exact Or.inl ⟨m, e, h2, h3⟩
    · obtain rfl : m = ns.length - k := by omega
      exact Or.inr (Txt.ext (h.pt.text h3))
theorem Go1.next {a : List UInt8} {b : Txt} {k : Nat} {t p : Txt} {z z' : Bool} {ns : List Nat} (h : Go1 a (bts b) k t z ns) (hz : z' = true ↔ z = true ∨ t = b)
    (h2 : 2 ≤ (ns.take (ns.length - k)).length) (hp : PR (bts p) (ns.take (ns.length - k)).dropLast) : TS a (bts b) (k + 1) p z' true := by
  have lt := h.lt
  rw [List.length_take] at h2
  have l6 := h.pa.len
  refine ⟨by omega, Or.inl ⟨rfl, ns, h.pa, by omega, ?_, h.or hz⟩⟩
  rw [drop_take (by omega)] at hp
  rwa [show ns.length - (k + 1) = ns.length - k - 1 by omega]
theorem Go1.last {a : List UInt8} {b : Txt} {k : Nat} {t p : Txt} {z z' : Bool} {ns : List Nat} (h : Go1 a (bts b) k t z ns) (hz : z' = true ↔ z = true ∨ t = b)
    (h1 : (ns.take (ns.length - k)).length = 1) : TS a (bts b) (k + 1) p z' false := by
  have lt := h.lt
  rw [List.length_take] at h1
  have l6 := h.pa.len
  refine ⟨by omega, Or.inr ⟨rfl, ?_⟩⟩
  rw [h.or hz, wb_iff h.pa]
  constructor
  · rintro ⟨m, g1, g2, g3⟩; exact ⟨m, by omega, g2, g3⟩
  · rintro ⟨m, g1, g2, g3⟩; exact ⟨m, by omega, g2, g3⟩
/-- Parent, once the numbers are known. -/
theorem parentOk (a : Txt) {ns : List Nat} (pa : PR (bts a) ns) (w : World) (hw : Lw w) :
    (2 ≤ ns.length ∧ ∃ p : Txt, PR (bts p) ns.dropLast ∧ Calls Tryz.prog 12 #[.string a.1] w fun e w' => e = .returned (.tuple #[.string p.1, .bool true]) ∧ Below w.heap.size w w') ∨
    (ns.length = 1 ∧ Calls Tryz.prog 12 #[.string a.1] w fun e w' => e = .returned (.tuple #[.string ⟨#[]⟩, .bool false]) ∧ Below w.heap.size w w') := by
  by_cases h1 : ns.length = 1
  · refine Or.inr ⟨h1, (Parent_any a w hw).mono ?_⟩
    rintro e w' ⟨⟨ms, p, g1, g2, _⟩ | ⟨_, rfl⟩, b⟩
    · rw [g1.one pa] at g2; omega
    · exact ⟨rfl, b⟩
  · have h2 : 2 ≤ ns.length := by have := pa.pos; omega
    have ok : OkN ns.dropLast := ⟨fun e => by have := congrArg List.length e; simp at this; omega, by rw [List.length_dropLast]; have := pa.len; omega, fun n hn => pa.rng n ((List.dropLast_sublist ns).mem hn)⟩
    refine Or.inl ⟨h2, ⟨⟨(cd ns.dropLast).toArray⟩, by rw [mk_size]; have := ok.size; omega⟩, by show PR (⟨(cd ns.dropLast).toArray⟩ : ByteArray).data.toList _; rw [mk_list]; exact ok.pr, (Parent_any a w hw).mono ?_⟩
    rintro e w' ⟨⟨ms, p, g1, g2, g3, _, rfl⟩ | ⟨h, _⟩, b⟩
    · obtain rfl := g1.one pa
      refine ⟨?_, b⟩
      rw [bts_eq (g3.text ok.pr)]
    · exact absurd (h _ pa) h1
end Go.Proofs.YtnjnjcgbdhiigaaGreatDoor
