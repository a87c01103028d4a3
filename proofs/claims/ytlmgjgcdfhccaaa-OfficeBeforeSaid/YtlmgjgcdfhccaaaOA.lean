/- Offices: what a list of them holds; a day in a span; a span. -/
import Derived.Test.YtlmgjgcdfhccaaaOL
import Derived.Test.YtlmgjgcdfhccaaaRows
import Derived.WalkKit
import Derived.WalkSpells
import Derived.Handy
import Derived.Lib.Hide
import Derived.Shelf.Abstract
import Derived.Deep.LoopGhost
import Derived.Deep.Draws
import Derived.Deep.RegionHeld3
import Derived.Deep.DeepCutAuto
import Derived.Deep.QuietTactic
import Derived.BigQuiet
import Derived.IntWalk
namespace Go.Proofs.Ytlmgjgcdfhccaaa
open Go.RowKit Go.Shelf

theorem eq_bytes (a b : ByteArray) : a = b ↔ a.data.toList = b.data.toList := by
  constructor
  · rintro rfl; rfl
  · intro h
    cases a; cases b
    simp at h
    rw [h]
theorem below_drewN (w : World) (q : Nat) : Below w.heap.size w (w.drewN q) := ⟨rfl, rfl, rfl, Nat.le_refl _, fun _ _ => rfl⟩
theorem gb_below {w w' : World} {r : Option Nat} (h : Below w.heap.size w w') : w.grownBy w' r := ⟨h.os, h.tape, h.output, h.size, fun k hk _ => h.block k hk⟩
theorem BdN {B : Nat} {a w : World} (h : Below B a w) (n : Nat) : Below B a (w.drewN n) := h.trans ⟨rfl, rfl, rfl, Nat.le_refl _, fun _ _ => rfl⟩
/-- A text. -/
abbrev Txt := { s : ByteArray // 0 ≤ s.size }
def bts (x : Txt) : List UInt8 := x.1.data.toList
/-- What the library's variables hold. -/
structure Lw (w : World) : Prop where
  ml : ∃ m, w.cell? ⟨0, 0, none⟩ = some (.int .i64 m)
  n0 : 0 < w.heap.size
theorem Lw.below {w w' : World} (h : Lw w) (hb : Below w.heap.size w w') : Lw w' where
  ml := by obtain ⟨m, hm⟩ := h.ml; exact ⟨m, (hb.cell (p := ⟨0, 0, none⟩) h.n0).trans hm⟩
  n0 := Nat.lt_of_lt_of_le h.n0 hb.size

/-- A day in a span; a span. -/
def hasB (f u d : Int) : Bool := decide (f ≤ d ∧ d < u)
def spanB (f u : Int) : Bool := decide (0 ≤ f ∧ f < u ∧ u ≤ 1048576)
set_option maxHeartbeats 1000000 in
theorem has_any (f u : Int) (d : Int) (w : World) :
    Calls Try.prog 50 #[.agg #[.int .i64 f, .int .i64 u], .int .i64 d] w fun e w' => e = .returned (.bool (hasB f u d)) ∧ Below w.heap.size w w' := by
  by_cases a : f ≤ d
  · by_cases b : d < u
    · have hc : hasB f u d = true := decide_eq_true ⟨a, b⟩
      go_enter Try.func50, Try.ntmps50
      go_wp2
      go_ret
      exact ⟨by first | rfl | (rw [hc]; rfl), (Below.refl _ w).alloc (Nat.le_refl _) _⟩
    · have hc : hasB f u d = false := decide_eq_false (fun x => b x.2)
      go_enter Try.func50, Try.ntmps50
      go_wp2
      go_ret
      exact ⟨by first | rfl | (rw [hc]; rfl), (Below.refl _ w).alloc (Nat.le_refl _) _⟩
  · have hc : hasB f u d = false := decide_eq_false (fun x => a x.1)
    go_enter Try.func50, Try.ntmps50
    go_wp2
    go_ret
    exact ⟨by first | rfl | (rw [hc]; rfl), (Below.refl _ w).alloc (Nat.le_refl _) _⟩
set_option maxHeartbeats 1000000 in
theorem In_any (f u : Int) (d : Int) (w : World) :
    Calls Try.prog 31 #[.agg #[.int .i64 f, .int .i64 u], .int .i64 d] w fun e w' => e = .returned (.bool (hasB f u d)) ∧ Below w.heap.size w w' := by
  by_cases a : f ≤ d
  · by_cases b : d < u
    · have hc : hasB f u d = true := decide_eq_true ⟨a, b⟩
      go_enter Try.func31, Try.ntmps31
      go_wp2
      go_ret
      exact ⟨by first | rfl | (rw [hc]; rfl), (Below.refl _ w).alloc (Nat.le_refl _) _⟩
    · have hc : hasB f u d = false := decide_eq_false (fun x => b x.2)
      go_enter Try.func31, Try.ntmps31
      go_wp2
      go_ret
      exact ⟨by first | rfl | (rw [hc]; rfl), (Below.refl _ w).alloc (Nat.le_refl _) _⟩
  · have hc : hasB f u d = false := decide_eq_false (fun x => a x.1)
    go_enter Try.func31, Try.ntmps31
    go_wp2
    go_ret
    exact ⟨by first | rfl | (rw [hc]; rfl), (Below.refl _ w).alloc (Nat.le_refl _) _⟩
set_option maxHeartbeats 1000000 in
theorem isSpan_any (f u : Int) (w : World) :
    Calls Try.prog 55 #[.agg #[.int .i64 f, .int .i64 u]] w fun e w' => e = .returned (.bool (spanB f u)) ∧ Below w.heap.size w w' := by
  by_cases a : 0 ≤ f
  · by_cases b : f < u
    · by_cases c : u ≤ 1048576
      · have hc : spanB f u = true := decide_eq_true ⟨a, b, c⟩
        go_enter Try.func55, Try.ntmps55
        go_wp2
        go_ret
        exact ⟨by first | rfl | (rw [hc]; rfl), (Below.refl _ w).alloc (Nat.le_refl _) _⟩
      · have hc : spanB f u = false := decide_eq_false (fun x => c x.2.2)
        go_enter Try.func55, Try.ntmps55
        go_wp2
        go_ret
        exact ⟨by first | rfl | (rw [hc]; rfl), (Below.refl _ w).alloc (Nat.le_refl _) _⟩
    · have hc : spanB f u = false := decide_eq_false (fun x => b x.2.1)
      go_enter Try.func55, Try.ntmps55
      go_wp2
      go_ret
      exact ⟨by first | rfl | (rw [hc]; rfl), (Below.refl _ w).alloc (Nat.le_refl _) _⟩
  · have hc : spanB f u = false := decide_eq_false (fun x => a x.1)
    go_enter Try.func55, Try.ntmps55
    go_wp2
    go_ret
    exact ⟨by first | rfl | (rw [hc]; rfl), (Below.refl _ w).alloc (Nat.le_refl _) _⟩

set_option maxHeartbeats 1000000 in
theorem Good4_any (f u : Int) (w : World) :
    Calls Try.prog 61 #[.agg #[.int .i64 f, .int .i64 u]] w fun e w' => e = .returned (.bool (spanB f u)) ∧ Below w.heap.size w w' := by
  by_cases a : 0 ≤ f
  · by_cases b : f < u
    · by_cases c : u ≤ 1048576
      · have hc : spanB f u = true := decide_eq_true ⟨a, b, c⟩
        go_enter Try.func61, Try.ntmps61
        go_wp2
        go_ret
        exact ⟨by first | rfl | (rw [hc]; rfl), (Below.refl _ w).alloc (Nat.le_refl _) _⟩
      · have hc : spanB f u = false := decide_eq_false (fun x => c x.2.2)
        go_enter Try.func61, Try.ntmps61
        go_wp2
        go_ret
        exact ⟨by first | rfl | (rw [hc]; rfl), (Below.refl _ w).alloc (Nat.le_refl _) _⟩
    · have hc : spanB f u = false := decide_eq_false (fun x => b x.2.1)
      go_enter Try.func61, Try.ntmps61
      go_wp2
      go_ret
      exact ⟨by first | rfl | (rw [hc]; rfl), (Below.refl _ w).alloc (Nat.le_refl _) _⟩
  · have hc : spanB f u = false := decide_eq_false (fun x => a x.1)
    go_enter Try.func61, Try.ntmps61
    go_wp2
    go_ret
    exact ⟨by first | rfl | (rw [hc]; rfl), (Below.refl _ w).alloc (Nat.le_refl _) _⟩


/-- A list of numbers in memory. -/
def IsZ (w : World) (v : Value) (zs : List Int) : Prop := ∃ p c, v = .slice p zs.length c ∧ zs.length ≤ c ∧ (0 < zs.length → ∃ g off, p = some ⟨g, off, none⟩ ∧ g < w.heap.size ∧ ∀ j (h : j < zs.length), w.cell? ⟨g, off + j, none⟩ = some (.int .i64 zs[j]))
theorem IsZ.below {w w' : World} {v : Value} {zs : List Int} (h : IsZ w v zs) (hb : Below w.heap.size w w') : IsZ w' v zs := by
  obtain ⟨p, c, h1, h2, h3⟩ := h
  refine ⟨p, c, h1, h2, fun h0 => ?_⟩
  obtain ⟨g, off, e, hg, hc⟩ := h3 h0
  exact ⟨g, off, e, Nat.lt_of_lt_of_le hg hb.size, fun j hj => (hb.cell (p := ⟨g, off + j, none⟩) hg).trans (hc j hj)⟩
theorem isZ_nil (w : World) : IsZ w (.slice none 0 0) [] := ⟨none, 0, rfl, Nat.le_refl _, fun h => absurd h (by simp)⟩
/-- An office, with the address of its successors. -/
structure Of where
  id : Int
  nm : Txt
  fr : Int
  un : Int
  nx : List Int
  p : Option Addr
  c : Nat
def Of.nv (o : Of) : Value := .slice o.p o.nx.length o.c
def Of.val (o : Of) : Value := .agg #[.int .i64 o.id, .string o.nm.1, .int .i64 o.fr, .int .i64 o.un, o.nv]
/-- An office in memory, at a place. -/
structure OfAt (w : World) (g off : Nat) (o : Of) : Prop where
  lt : g < w.heap.size
  c0 : w.cell? ⟨g, off, none⟩ = some (.int .i64 o.id)
  c1 : w.cell? ⟨g, off + 1, none⟩ = some (.string o.nm.1)
  c2 : w.cell? ⟨g, off + 2, none⟩ = some (.int .i64 o.fr)
  c3 : w.cell? ⟨g, off + 3, none⟩ = some (.int .i64 o.un)
  c4 : w.cell? ⟨g, off + 4, none⟩ = some o.nv
  nx : IsZ w o.nv o.nx
theorem OfAt.below {w w' : World} {g off : Nat} {o : Of} (h : OfAt w g off o) (hb : Below w.heap.size w w') : OfAt w' g off o :=
  ⟨Nat.lt_of_lt_of_le h.lt hb.size, (hb.cell (p := ⟨g, off, none⟩) h.lt).trans h.c0, (hb.cell (p := ⟨g, off + 1, none⟩) h.lt).trans h.c1, (hb.cell (p := ⟨g, off + 2, none⟩) h.lt).trans h.c2, (hb.cell (p := ⟨g, off + 3, none⟩) h.lt).trans h.c3, (hb.cell (p := ⟨g, off + 4, none⟩) h.lt).trans h.c4, h.nx.below hb⟩
/-- A list of offices in memory. -/
def IsO (w : World) (v : Value) (os : List Of) : Prop := ∃ p c, v = .slice p os.length c ∧ os.length ≤ c ∧ (0 < os.length → ∃ g off, p = some ⟨g, off, none⟩ ∧ ∀ (j : Nat) o, os[j]? = some o → OfAt w g (off + j * 5) o)
theorem IsO.below {w w' : World} {v : Value} {os : List Of} (h : IsO w v os) (hb : Below w.heap.size w w') : IsO w' v os := by
  obtain ⟨p, c, h1, h2, h3⟩ := h
  refine ⟨p, c, h1, h2, fun h0 => ?_⟩
  obtain ⟨g, off, e, hc⟩ := h3 h0
  exact ⟨g, off, e, fun j o hj => (hc j o hj).below hb⟩
end Go.Proofs.Ytlmgjgcdfhccaaa
