/- Pieces of a timeline: a span's test, a piece's test, the value on a day. -/
import Derived.Test.YtekigilhmdphnaaRows
import Derived.WalkKit
import Derived.WalkSpells
import Derived.Handy
import Derived.Lib.Hide
import Derived.Shelf.Abstract
import Derived.Deep.LoopGhost
import Derived.Deep.Draws
namespace Go.Proofs.Ytekigilhmdphnaa
open Go.RowKit Go.Shelf

/-- A piece: its first day, the day behind its last one, its value. -/
structure Pc where
  f : Int
  u : Int
  v : Int
  deriving Inhabited
def hasB (p : Pc) (d : Int) : Bool := decide (p.f ≤ d ∧ d < p.u)
def spanB (f u : Int) : Bool := decide (0 ≤ f ∧ f < u ∧ u ≤ 1048576)

set_option maxHeartbeats 1000000 in
theorem has_any (p : Pc) (d : Int) (w : World) :
    Calls Try.prog 30 #[.agg #[.int .i64 p.f, .int .i64 p.u, .int .i64 p.v], .int .i64 d] w fun e w' => e = .returned (.bool (hasB p d)) ∧ Below w.heap.size w w' := by
  by_cases a : p.f ≤ d
  · by_cases b : d < p.u
    · have hc : hasB p d = true := decide_eq_true ⟨a, b⟩
      go_enter Try.func30, Try.ntmps30
      go_wp2
      go_ret
      exact ⟨by first | rfl | (rw [hc]; rfl), (Below.refl _ w).alloc (Nat.le_refl _) _⟩
    · have hc : hasB p d = false := decide_eq_false (fun x => b x.2)
      go_enter Try.func30, Try.ntmps30
      go_wp2
      go_ret
      exact ⟨by first | rfl | (rw [hc]; rfl), (Below.refl _ w).alloc (Nat.le_refl _) _⟩
  · have hc : hasB p d = false := decide_eq_false (fun x => a x.1)
    go_enter Try.func30, Try.ntmps30
    go_wp2
    go_ret
    exact ⟨by first | rfl | (rw [hc]; rfl), (Below.refl _ w).alloc (Nat.le_refl _) _⟩

set_option maxHeartbeats 1000000 in
theorem In_any (f u : Int) (d : Int) (w : World) :
    Calls Try.prog 31 #[.agg #[.int .i64 f, .int .i64 u], .int .i64 d] w fun e w' => e = .returned (.bool (hasB ⟨f, u, 0⟩ d)) ∧ Below w.heap.size w w' := by
  by_cases a : f ≤ d
  · by_cases b : d < u
    · have hc : hasB ⟨f, u, 0⟩ d = true := decide_eq_true ⟨a, b⟩
      go_enter Try.func31, Try.ntmps31
      go_wp2
      go_ret
      exact ⟨by first | rfl | (rw [hc]; rfl), (Below.refl _ w).alloc (Nat.le_refl _) _⟩
    · have hc : hasB ⟨f, u, 0⟩ d = false := decide_eq_false (fun x => b x.2)
      go_enter Try.func31, Try.ntmps31
      go_wp2
      go_ret
      exact ⟨by first | rfl | (rw [hc]; rfl), (Below.refl _ w).alloc (Nat.le_refl _) _⟩
  · have hc : hasB ⟨f, u, 0⟩ d = false := decide_eq_false (fun x => a x.1)
    go_enter Try.func31, Try.ntmps31
    go_wp2
    go_ret
    exact ⟨by first | rfl | (rw [hc]; rfl), (Below.refl _ w).alloc (Nat.le_refl _) _⟩

set_option maxHeartbeats 1000000 in
theorem isSpan_any (f u : Int) (w : World) :
    Calls Try.prog 32 #[.agg #[.int .i64 f, .int .i64 u]] w fun e w' => e = .returned (.bool (spanB f u)) ∧ Below w.heap.size w w' := by
  by_cases a : 0 ≤ f
  · by_cases b : f < u
    · by_cases c : u ≤ 1048576
      · have hc : spanB f u = true := decide_eq_true ⟨a, b, c⟩
        go_enter Try.func32, Try.ntmps32
        go_wp2
        go_ret
        exact ⟨by first | rfl | (rw [hc]; rfl), (Below.refl _ w).alloc (Nat.le_refl _) _⟩
      · have hc : spanB f u = false := decide_eq_false (fun x => c x.2.2)
        go_enter Try.func32, Try.ntmps32
        go_wp2
        go_ret
        exact ⟨by first | rfl | (rw [hc]; rfl), (Below.refl _ w).alloc (Nat.le_refl _) _⟩
    · have hc : spanB f u = false := decide_eq_false (fun x => b x.2.1)
      go_enter Try.func32, Try.ntmps32
      go_wp2
      go_ret
      exact ⟨by first | rfl | (rw [hc]; rfl), (Below.refl _ w).alloc (Nat.le_refl _) _⟩
  · have hc : spanB f u = false := decide_eq_false (fun x => a x.1)
    go_enter Try.func32, Try.ntmps32
    go_wp2
    go_ret
    exact ⟨by first | rfl | (rw [hc]; rfl), (Below.refl _ w).alloc (Nat.le_refl _) _⟩

set_option maxHeartbeats 1000000 in
theorem Good_any (f u : Int) (w : World) :
    Calls Try.prog 34 #[.agg #[.int .i64 f, .int .i64 u]] w fun e w' => e = .returned (.bool (spanB f u)) ∧ Below w.heap.size w w' := by
  by_cases a : 0 ≤ f
  · by_cases b : f < u
    · by_cases c : u ≤ 1048576
      · have hc : spanB f u = true := decide_eq_true ⟨a, b, c⟩
        go_enter Try.func34, Try.ntmps34
        go_wp2
        go_ret
        exact ⟨by first | rfl | (rw [hc]; rfl), (Below.refl _ w).alloc (Nat.le_refl _) _⟩
      · have hc : spanB f u = false := decide_eq_false (fun x => c x.2.2)
        go_enter Try.func34, Try.ntmps34
        go_wp2
        go_ret
        exact ⟨by first | rfl | (rw [hc]; rfl), (Below.refl _ w).alloc (Nat.le_refl _) _⟩
    · have hc : spanB f u = false := decide_eq_false (fun x => b x.2.1)
      go_enter Try.func34, Try.ntmps34
      go_wp2
      go_ret
      exact ⟨by first | rfl | (rw [hc]; rfl), (Below.refl _ w).alloc (Nat.le_refl _) _⟩
  · have hc : spanB f u = false := decide_eq_false (fun x => a x.1)
    go_enter Try.func34, Try.ntmps34
    go_wp2
    go_ret
    exact ⟨by first | rfl | (rw [hc]; rfl), (Below.refl _ w).alloc (Nat.le_refl _) _⟩

/-- Pieces in a row in memory. -/
def Pcs (w : World) (b off n : Nat) (P : Nat → Pc) : Prop :=
  b < w.heap.size ∧ ∀ j, j < n → w.cell? ⟨b, off + j * 3, none⟩ = some (.int .i64 (P j).f) ∧ w.cell? ⟨b, off + j * 3 + 1, none⟩ = some (.int .i64 (P j).u) ∧ w.cell? ⟨b, off + j * 3 + 2, none⟩ = some (.int .i64 (P j).v)
theorem Pcs.below {w w' : World} {b off n : Nat} {P : Nat → Pc} (h : Pcs w b off n P) (hb : Below w.heap.size w w') : Pcs w' b off n P :=
  ⟨Nat.lt_of_lt_of_le h.1 hb.size, fun j hj => ⟨(hb.cell (p := ⟨b, off + j * 3, none⟩) h.1).trans (h.2 j hj).1, (hb.cell (p := ⟨b, off + j * 3 + 1, none⟩) h.1).trans (h.2 j hj).2.1, (hb.cell (p := ⟨b, off + j * 3 + 2, none⟩) h.1).trans (h.2 j hj).2.2⟩⟩

/-- The value on a day: that of the first piece that has it. -/
def AtR (P : Nat → Pc) (n : Nat) (d : Int) (w : World) (e : Ending) (w' : World) : Prop :=
  ((∃ k, k < n ∧ hasB (P k) d = true ∧ (∀ j, j < k → hasB (P j) d = false) ∧ e = .returned (.tuple #[.int .i64 (P k).v, .bool true])) ∨
    ((∀ j, j < n → hasB (P j) d = false) ∧ e = .returned (.tuple #[.int .i64 0, .bool false]))) ∧ Below w.heap.size w w'

set_option maxHeartbeats 2000000 in
theorem At_any (b off n c : Nat) (P : Nat → Pc) (d : Int) (w : World) (hn : n ≤ 9223372036854775807) (hP : Pcs w b off n P) :
    Calls Try.prog 12 #[.slice (some ⟨b, off, none⟩) n c, .int .i64 d] w (AtR P n d w) := by
  have HP := Lib.hid hP
  clear hP
  go_enter Try.func12, Try.ntmps12
  go_wp2
  go_loopg [7, 10] n (fun gg _ s10 wr => ∃ kk : Nat, kk ≤ n ∧ n - kk ≤ gg ∧ s10 = .int .i64 kk ∧ Aside (Below w.heap.size w wr) ∧ Aside (∀ j, j < kk → hasB (P j) d = false))
  case atStart => exact ⟨0, Nat.zero_le _, by omega, rfl, Below.refl _ w, fun j hj => absurd hj (Nat.not_lt_zero _)⟩
  case round =>
    obtain ⟨kk, hkk, hg, rfl, BW, A⟩ := hrel
    by_cases hlt : kk < n
    · have hltz : (kk : Int) < (n : Int) := by omega
      obtain ⟨l0, l1, l2⟩ := (HP.out.below BW.out).2 kk hlt
      have hcall := has_any (P kk) d
      generalize hy : P kk = y at l0 l1 l2 hcall
      have Y := Lib.hid hy
      clear hy
      have g1 := BW.out.alloc BW.out.size (.cells #[.int .i64 y.f, .int .i64 y.u, .int .i64 y.v] 47)
      have HC := Lib.hid hcall
      have v0 : (wr.alloc (.cells #[.int .i64 y.f, .int .i64 y.u, .int .i64 y.v] 47)).cell? ⟨wr.heap.size, 1 + 1, none⟩ = some (.int .i64 y.v) := World.cell?_alloc_mark wr _ _ (0, 0) 2
      have vs : wr.heap.size < (wr.alloc (.cells #[.int .i64 y.f, .int .i64 y.u, .int .i64 y.v] 47)).heap.size := by simp
      clear hcall
      cases hq : hasB y d with
      | true =>
        rw [hq] at HC
        go_wp2_with fail
        refine (HC.out _).mono ?_; rintro e w' ⟨rfl, hb'⟩
        have v1 := (hb'.cell (p := ⟨wr.heap.size, 1 + 1, none⟩) vs).trans v0
        have v2 : w'.cell? ⟨wr.heap.size, 2, none⟩ = some (.int .i64 y.v) := v1
        go_wp2
        go_ret2
        exact ⟨Or.inl ⟨kk, hlt, by rw [Y.out]; exact hq, A.out, by rw [Y.out]; rfl⟩, g1.trans (hb'.mono g1.size)⟩
      | false =>
        rw [hq] at HC
        go_wp2_with fail
        refine (HC.out _).mono ?_; rintro e w' ⟨rfl, hb'⟩
        go_wp2_with fail
        go_roundg (n - (kk + 1))
        case measure => omega
        case rel =>
          refine ⟨kk + 1, by omega, by omega, by go_num, (show Aside _ from g1.trans (hb'.mono g1.size)), (show Aside _ from fun j hj => ?_)⟩
          by_cases e : j = kk
          · rw [e, Y.out]; exact hq
          · exact A.out j (by omega)
    · have hltz : ¬ (kk : Int) < (n : Int) := by omega
      have : kk = n := by omega
      subst this
      go_wp2
      go_ret2
      exact ⟨Or.inr ⟨A.out, rfl⟩, BW.out⟩
end Go.Proofs.Ytekigilhmdphnaa
