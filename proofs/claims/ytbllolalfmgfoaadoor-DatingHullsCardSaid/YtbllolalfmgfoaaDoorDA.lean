/- Datings as values; Check and Good; the test of a list of datings. -/
import Derived.Test.YtbllolalfmgfoaaDoorLeaf
import Derived.Shelf.Abstract
import Derived.Deep.LoopGhost
import Derived.Deep.Draws
import Derived.Lib.SliceRun
namespace Go.Proofs.YtbllolalfmgfoaaDoor
open Go.RowKit Go.Shelf

/-- A dating as a value, and the test whether it is valid. -/
def dv (x : Int × Int) : Value := .agg #[.int .i64 x.1, .int .i64 x.2]
def gd (x : Int × Int) : Bool := decide (0 ≤ x.1 ∧ x.1 ≤ x.2 ∧ x.2 ≤ 1048575)
def chk (x : Int × Int) : Int := if gd x = true then 0 else 1
theorem gd_t {x : Int × Int} (h : gd x = true) : 0 ≤ x.1 ∧ x.1 ≤ x.2 ∧ x.2 ≤ 1048575 := of_decide_eq_true h
theorem gd_mk {x : Int × Int} (h : 0 ≤ x.1 ∧ x.1 ≤ x.2 ∧ x.2 ≤ 1048575) : gd x = true := decide_eq_true h
theorem gd_no {x : Int × Int} (h : ¬ (0 ≤ x.1 ∧ x.1 ≤ x.2 ∧ x.2 ≤ 1048575)) : gd x = false := decide_eq_false h
theorem chk_t {x : Int × Int} (h : gd x = true) : chk x = 0 := by unfold chk; rw [h]; rfl
theorem chk_f {x : Int × Int} (h : gd x = false) : chk x = 1 := by unfold chk; rw [h]; rfl

set_option maxHeartbeats 1000000 in
theorem Check_any (f l : Int) (w : World) :
    Calls Tryd.prog 16 #[.agg #[.int .i64 f, .int .i64 l]] w fun e w' => e = .returned (.int .i64 (chk (f, l))) ∧ Below w.heap.size w w' := by
  by_cases a : f < 0
  · have hc : chk (f, l) = 1 := chk_f (gd_no (by simp only; omega))
    go_enter Tryd.func16, Tryd.ntmps16
    go_wp2
    go_ret
    exact ⟨by first | rfl | (rw [hc]; rfl), (Below.refl _ w).alloc (Nat.le_refl _) _⟩
  · by_cases b : l < f
    · have hc : chk (f, l) = 1 := chk_f (gd_no (by simp only; omega))
      go_enter Tryd.func16, Tryd.ntmps16
      go_wp2
      go_ret
      exact ⟨by first | rfl | (rw [hc]; rfl), (Below.refl _ w).alloc (Nat.le_refl _) _⟩
    · by_cases c : 1048575 < l
      · have hc : chk (f, l) = 1 := chk_f (gd_no (by simp only; omega))
        go_enter Tryd.func16, Tryd.ntmps16
        go_wp2
        go_ret
        exact ⟨by first | rfl | (rw [hc]; rfl), (Below.refl _ w).alloc (Nat.le_refl _) _⟩
      · have hc : chk (f, l) = 0 := chk_t (gd_mk (by simp only; omega))
        go_enter Tryd.func16, Tryd.ntmps16
        go_wp2
        go_ret
        exact ⟨by first | rfl | (rw [hc]; rfl), (Below.refl _ w).alloc (Nat.le_refl _) _⟩

set_option maxHeartbeats 1000000 in
theorem rGood_any (f l : Int) (w : World) :
    Calls Tryd.prog 30 #[.agg #[.int .i64 f, .int .i64 l]] w fun e w' => e = .returned (.bool (gd (f, l))) ∧ Below w.heap.size w w' := by
  by_cases a : f < 0
  · have hc : gd (f, l) = false := gd_no (by simp only; omega)
    go_enter Tryd.func30, Tryd.ntmps30
    go_wp2
    go_ret
    exact ⟨by first | rfl | (rw [hc]; rfl), (Below.refl _ w).alloc (Nat.le_refl _) _⟩
  · have a' : 0 ≤ f := by omega
    by_cases b : l < f
    · have hc : gd (f, l) = false := gd_no (by simp only; omega)
      have b' : ¬ f ≤ l := by omega
      go_enter Tryd.func30, Tryd.ntmps30
      go_wp2
      go_ret
      exact ⟨by first | rfl | (rw [hc]; rfl), (Below.refl _ w).alloc (Nat.le_refl _) _⟩
    · have b' : f ≤ l := by omega
      by_cases c : 1048575 < l
      · have hc : gd (f, l) = false := gd_no (by simp only; omega)
        have c' : ¬ l ≤ 1048575 := by omega
        go_enter Tryd.func30, Tryd.ntmps30
        go_wp2
        go_ret
        exact ⟨by first | rfl | (rw [hc]; rfl), (Below.refl _ w).alloc (Nat.le_refl _) _⟩
      · have hc : gd (f, l) = true := gd_mk (by simp only; omega)
        have c' : l ≤ 1048575 := by omega
        go_enter Tryd.func30, Tryd.ntmps30
        go_wp2
        go_ret
        exact ⟨by first | rfl | (rw [hc]; rfl), (Below.refl _ w).alloc (Nat.le_refl _) _⟩

theorem rCheck_any (f l : Int) (w : World) :
    Calls Tryd.prog 17 #[.agg #[.int .i64 f, .int .i64 l]] w fun e w' => e = .returned (.int .i64 (chk (f, l))) ∧ Below w.heap.size w w' := by
  cases h : gd (f, l)
  · have hc := chk_f h
    go_enter Tryd.func17, Tryd.ntmps17
    go_wp2_with (go_at_call 30; refine (rGood_any f l _).mono ?_; rintro e w1 ⟨rfl, hb⟩; rw [h])
    go_ret
    exact ⟨by first | rfl | (rw [hc]; rfl), ((Below.refl _ w).alloc (Nat.le_refl _) _).trans (hb.mono (by simp))⟩
  · have hc := chk_t h
    go_enter Tryd.func17, Tryd.ntmps17
    go_wp2_with (go_at_call 30; refine (rGood_any f l _).mono ?_; rintro e w1 ⟨rfl, hb⟩; rw [h])
    go_ret
    exact ⟨by first | rfl | (rw [hc]; rfl), ((Below.refl _ w).alloc (Nat.le_refl _) _).trans (hb.mono (by simp))⟩

/-- The function that valid hands on: is a dating not valid? -/
theorem notGood_any (f l : Int) (w : World) :
    Calls Tryd.prog 58 #[.agg #[.int .i64 f, .int .i64 l]] w fun e w' => e = .returned (.bool (!gd (f, l))) ∧ Below w.heap.size w w' := by
  cases h : gd (f, l)
  · have hc := chk_f h
    go_enter Tryd.func58, Tryd.ntmps58
    go_wp2_with (go_at_call 16; refine (Check_any f l _).mono ?_; rintro e w1 ⟨rfl, hb⟩; rw [hc])
    go_ret
    exact ⟨rfl, ((Below.refl _ w).alloc (Nat.le_refl _) _).trans (hb.mono (by simp))⟩
  · have hc := chk_t h
    go_enter Tryd.func58, Tryd.ntmps58
    go_wp2_with (go_at_call 16; refine (Check_any f l _).mono ?_; rintro e w1 ⟨rfl, hb⟩; rw [hc])
    go_ret
    exact ⟨rfl, ((Below.refl _ w).alloc (Nat.le_refl _) _).trans (hb.mono (by simp))⟩

theorem load_row (P : Program) (W : World) (a : Addr) (cs : List Value) (k : Nat) (hk : cs.length = k) (h : ∀ j v, cs[j]? = some v → W.cell? (a.add j) = some v) :
    Sem.run P (loadCellsFrom a 0 k #[]) W = .ok cs.toArray W := by
  have h1 := run_loadCells_list (P := P) (w := W) a cs h
  rw [hk] at h1
  simpa [loadCells] using h1

/-- Datings in a row in memory. -/
def Dats (w : World) (b off n : Nat) (D : Nat → Int × Int) : Prop :=
  b < w.heap.size ∧ ∀ j, j < n → w.cell? ⟨b, off + j * 2, none⟩ = some (.int .i64 (D j).1) ∧ w.cell? ⟨b, off + j * 2 + 1, none⟩ = some (.int .i64 (D j).2)
theorem Dats.below {w w' : World} {b off n : Nat} {D : Nat → Int × Int} (h : Dats w b off n D) (hb : Below w.heap.size w w') : Dats w' b off n D :=
  ⟨Nat.lt_of_lt_of_le h.1 hb.size, fun j hj => ⟨(hb.cell (p := ⟨b, off + j * 2, none⟩) h.1).trans (h.2 j hj).1, (hb.cell (p := ⟨b, off + j * 2 + 1, none⟩) h.1).trans (h.2 j hj).2⟩⟩

def allGd (D : Nat → Int × Int) (n : Nat) : Bool := decide (∀ j, j < n → gd (D j) = true)
theorem allGd_t {D : Nat → Int × Int} {n : Nat} (h : allGd D n = true) : ∀ j, j < n → gd (D j) = true := of_decide_eq_true h
theorem allGd_mk {D : Nat → Int × Int} {n : Nat} (h : ∀ j, j < n → gd (D j) = true) : allGd D n = true := decide_eq_true h
theorem allGd_no {D : Nat → Int × Int} {n j : Nat} (h : j < n) (g : gd (D j) = false) : allGd D n = false := decide_eq_false (fun c => by rw [c j h] at g; cases g)

/-- What IndexFunc gives: an index, or -1. -/
def FB (D : Nat → Int × Int) (n : Nat) (z : Int) : Prop := (allGd D n = true ∧ z = -1) ∨ (allGd D n = false ∧ 0 ≤ z)

set_option maxHeartbeats 2000000 in
theorem IndexFuncD_any (b off n c : Nat) (D : Nat → Int × Int) (w : World) (hn : n ≤ 9223372036854775807) (hD : Dats w b off n D) :
    Calls Tryd.prog 83 #[.slice (some ⟨b, off, none⟩) n c, .func (.func 58) #[] #[]] w
      fun e w' => ∃ z : Int, e = .returned (.int .i64 z) ∧ FB D n z ∧ Below w.heap.size w w' := by
  have eg : ∀ args w, (callFunc 58 args).run Tryd.prog w = .ok (.enter 58 args) w := enters_of Tryd.func58 (by kernel_rfl) rfl
  have hrow : ∀ (W : World), Below w.heap.size w W → ∀ j, j < n → W.cell? ⟨b, off + j * 2, none⟩ = some (.int .i64 (D j).1) ∧ W.cell? ⟨b, off + j * 2 + 1, none⟩ = some (.int .i64 (D j).2) := fun W hW j hj => (hD.below hW).2 j hj
  clear hD
  go_enter Tryd.func83, Tryd.ntmps83
  go_wp2
  go_loopg [5, 8] n (fun gg _ s8 wr => ∃ kk : Nat, kk ≤ n ∧ n - kk ≤ gg ∧ s8 = .int .i64 kk ∧ Aside (Below w.heap.size w wr) ∧ Aside (∀ j, j < kk → gd (D j) = true))
  case atStart => exact ⟨0, Nat.zero_le _, by omega, rfl, Below.refl _ w, fun j hj => absurd hj (Nat.not_lt_zero _)⟩
  case round =>
    obtain ⟨kk, hkk, hg, rfl, BW, A⟩ := hrel
    by_cases hlt : kk < n
    · have hltz : (kk : Int) < (n : Int) := by omega
      obtain ⟨l1, l2⟩ := hrow wr BW.out kk (by omega)
      have hcall := notGood_any (D kk).1 (D kk).2 wr
      clear hrow
      have hx : ((D kk).1, (D kk).2) = D kk := rfl
      rw [hx] at hcall; clear hx
      generalize hy : D kk = y at l1 l2 hcall
      have B : Aside (D kk = y) := hy
      clear hy
      cases hq : gd y with
      | false =>
        rw [hq] at hcall
        go_wp2_with (go_at_fn 58; refine hcall.mono ?_; rintro e w' ⟨rfl, hb'⟩)
        go_ret
        exact ⟨_, rfl, Or.inr ⟨allGd_no hlt (by rw [B.out]; exact hq), by omega⟩, BW.out.trans (hb'.mono BW.out.size)⟩
      | true =>
        rw [hq] at hcall
        go_wp2_with (go_at_fn 58; refine hcall.mono ?_; rintro e w' ⟨rfl, hb'⟩)
        go_roundg (n - (kk + 1))
        case measure => omega
        case rel =>
          refine ⟨kk + 1, by omega, by omega, by go_num, (show Aside _ from BW.out.trans (hb'.mono BW.out.size)), (show Aside _ from fun j hj => ?_)⟩
          by_cases e : j = kk
          · subst e
            rw [B.out]; exact hq
          · exact A.out j (by omega)
    · have hltz : ¬ (kk : Int) < (n : Int) := by omega
      have : kk = n := by omega
      subst this
      go_wp2
      go_ret
      exact ⟨_, rfl, Or.inl ⟨allGd_mk A.out, rfl⟩, BW.out⟩

set_option maxHeartbeats 1000000 in
theorem valid_any (b off n c : Nat) (D : Nat → Int × Int) (w : World) (hn : n ≤ 9223372036854775807) (hD : Dats w b off n D) :
    Calls Tryd.prog 29 #[.slice (some ⟨b, off, none⟩) n c] w fun e w' => e = .returned (.bool (allGd D n)) ∧ Below w.heap.size w w' := by
  have c1 : Calls Tryd.prog 57 #[.slice (some ⟨b, off, none⟩) n c, .func (.func 58) #[] #[]] w
      fun e w' => e = .returned (.bool (!allGd D n)) ∧ Below w.heap.size w w' := by
    have c0 := IndexFuncD_any b off n c D w hn hD
    clear hD
    go_enter Tryd.func57, Tryd.ntmps57
    go_wp2_with fail
    refine c0.mono ?_; rintro e w1 ⟨z, rfl, hz, hb⟩
    rcases hz with ⟨hz, rfl⟩ | ⟨hz, h0⟩
    · go_wp2
      go_ret
      exact ⟨by rw [hz]; rfl, hb⟩
    · have h1 : ¬ z < 0 := by omega
      go_wp2
      go_ret
      exact ⟨by rw [hz]; rfl, hb⟩
  clear hD
  generalize allGd D n = r at c1 ⊢
  go_enter Tryd.func29, Tryd.ntmps29
  go_wp2_with fail
  refine c1.mono ?_; rintro e w1 ⟨rfl, hb⟩
  go_wp2
  go_ret
  exact ⟨by simp, hb⟩
end Go.Proofs.YtbllolalfmgfoaaDoor
