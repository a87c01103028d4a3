/- Check and the reference's. -/
import Derived.Test.YtekigilhmdphnaaTB
import Derived.Deep.RegionHeld3
import Derived.Deep.DeepCutAuto
import Derived.Deep.QuietTactic
import Derived.BigQuiet
import Derived.IntWalk
namespace Go.Proofs.Ytekigilhmdphnaa
open Go.RowKit Go.Shelf

/-- What is wrong with a piece. -/
def linkB (p q : Pc) : Bool := decide (p.u = q.f ∧ p.v = q.v)
def ckAt (P : Nat → Pc) (k : Nat) : Int := if spanB (P k).f (P k).u then (if 0 < k ∧ ((P k).f < (P (k - 1)).u ∨ linkB (P (k - 1)) (P k) = true) then 5 else 0) else 2
/-- The first fault of the first pieces. -/
def ckE (P : Nat → Pc) : Nat → Int
  | 0 => 0
  | k + 1 => if ckE P k = 0 then ckAt P k else ckE P k
theorem ckE_stop (P : Nat → Pc) {k n : Nat} (h : ckE P k ≠ 0) : k ≤ n → ckE P n = ckE P k := by
  intro hk
  induction n with
  | zero => rw [Nat.le_zero.1 hk]
  | succ n ih =>
    by_cases c : k = n + 1
    · rw [c]
    · have e := ih (by omega)
      show (if ckE P n = 0 then ckAt P n else ckE P n) = _
      rw [e, if_neg h]
theorem ckE_at (P : Nat → Pc) {k n : Nat} (h0 : ckE P k = 0) (h : ckAt P k ≠ 0) (hk : k < n) : ckE P n = ckAt P k := by
  have e : ckE P (k + 1) = ckAt P k := by show (if ckE P k = 0 then ckAt P k else ckE P k) = _; rw [if_pos h0]
  rw [← e] at h ⊢
  exact ckE_stop P h (by omega)
theorem ckE_next (P : Nat → Pc) {k : Nat} (h0 : ckE P k = 0) (h : ckAt P k = 0) : ckE P (k + 1) = 0 := by
  show (if ckE P k = 0 then ckAt P k else ckE P k) = _
  rw [if_pos h0, h]
def ckV (P : Nat → Pc) (n : Nat) : Int := if 1024 < n then 8 else ckE P n

set_option maxHeartbeats 1000000 in
theorem continues_any (p q : Pc) (w : World) :
    Calls Try.prog 33 #[.agg #[.int .i64 p.f, .int .i64 p.u, .int .i64 p.v], .agg #[.int .i64 q.f, .int .i64 q.u, .int .i64 q.v]] w fun e w' => e = .returned (.bool (linkB p q)) ∧ Below w.heap.size w w' := by
  by_cases a : p.u = q.f
  · by_cases b : p.v = q.v
    · have hc : linkB p q = true := decide_eq_true ⟨a, b⟩
      go_enter Try.func33, Try.ntmps33
      go_wp2
      go_ret
      exact ⟨by first | rfl | (rw [hc]; rfl), ((Below.refl _ w).alloc (Nat.le_refl _) _).alloc (by simp) _⟩
    · have hc : linkB p q = false := decide_eq_false (fun x => b x.2)
      have b' : (p.v == q.v) = false := by simpa using b
      go_enter Try.func33, Try.ntmps33
      go_wp2
      go_ret
      exact ⟨by first | rfl | (rw [hc]; rfl), ((Below.refl _ w).alloc (Nat.le_refl _) _).alloc (by simp) _⟩
  · have hc : linkB p q = false := decide_eq_false (fun x => a x.1)
    have a' : (p.u == q.f) = false := by simpa using a
    go_enter Try.func33, Try.ntmps33
    go_wp2
    go_ret
    exact ⟨by first | rfl | (rw [hc]; rfl), ((Below.refl _ w).alloc (Nat.le_refl _) _).alloc (by simp) _⟩

/-- A box and a piece of a row, in a world that the walk has reached. -/
abbrev S6 (u : World) (B b o : Nat) (y l : Pc) (W : World) : Prop :=
  W.cell? ⟨B, 0, none⟩ = some (.int .i64 y.f) ∧ W.cell? ⟨B, 1, none⟩ = some (.int .i64 y.u) ∧ W.cell? ⟨B, 2, none⟩ = some (.int .i64 y.v) ∧ W.cell? ⟨b, o, none⟩ = some (.int .i64 l.f) ∧ W.cell? ⟨b, o + 1, none⟩ = some (.int .i64 l.u) ∧ W.cell? ⟨b, o + 2, none⟩ = some (.int .i64 l.v) ∧ (B < u.heap.size ∧ b < u.heap.size ∧ Below u.heap.size u W)
theorem S6.go {u : World} {B b o : Nat} {y l : Pc} {W V : World} (h : S6 u B b o y l W) (hb : Below W.heap.size W V) : S6 u B b o y l V := by
  obtain ⟨h1, h2, h3, h4, h5, h6, h7, h8, h9⟩ := h
  have l1 : B < W.heap.size := Nat.lt_of_lt_of_le h7 h9.size
  have l2 : b < W.heap.size := Nat.lt_of_lt_of_le h8 h9.size
  exact ⟨(hb.cell (p := ⟨B, 0, none⟩) l1).trans h1, (hb.cell (p := ⟨B, 1, none⟩) l1).trans h2, (hb.cell (p := ⟨B, 2, none⟩) l1).trans h3, (hb.cell (p := ⟨b, o, none⟩) l2).trans h4, (hb.cell (p := ⟨b, o + 1, none⟩) l2).trans h5, (hb.cell (p := ⟨b, o + 2, none⟩) l2).trans h6, h7, h8, h9.trans (hb.mono h9.size)⟩
theorem S6.keep {u : World} {B b o : Nat} {y l : Pc} {W : World} {f : FuncId} {args : Array Value} {v : Value} (hS : S6 u B b o y l W)
    (h : Calls Try.prog f args W fun e w' => e = .returned v ∧ Below W.heap.size W w') : Calls Try.prog f args W fun e w' => e = .returned v ∧ S6 u B b o y l w' ∧ Below W.heap.size W w' :=
  h.mono fun _ _ ⟨he, hb⟩ => ⟨he, hS.go hb, hb⟩

/-- A box of three cells. -/
def Box3 (w : World) (B : Nat) (y : Pc) : Prop := B < w.heap.size ∧ w.cell? ⟨B, 0, none⟩ = some (.int .i64 y.f) ∧ w.cell? ⟨B, 1, none⟩ = some (.int .i64 y.u) ∧ w.cell? ⟨B, 2, none⟩ = some (.int .i64 y.v)
theorem Box3.new (w : World) (y : Pc) (t : TypeId) : Box3 (w.alloc (.cells #[.int .i64 y.f, .int .i64 y.u, .int .i64 y.v] t)) w.heap.size y :=
  ⟨by simp, World.cell?_alloc_mark w _ _ (0, 0) 0, World.cell?_alloc_mark w _ _ (0, 0) 1, World.cell?_alloc_mark w _ _ (0, 0) 2⟩
theorem Box3.below {w w' : World} {B : Nat} {y : Pc} (h : Box3 w B y) (hb : Below w.heap.size w w') : Box3 w' B y :=
  ⟨Nat.lt_of_lt_of_le h.1 hb.size, (hb.cell (p := ⟨B, 0, none⟩) h.1).trans h.2.1, (hb.cell (p := ⟨B, 1, none⟩) h.1).trans h.2.2.1, (hb.cell (p := ⟨B, 2, none⟩) h.1).trans h.2.2.2⟩

theorem BdN {B : Nat} {a w : World} (h : Below B a w) (n : Nat) : Below B a (w.drewN n) := h.trans ⟨rfl, rfl, rfl, Nat.le_refl _, fun _ _ => rfl⟩
def RetV (v : Int) (w : World) (e : Ending) (w' : World) : Prop := e = .returned (.int .i64 v) ∧ Below w.heap.size w w'

set_option maxHeartbeats 4000000 in
theorem Check_some (b off n c : Nat) (P : Nat → Pc) (w : World) (hn : n ≤ 1024) (hP : Pcs w b off n P) :
    Calls Try.prog 16 #[.slice (some ⟨b, off, none⟩) n c] w (RetV (ckE P n) w) := by
  have HP := Lib.hid hP
  clear hP
  have e1 : ¬ (1024 : Int) < (n : Int) := by omega
  go_enter Try.func16, Try.ntmps16
  go_wp2
  go_loopg [3, 4, 10] n (fun gg _ _ s10 wr => ∃ kk : Nat, kk ≤ n ∧ n - kk ≤ gg ∧ s10 = .int .i64 kk ∧ Aside (Below w.heap.size w wr) ∧ Aside (ckE P kk = 0))
  case atStart => exact ⟨0, Nat.zero_le _, by omega, rfl, Below.refl _ w, rfl⟩
  case round =>
    obtain ⟨kk, hkk, hg, rfl, BW, A⟩ := hrel
    by_cases hlt : kk < n
    · have hltz : (kk : Int) < (n : Int) := by omega
      have KA := Lib.hid (fun h => ckE_at P A.out h hlt)
      have KN := Lib.hid (ckE_next P A.out)
      obtain ⟨l0, l1, l2⟩ := (HP.out.below BW.out).2 kk hlt
      have AB := (Below.refl wr.heap.size wr).alloc (Nat.le_refl _) (.cells #[.int .i64 (P kk).f, .int .i64 (P kk).u, .int .i64 (P kk).v] 47)
      have BX := Lib.hid (Box3.new wr (P kk) 47)
      have BW2 := Lib.hid (BW.out.trans (AB.mono BW.out.size))
      clear AB
      have x0 := BX.out.2.1
      have x1 := BX.out.2.2.1
      have hcall := Lib.hid (isSpan_any (P kk).f (P kk).u)
      cases hq : spanB (P kk).f (P kk).u with
      | false =>
        have CA : ckAt P kk = 2 := by unfold ckAt; rw [if_neg (by rw [hq]; decide)]
        have CA := Lib.hid CA
        rw [hq] at hcall
        clear hq
        go_wp2_with fail
        refine (hcall.out _).mono ?_; rintro e w' ⟨rfl, hb'⟩
        go_wp2
        go_ret
        exact ⟨by rw [KA.out (by rw [CA.out]; decide), CA.out]; rfl, BW2.out.trans (hb'.mono BW2.out.size)⟩
      | true =>
        rw [hq] at hcall
        go_wp2_with fail
        refine (hcall.out _).mono ?_; rintro e w' ⟨rfl, hb'⟩
        have BX2 := Lib.hid (BX.out.below hb')
        have BW3 := Lib.hid (BW2.out.trans (hb'.mono BW2.out.size))
        have BXlt : wr.heap.size < w'.heap.size := BX2.out.1
        clear x0 x1 hcall l0 l1 l2 hb' BX BW2
        generalize hy : P kk = y at *
        obtain ⟨_, x0, x1, x2⟩ := BX2.out
        by_cases hk0 : kk = 0
        · have CA : ckAt P kk = 0 := by unfold ckAt; rw [hy, if_pos hq, if_neg (by omega)]
          have CA := Lib.hid (KN.out CA)
          have g0 : decide ((0 : Int) < (kk : Int)) = false := by simp; omega
          clear hq hy KA KN
          go_wp2_with fail
          go_quiet (fail)
          go_wp2_with fail
          go_roundg (n - (kk + 1))
          case measure => omega
          case rel => exact ⟨kk + 1, by omega, by omega, by go_num, (show Aside _ from BdN BW3.out _), (show Aside _ from CA.out)⟩
        · obtain ⟨m, rfl⟩ : ∃ m, kk = m + 1 := ⟨kk - 1, by omega⟩
          have CA : ckAt P (m + 1) = if y.f < (P m).u ∨ linkB (P m) y = true then 5 else 0 := by
            unfold ckAt; rw [hy, if_pos hq]
            by_cases q : y.f < (P m).u ∨ linkB (P m) y = true
            · rw [if_pos q, if_pos ⟨by omega, by simpa using q⟩]
            · rw [if_neg q, if_neg (fun h => q (by simpa using h.2))]
          obtain ⟨m0, m1, m2⟩ := (HP.out.below BW3.out).2 m (by omega)
          have hb : b < w'.heap.size := (HP.out.below BW3.out).1
          have hcon := continues_any (P m) y
          generalize P m = z at *
          have HC := Lib.hid hcon
          clear hq hy hk0 hcon
          have g0 : decide ((0 : Int) < ((m + 1 : Nat) : Int)) = true := by simp
          have s1 : IntKind.i64.wrap (((m + 1 : Nat) : Int) - 1) = (m : Int) := by rw [show ((m + 1 : Nat) : Int) - 1 = (m : Int) from by omega]; exact IntWalk.i64_in _ ⟨by omega, by omega⟩
          have s5 : IntKind.i64.wrap ((m : Int) + 1 - 1) = (m : Int) := by rw [show (m : Int) + 1 - 1 = (m : Int) from by omega]; exact IntWalk.i64_in _ ⟨by omega, by omega⟩
          have s6 : IntKind.i64.wrap (m : Int) = (m : Int) := IntWalk.i64_in _ ⟨by omega, by omega⟩
          have s2 : (0 : Int) ≤ (m : Int) := by omega
          have s3 : (m : Int) < (n : Int) := by omega
          have s4 : ((m : Int)).toNat = m := by omega
          by_cases c1 : y.f < z.u
          · rw [if_pos (Or.inl c1)] at CA
            have CA := Lib.hid CA
            have HB := Lib.hid hb
            clear hb
            go_wp2_with fail
            go_quiet (fail)
            go_wp2_with fail
            go_ret
            exact ⟨by rw [KA.out (by rw [CA.out]; decide), CA.out]; rfl, BdN BW3.out _⟩
          · have hS0 : S6 w' wr.heap.size b (off + m * 3) y z w'.drew := ⟨x0, x1, x2, m0, m1, m2, BXlt, hb, (Below.refl _ w').drew⟩
            have hS0 := Lib.hid hS0
            have g1 : decide (y.f < z.u) = false := by simpa using c1
            cases c2 : linkB z y with
            | true =>
              rw [c2] at HC CA
              rw [if_pos (Or.inr rfl)] at CA
              clear c1
              have CA := Lib.hid CA
              clear x0 x1 x2 m0 m1 m2 c2 BXlt hb
              go_wp2_with fail
              go_region_held3 (fun W => W.cell? ⟨wr.heap.size, 0, none⟩ = some (.int .i64 y.f) ∧ W.cell? ⟨wr.heap.size, 1, none⟩ = some (.int .i64 y.u) ∧ W.cell? ⟨wr.heap.size, 2, none⟩ = some (.int .i64 y.v) ∧ W.cell? ⟨b, off + m * 3, none⟩ = some (.int .i64 z.f) ∧ W.cell? ⟨b, off + m * 3 + 1, none⟩ = some (.int .i64 z.u) ∧ W.cell? ⟨b, off + m * 3 + 2, none⟩ = some (.int .i64 z.v) ∧ (wr.heap.size < w'.heap.size ∧ b < w'.heap.size ∧ Below w'.heap.size w' W))
                (first | assumption | exact hS0.out)
                ((go_at_call 33; refine (S6.keep (u := w') (B := wr.heap.size) (b := b) (o := off + m * 3) (y := y) (l := z) (by assumption) (HC.out _)).mono ?_; rintro e w5 ⟨rfl, hS5, b5⟩))
              go_wp2_with fail
              go_ret
              exact ⟨by rw [KA.out (by rw [CA.out]; decide), CA.out]; rfl, BW3.out.trans (hS5.2.2.2.2.2.2.2.2.mono BW3.out.size)⟩
            | false =>
              rw [c2] at HC CA
              rw [if_neg (by intro h; rcases h with h | h; exact c1 h; cases h)] at CA
              clear c1
              have CA := Lib.hid (KN.out CA)
              clear x0 x1 x2 m0 m1 m2 c2 BXlt hb KA KN
              go_wp2_with fail
              go_region_held3 (fun W => W.cell? ⟨wr.heap.size, 0, none⟩ = some (.int .i64 y.f) ∧ W.cell? ⟨wr.heap.size, 1, none⟩ = some (.int .i64 y.u) ∧ W.cell? ⟨wr.heap.size, 2, none⟩ = some (.int .i64 y.v) ∧ W.cell? ⟨b, off + m * 3, none⟩ = some (.int .i64 z.f) ∧ W.cell? ⟨b, off + m * 3 + 1, none⟩ = some (.int .i64 z.u) ∧ W.cell? ⟨b, off + m * 3 + 2, none⟩ = some (.int .i64 z.v) ∧ (wr.heap.size < w'.heap.size ∧ b < w'.heap.size ∧ Below w'.heap.size w' W))
                (first | assumption | exact hS0.out)
                ((go_at_call 33; refine (S6.keep (u := w') (B := wr.heap.size) (b := b) (o := off + m * 3) (y := y) (l := z) (by assumption) (HC.out _)).mono ?_; rintro e w5 ⟨rfl, hS5, b5⟩))
              clear s1 s5 s6
              go_wp2_with fail
              go_roundg (n - (m + 1 + 1))
              case measure => omega
              case rel => exact ⟨m + 1 + 1, by omega, by omega, by go_num, (show Aside _ from BW3.out.trans (hS5.2.2.2.2.2.2.2.2.mono BW3.out.size)), (show Aside _ from CA.out)⟩
    · have : kk = n := by omega
      subst this
      have hltz : ¬ (kk : Int) < (kk : Int) := by omega
      go_wp2
      go_ret
      exact ⟨by rw [A.out]; rfl, BW.out⟩

set_option maxHeartbeats 1000000 in
theorem Check_large (p : Option Addr) (n c : Nat) (w : World) (hn : 1024 < n) (hm : n ≤ 9223372036854775807) :
    Calls Try.prog 16 #[.slice p n c] w (RetV 8 w) := by
  have e1 : (1024 : Int) < (n : Int) := by omega
  go_enter Try.func16, Try.ntmps16
  go_wp2
  go_ret
  exact ⟨rfl, Below.refl _ w⟩
set_option maxHeartbeats 1000000 in
theorem Check_none (p : Option Addr) (c : Nat) (w : World) :
    Calls Try.prog 16 #[.slice p 0 c] w (RetV 0 w) := by
  go_enter Try.func16, Try.ntmps16
  go_wp2
  go_loopg [10] 1 (fun gg s10 wr => s10 = .int .i64 0 ∧ Aside (Below w.heap.size w wr))
  case atStart => exact ⟨rfl, Below.refl _ w⟩
  case round =>
    obtain ⟨rfl, BW⟩ := hrel
    go_wp2
    go_ret
    exact ⟨rfl, BW.out⟩
end Go.Proofs.Ytekigilhmdphnaa
