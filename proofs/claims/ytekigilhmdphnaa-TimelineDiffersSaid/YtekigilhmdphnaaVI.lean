/- The reference's next; what its loop keeps. -/
import Derived.Test.YtekigilhmdphnaaVH
namespace Go.Proofs.Ytekigilhmdphnaa
open Go.RowKit Go.Shelf

def nstep (o d x : Int) : Int := if d < x ∧ x < o then x else o
def nxtP (P : Nat → Pc) (d : Int) : Nat → Int
  | 0 => 1048576
  | k + 1 => nstep (nstep (nxtP P d k) d (P k).f) d (P k).u
theorem nstep_le {o d x : Int} : nstep o d x ≤ o := by unfold nstep; split <;> omega
theorem nstep_gt {o d x : Int} (h : d < o) : d < nstep o d x := by unfold nstep; split <;> omega
theorem nstep_min {o d x : Int} (h : d < x) : nstep o d x ≤ x := by unfold nstep; split <;> omega
theorem nstep_or (o d x : Int) : nstep o d x = o ∨ nstep o d x = x := by unfold nstep; split <;> simp
theorem nxt_le (P : Nat → Pc) (d : Int) : ∀ n, nxtP P d n ≤ 1048576
  | 0 => Int.le_refl _
  | n + 1 => Int.le_trans nstep_le (Int.le_trans nstep_le (nxt_le P d n))
theorem nxt_gt (P : Nat → Pc) {d : Int} (h : d < 1048576) : ∀ n, d < nxtP P d n
  | 0 => h
  | n + 1 => nstep_gt (nstep_gt (nxt_gt P h n))
theorem nxt_min (P : Nat → Pc) (d : Int) : ∀ n, ∀ p ∈ toL P n, (d < p.f → nxtP P d n ≤ p.f) ∧ (d < p.u → nxtP P d n ≤ p.u)
  | 0, p, h => by cases h
  | n + 1, p, h => by
    rw [toL_succ] at h
    rcases List.mem_append.1 h with a | a
    · have ih := nxt_min P d n p a
      have : nxtP P d (n + 1) ≤ nxtP P d n := Int.le_trans nstep_le nstep_le
      exact ⟨fun h => Int.le_trans this (ih.1 h), fun h => Int.le_trans this (ih.2 h)⟩
    · obtain rfl := List.mem_singleton.1 a
      exact ⟨fun h => Int.le_trans nstep_le (nstep_min h), fun h => nstep_min h⟩
theorem nxt_mem (P : Nat → Pc) (d : Int) : ∀ n, nxtP P d n = 1048576 ∨ nxtP P d n ∈ eps (toL P n)
  | 0 => Or.inl rfl
  | n + 1 => by
    rw [toL_succ, eps_snoc]
    rcases nstep_or (nstep (nxtP P d n) d (P n).f) d (P n).u with a | a
    · rcases nstep_or (nxtP P d n) d (P n).f with b | b
      · rcases nxt_mem P d n with c | c
        · exact Or.inl (a.trans (b.trans c))
        · exact Or.inr (by rw [show nxtP P d (n + 1) = nxtP P d n from a.trans b]; simp [c])
      · exact Or.inr (by rw [show nxtP P d (n + 1) = (P n).f from a.trans b]; simp)
    · exact Or.inr (by rw [show nxtP P d (n + 1) = (P n).u from a]; simp)

set_option maxRecDepth 10000 in
set_option maxHeartbeats 4000000 in
theorem next_any (p : Option Addr) (n c : Nat) (P : Nat → Pc) (d : Int) (w : World) (hn : n ≤ 1099511627776) (hP : IsP w p n c P) :
    Calls Try.prog 44 #[.slice p n c, .int .i64 d] w fun e w' => e = .returned (.int .i64 (nxtP P d n)) ∧ Below w.heap.size w w' := by
  have HP := Lib.hid hP
  clear hP
  go_enter Try.func44, Try.ntmps44
  go_wp2_with fail
  go_loopg [5, 6] n (fun gg s5 s6 wr => ∃ k : Nat, k ≤ n ∧ n - k ≤ gg ∧ s5 = .int .i64 (nxtP P d k) ∧ s6 = .int .i64 k ∧ Aside (Below w.heap.size w wr))
  case atStart => exact ⟨0, Nat.zero_le _, by omega, rfl, rfl, Below.refl _ w⟩
  case round =>
    obtain ⟨k, hk, hg, rfl, rfl, BW⟩ := hrel
    by_cases hlt : k < n
    · have hltz : (k : Int) < (n : Int) := by omega
      have hz0 : (0 : Int) ≤ (k : Int) := by omega
      obtain ⟨b, off, rfl, hp⟩ := (HP.out.below BW.out).row (by omega)
      obtain ⟨l0, l1, l2⟩ := hp.2 k hlt
      have NX := Lib.hid (show nxtP P d (k + 1) = nstep (nstep (nxtP P d k) d (P k).f) d (P k).u from rfl)
      generalize nxtP P d k = o at *
      obtain ⟨o', ho'⟩ : ∃ o', o' = nxtP P d (k + 1) := ⟨_, rfl⟩
      rw [← ho'] at NX
      have HO := Lib.hid ho'
      generalize P k = y at *
      clear hp ho'
      go_wp2_with fail
      all_goals
        go_roundg (n - (k + 1))
        case measure => omega
        case rel =>
          refine ⟨k + 1, by omega, by omega, ?_, by go_num, (show Aside _ from BW.out)⟩
          rw [← HO.out, NX.out]
          unfold nstep
          congr 1
          first | rfl | (repeat' split) <;> omega
    · obtain rfl : k = n := by omega
      have hltz : ¬ (k : Int) < (k : Int) := by omega
      go_wp2_with fail
      go_ret
      exact ⟨rfl, BW.out⟩

/-- What the reference's loop keeps: the pieces up to a day. -/
structure RefS (V : Int → Int × Bool) (E : List Int) (R : List Pc) (day : Int) : Prop where
  gd : Gd R
  hvv : ∀ d v, hv R d v ↔ d < day ∧ (V d).2 = true ∧ (V d).1 = v
  len : R.length + (E.filter (fun x => decide (day < x))).length ≤ E.length
  lo : 0 ≤ day
  hi : day ≤ 1048576
def allE (A B : List Pc) : List Int := eps A ++ eps B ++ [1048576]
theorem VOk.rng {V : Int → Int × Bool} {A B : List Pc} (ok : VOk V A B) (hA : Gd A) (hB : Gd B) {d : Int} (h : (V d).2 = true) : 0 ≤ d ∧ d < 1048576 := by
  obtain ⟨p, hp, hb⟩ := ok.out d h
  have b := hasB_iff.1 hb
  rcases hp with a | a
  · have := hA.span a; omega
  · have := hB.span a; omega
theorem VOk.start' {V : Int → Int × Bool} {A B : List Pc} (ok : VOk V A B) (hA : Gd A) (hB : Gd B) : RefS V (allE A B) [] 0 where
  gd := ⟨fun _ h => absurd h (List.not_mem_nil), List.Pairwise.nil⟩
  hvv d v := ⟨fun h => absurd h hv_nil, fun ⟨h1, h2, _⟩ => by have := ok.rng hA hB h2; omega⟩
  len := by rw [List.length_nil, Nat.zero_add]; exact List.length_filter_le _ _
  lo := Int.le_refl _
  hi := by omega
theorem filter_less : ∀ (E : List Int) (d e : Int), d < e → e ∈ E → (E.filter (fun x => decide (e < x))).length + 1 ≤ (E.filter (fun x => decide (d < x))).length
  | [], _, _, _, h => by cases h
  | x :: E, d, e, hde, h => by
    have mono : ∀ (F : List Int), (F.filter (fun x => decide (e < x))).length ≤ (F.filter (fun x => decide (d < x))).length := fun F => by
      induction F with
      | nil => exact Nat.le_refl _
      | cons y F ih =>
        rw [List.filter_cons, List.filter_cons]
        by_cases a : e < y
        · rw [if_pos (by simpa using a), if_pos (by simp; omega)]; simpa using ih
        · rw [if_neg (by simpa using a)]; split
          · exact Nat.le_trans ih (by simp)
          · exact ih
    rw [List.filter_cons, List.filter_cons]
    by_cases hx : e = x
    · subst hx
      rw [if_neg (by simp), if_pos (by simpa using hde)]
      simpa using mono E
    · have ih := filter_less E d e hde ((List.mem_cons.1 h).resolve_left hx)
      by_cases a : e < x
      · rw [if_pos (by simpa using a), if_pos (by simp; omega)]
        simp only [List.length_cons]; omega
      · rw [if_neg (by simpa using a)]; split
        · simp only [List.length_cons]; omega
        · exact ih
/-- The next day of two lists. -/
structure Nxt (A B : List Pc) (day e : Int) : Prop where
  gt : day < e
  le : e ≤ 1048576
  mem : e ∈ allE A B
  min : ∀ p, p ∈ A ∨ p ∈ B → (day < p.f → e ≤ p.f) ∧ (day < p.u → e ≤ p.u)
theorem nxt_two (P Q : Nat → Pc) (n m : Nat) {day : Int} (h : day < 1048576) : Nxt (toL P n) (toL Q m) day (min (nxtP P day n) (nxtP Q day m)) where
  gt := by
    have := nxt_gt P h n
    have := nxt_gt Q h m
    omega
  le := by
    have := nxt_le P day n
    have := nxt_le Q day m
    omega
  mem := by
    unfold allE
    rw [List.mem_append, List.mem_append, List.mem_singleton]
    rcases (by omega : min (nxtP P day n) (nxtP Q day m) = nxtP Q day m ∨ min (nxtP P day n) (nxtP Q day m) = nxtP P day n) with e | e <;> rw [e]
    · rcases nxt_mem Q day m with a | a
      · exact Or.inr a
      · exact Or.inl (Or.inr a)
    · rcases nxt_mem P day n with a | a
      · exact Or.inr a
      · exact Or.inl (Or.inl a)
  min p hp := by
    rcases hp with a | a
    · have := nxt_min P day n p a
      exact ⟨fun h => by have := this.1 h; omega, fun h => by have := this.2 h; omega⟩
    · have := nxt_min Q day m p a
      exact ⟨fun h => by have := this.1 h; omega, fun h => by have := this.2 h; omega⟩
theorem Nxt.const {V : Int → Int × Bool} {A B : List Pc} (ok : VOk V A B) {day e : Int} (h : Nxt A B day e) {d : Int} (h1 : day ≤ d) (h2 : d < e) : V d = V day :=
  ok.cst d day fun p hp => hasB_same (by
    obtain ⟨m1, m2⟩ := h.min p hp
    by_cases a : day < p.f
    · have := m1 a; omega
    · by_cases b : day < p.u
      · have := m2 b; omega
      · omega)
theorem RefS.skip {V : Int → Int × Bool} {A B : List Pc} {R : List Pc} {day e : Int} (h : RefS V (allE A B) R day) (ok : VOk V A B) (hn : Nxt A B day e) (hv0 : (V day).2 = false) : RefS V (allE A B) R e where
  gd := h.gd
  hvv d v := by
    rw [h.hvv]
    constructor
    · rintro ⟨a, b⟩; exact ⟨by have := hn.gt; omega, b⟩
    · rintro ⟨a, b, c⟩
      refine ⟨?_, b, c⟩
      refine Classical.byContradiction fun hd => ?_
      rw [hn.const ok (by omega) a, hv0] at b
      cases b
  len := by
    have := filter_less (allE A B) day e hn.gt hn.mem
    have := h.len
    omega
  lo := by have := hn.gt; have := h.lo; omega
  hi := hn.le
theorem RefS.put {V : Int → Int × Bool} {A B : List Pc} {R : List Pc} {day e : Int} (h : RefS V (allE A B) R day) (ok : VOk V A B) (hn : Nxt A B day e) (hv1 : (V day).2 = true) : RefS V (allE A B) (putR R ⟨day, e, (V day).1⟩) e := by
  have hlt := hn.gt
  have h0 := h.lo
  have hle := hn.le
  have pe : putR R ⟨day, e, (V day).1⟩ = putL R ⟨day, e, (V day).1⟩ := if_neg (by show ¬ e ≤ day; omega)
  have ends : ∀ p ∈ R, p.u ≤ day := fun p hp => by
    have s := h.gd.span hp
    have : hv R (p.u - 1) p.v := ⟨p, hp, hasB_iff.2 ⟨by omega, by omega⟩, rfl⟩
    have := ((h.hvv _ _).1 this).1
    omega
  have sp : Sp (R ++ [⟨day, e, (V day).1⟩]) := fun p hp => by
    rcases List.mem_append.1 hp with a | a
    · exact h.gd.1 p a
    · obtain rfl := List.mem_singleton.1 a
      exact decide_eq_true ⟨h0, hlt, hle⟩
  have pw : (R ++ [(⟨day, e, (V day).1⟩ : Pc)]).Pairwise le2 := List.pairwise_append.2 ⟨h.gd.le, List.pairwise_singleton _ _, fun p hp q hq => by
    obtain rfl := List.mem_singleton.1 hq
    exact ends p hp⟩
  obtain ⟨g, hh⟩ := fold_inv [⟨day, e, (V day).1⟩] R sp pw h.gd.2
  rw [pe]
  refine ⟨g, fun d v => ?_, ?_, by omega, hle⟩
  · rw [show putL R ⟨day, e, (V day).1⟩ = [⟨day, e, (V day).1⟩].foldl putL R from rfl, hh, hv_append, hv_one, h.hvv]
    constructor
    · rintro (⟨a, b⟩ | ⟨⟨a, b⟩, c⟩)
      · exact ⟨by omega, b⟩
      · refine ⟨b, ?_⟩
        rw [hn.const ok a b]
        exact ⟨hv1, c⟩
    · rintro ⟨a, b, c⟩
      by_cases hd : d < day
      · exact Or.inl ⟨hd, b, c⟩
      · rw [hn.const ok (by omega) a] at c
        exact Or.inr ⟨⟨(show day ≤ d by omega), a⟩, c⟩
  · have := filter_less (allE A B) day e hlt hn.mem
    have := h.len
    have := putL_len R ⟨day, e, (V day).1⟩
    omega
theorem RefS.done {V : Int → Int × Bool} {A B : List Pc} {R : List Pc} {day : Int} (h : RefS V (allE A B) R day) (ok : VOk V A B) (hA : Gd A) (hB : Gd B) (hd : ¬ day < 1048576) : Gd R ∧ HvV V R :=
  ⟨h.gd, fun d v => (h.hvv d v).trans ⟨fun x => x.2, fun x => ⟨by have := ok.rng hA hB x.1; omega, x⟩⟩⟩
theorem allE_len (A B : List Pc) : (allE A B).length = 2 * A.length + 2 * B.length + 1 := by
  unfold allE
  rw [List.length_append, List.length_append, eps_length, eps_length]
  rfl
end Go.Proofs.Ytekigilhmdphnaa
