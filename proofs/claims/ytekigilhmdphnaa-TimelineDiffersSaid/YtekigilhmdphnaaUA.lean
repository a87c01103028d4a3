/- Timelines as lists: in order, what they say of a day, joining. No walk. -/
import Derived.Test.YtekigilhmdphnaaTZ
namespace Go.Proofs.Ytekigilhmdphnaa
open Go.RowKit Go.Shelf

/-- Of two pieces, the first ends where the second begins, or ahead of it. -/
def le2 (p q : Pc) : Prop := p.u ≤ q.f
/-- And they need not be one. -/
def nx (p q : Pc) : Prop := p.u < q.f ∨ (p.u = q.f ∧ p.v ≠ q.v)
def Sp (L : List Pc) : Prop := ∀ p ∈ L, spanB p.f p.u = true
/-- A timeline in order. -/
def Gd (L : List Pc) : Prop := Sp L ∧ L.Pairwise nx
/-- The list says a value of a day. -/
def hv (L : List Pc) (d v : Int) : Prop := ∃ p ∈ L, hasB p d = true ∧ p.v = v
theorem nx.le {p q : Pc} (h : nx p q) : le2 p q := by
  rcases h with h | h
  · exact Int.le_of_lt h
  · exact Int.le_of_eq h.1
theorem hv_append {L M : List Pc} {d v : Int} : hv (L ++ M) d v ↔ hv L d v ∨ hv M d v := by
  constructor
  · rintro ⟨p, hp, h⟩
    rcases List.mem_append.1 hp with a | a
    · exact Or.inl ⟨p, a, h⟩
    · exact Or.inr ⟨p, a, h⟩
  · rintro (⟨p, hp, h⟩ | ⟨p, hp, h⟩)
    · exact ⟨p, List.mem_append.2 (Or.inl hp), h⟩
    · exact ⟨p, List.mem_append.2 (Or.inr hp), h⟩
theorem hv_one {p : Pc} {d v : Int} : hv [p] d v ↔ (p.f ≤ d ∧ d < p.u) ∧ p.v = v := by
  constructor
  · rintro ⟨q, hq, h, e⟩
    rw [List.mem_singleton] at hq; subst hq
    exact ⟨of_decide_eq_true h, e⟩
  · rintro ⟨h, e⟩
    exact ⟨p, List.mem_singleton.2 rfl, decide_eq_true h, e⟩
theorem hv_nil {d v : Int} : ¬ hv [] d v := fun ⟨_, h, _⟩ => by cases h
theorem hv_cons {p : Pc} {L : List Pc} {d v : Int} : hv (p :: L) d v ↔ ((p.f ≤ d ∧ d < p.u) ∧ p.v = v) ∨ hv L d v := by
  rw [show p :: L = [p] ++ L from rfl, hv_append, hv_one]
/-- A list in order says at most one value. -/
theorem hv_one_value : ∀ {L : List Pc} {d v v' : Int}, Sp L → L.Pairwise le2 → hv L d v → hv L d v' → v = v'
  | [], _, _, _, _, _, h, _ => absurd h hv_nil
  | p :: L, d, v, v', hs, hl, h, h' => by
    have hs' : Sp L := fun q hq => hs q (List.mem_cons_of_mem _ hq)
    obtain ⟨h1, h2⟩ := List.pairwise_cons.1 hl
    have key : ∀ {x y : Int}, (p.f ≤ d ∧ d < p.u) ∧ p.v = x → hv L d y → False := fun ⟨a, _⟩ ⟨q, hq, b, _⟩ => by
      have b := of_decide_eq_true b
      have := h1 q hq
      unfold le2 at this
      omega
    rcases hv_cons.1 h with a | a <;> rcases hv_cons.1 h' with b | b
    · rw [← a.2, ← b.2]
    · exact absurd b (fun b => key a b)
    · exact absurd a (fun a => key b a)
    · exact hv_one_value hs' h2 a b

/-- Check's fault is none exactly for a timeline in order. -/
theorem ck_step (P : Nat → Pc) (k : Nat) : ckAt P k = 0 ↔ spanB (P k).f (P k).u = true ∧ (0 < k → nx (P (k - 1)) (P k)) := by
  unfold ckAt
  by_cases hs : spanB (P k).f (P k).u = true
  · rw [if_pos hs]
    by_cases hc : 0 < k ∧ ((P k).f < (P (k - 1)).u ∨ linkB (P (k - 1)) (P k) = true)
    · rw [if_pos hc]
      constructor
      · intro h; exact absurd h (by decide)
      · rintro ⟨_, h⟩
        rcases h hc.1 with h | h
        · rcases hc.2 with a | a
          · omega
          · have := of_decide_eq_true a; omega
        · rcases hc.2 with a | a
          · omega
          · have := of_decide_eq_true a; exact absurd this.2 h.2
    · rw [if_neg hc]
      refine ⟨fun _ => ⟨hs, fun h0 => ?_⟩, fun _ => rfl⟩
      have hc : ¬ ((P k).f < (P (k - 1)).u ∨ linkB (P (k - 1)) (P k) = true) := fun h => hc ⟨h0, h⟩
      have c1 : ¬ (P k).f < (P (k - 1)).u := fun h => hc (Or.inl h)
      have c2 : ¬ ((P (k - 1)).u = (P k).f ∧ (P (k - 1)).v = (P k).v) := fun h => hc (Or.inr (decide_eq_true h))
      unfold nx
      by_cases e : (P (k - 1)).u = (P k).f
      · exact Or.inr ⟨e, fun hv => c2 ⟨e, hv⟩⟩
      · left; omega
  · rw [if_neg hs]
    exact ⟨fun h => absurd h (by decide), fun h => absurd h.1 hs⟩
theorem ckE_zero (P : Nat → Pc) : ∀ n, ckE P n = 0 ↔ ∀ k, k < n → ckAt P k = 0
  | 0 => ⟨fun _ k h => absurd h (Nat.not_lt_zero k), fun _ => rfl⟩
  | n + 1 => by
    constructor
    · intro h k hk
      by_cases h0 : ckE P n = 0
      · rcases Nat.lt_succ_iff_lt_or_eq.1 hk with a | rfl
        · exact (ckE_zero P n).1 h0 k a
        · by_cases c : ckAt P k = 0
          · exact c
          · exact absurd ((ckE_at P h0 c (Nat.lt_succ_self k)).symm.trans h) c
      · exact absurd ((ckE_stop P h0 (Nat.le_succ n)).symm.trans h) h0
    · intro h
      exact ckE_next P ((ckE_zero P n).2 fun k hk => h k (by omega)) (h n (Nat.lt_succ_self n))
theorem toL_succ (P : Nat → Pc) (n : Nat) : toL P (n + 1) = toL P n ++ [P n] := by
  unfold toL; rw [List.range_succ, List.map_append]; rfl
theorem mem_toL {P : Nat → Pc} {n : Nat} {p : Pc} : p ∈ toL P n ↔ ∃ k, k < n ∧ P k = p := by
  unfold toL; simp
theorem gd_of_steps (P : Nat → Pc) : ∀ n, (∀ k, k < n → spanB (P k).f (P k).u = true ∧ (0 < k → nx (P (k - 1)) (P k))) → Gd (toL P n)
  | 0, _ => ⟨fun p hp => by simp [toL] at hp, by simp [toL]⟩
  | n + 1, h => by
    have ih := gd_of_steps P n (fun k hk => h k (by omega))
    rw [toL_succ]
    obtain ⟨s, t⟩ := h n (Nat.lt_succ_self n)
    refine ⟨fun p hp => ?_, List.pairwise_append.2 ⟨ih.2, List.pairwise_singleton _ _, fun a ha b hb => ?_⟩⟩
    · rcases List.mem_append.1 hp with a | a
      · exact ih.1 p a
      · rw [List.mem_singleton] at a; subst a; exact s
    · rw [List.mem_singleton] at hb; subst hb
      obtain ⟨k, hk, rfl⟩ := mem_toL.1 ha
      have t := t (by omega)
      rcases Nat.lt_or_ge k (n - 1) with c | c
      · -- further back: the piece between has days
        obtain ⟨s1, _⟩ := h (n - 1) (by omega)
        have s1 := of_decide_eq_true s1
        have : nx (P k) (P (n - 1)) := by
          have := ih.2
          obtain ⟨m, rfl⟩ : ∃ m, n = m + 1 := ⟨n - 1, by omega⟩
          rw [toL_succ] at this
          exact (List.pairwise_append.1 this).2.2 _ (mem_toL.2 ⟨k, by omega, rfl⟩) _ (List.mem_singleton.2 rfl)
        have a := this.le
        have b := t.le
        unfold le2 at a b
        left; omega
      · have : k = n - 1 := by omega
        subst this; exact t
theorem steps_of_gd (P : Nat → Pc) : ∀ n, Gd (toL P n) → ∀ k, k < n → spanB (P k).f (P k).u = true ∧ (0 < k → nx (P (k - 1)) (P k))
  | 0, _, k, hk => absurd hk (Nat.not_lt_zero k)
  | n + 1, h, k, hk => by
    rw [toL_succ] at h
    obtain ⟨hs, hp⟩ := h
    obtain ⟨p1, _, p2⟩ := List.pairwise_append.1 hp
    rcases Nat.lt_succ_iff_lt_or_eq.1 hk with a | rfl
    · exact steps_of_gd P n ⟨fun p hp => hs p (List.mem_append.2 (Or.inl hp)), p1⟩ k a
    · exact ⟨hs _ (List.mem_append.2 (Or.inr (List.mem_singleton.2 rfl))), fun h0 => p2 _ (mem_toL.2 ⟨k - 1, by omega, rfl⟩) _ (List.mem_singleton.2 rfl)⟩
theorem ck_gd (P : Nat → Pc) (n : Nat) : ckE P n = 0 ↔ Gd (toL P n) := by
  rw [ckE_zero]
  exact ⟨fun h => gd_of_steps P n fun k hk => (ck_step P k).1 (h k hk), fun h k hk => (ck_step P k).2 (steps_of_gd P n h k hk)⟩

/-- A piece is put behind a list, or its last one is made longer. -/
def putL (acc : List Pc) (p : Pc) : List Pc := match acc.getLast? with
  | some q => if linkB q p = true then acc.dropLast ++ [⟨q.f, p.u, q.v⟩] else acc ++ [p]
  | none => [p]
def joinL (L : List Pc) : List Pc := L.foldl putL []
theorem putL_snoc (acc : List Pc) (q p : Pc) : putL (acc ++ [q]) p = if linkB q p = true then acc ++ [⟨q.f, p.u, q.v⟩] else acc ++ [q] ++ [p] := by
  unfold putL
  simp
theorem putL_nil (p : Pc) : putL [] p = [p] := rfl
theorem nil_or_snoc (L : List Pc) : L = [] ∨ ∃ M q, L = M ++ [q] := by
  rcases List.eq_nil_or_concat L with h | ⟨M, q, h⟩
  · exact Or.inl h
  · exact Or.inr ⟨M, q, by simpa using h⟩

theorem putL_inv (acc rest : List Pc) (p : Pc) (hs : Sp (acc ++ p :: rest)) (hl : (acc ++ p :: rest).Pairwise le2) (hn : acc.Pairwise nx) :
    Sp (putL acc p ++ rest) ∧ (putL acc p ++ rest).Pairwise le2 ∧ (putL acc p).Pairwise nx ∧ ∀ d v, hv (putL acc p ++ rest) d v ↔ hv (acc ++ p :: rest) d v := by
  rcases nil_or_snoc acc with rfl | ⟨M, q, rfl⟩
  · rw [putL_nil]
    exact ⟨hs, hl, List.pairwise_singleton _ _, fun d v => Iff.rfl⟩
  · rw [putL_snoc]
    have hq : spanB q.f q.u = true := hs q (by simp)
    have hp : spanB p.f p.u = true := hs p (by simp)
    have hq' := of_decide_eq_true hq
    have hp' := of_decide_eq_true hp
    obtain ⟨l1, l2, l3⟩ := List.pairwise_append.1 hl
    obtain ⟨m1, _, m3⟩ := List.pairwise_append.1 l1
    obtain ⟨r1, r2⟩ := List.pairwise_cons.1 l2
    obtain ⟨n1, _, n3⟩ := List.pairwise_append.1 hn
    by_cases c : linkB q p = true
    · rw [if_pos c]
      have c' := of_decide_eq_true c
      refine ⟨fun x hx => ?_, ?_, ?_, fun d v => ?_⟩
      · rcases List.mem_append.1 hx with a | a
        · rcases List.mem_append.1 a with b | b
          · exact hs x (by simp [b])
          · rw [List.mem_singleton] at b; subst b
            exact decide_eq_true (show 0 ≤ q.f ∧ q.f < p.u ∧ p.u ≤ 1048576 by omega)
        · exact hs x (by simp [a])
      · refine List.pairwise_append.2 ⟨List.pairwise_append.2 ⟨m1, List.pairwise_singleton _ _, fun a ha b hb => ?_⟩, r2, fun a ha b hb => ?_⟩
        · rw [List.mem_singleton] at hb; subst hb
          exact m3 a ha q (by simp)
        · rcases List.mem_append.1 ha with x | x
          · exact l3 a (by simp [x]) b (by simp [hb])
          · rw [List.mem_singleton] at x; subst x
            exact r1 b hb
      · refine List.pairwise_append.2 ⟨n1, List.pairwise_singleton _ _, fun a ha b hb => ?_⟩
        rw [List.mem_singleton] at hb; subst hb
        exact n3 a ha q (by simp)
      · have e1 : hv (M ++ [⟨q.f, p.u, q.v⟩] ++ rest) d v ↔ (hv M d v ∨ ((q.f ≤ d ∧ d < p.u) ∧ q.v = v)) ∨ hv rest d v := by rw [hv_append, hv_append, hv_one]
        have e2 : hv (M ++ [q] ++ p :: rest) d v ↔ (hv M d v ∨ ((q.f ≤ d ∧ d < q.u) ∧ q.v = v)) ∨ (((p.f ≤ d ∧ d < p.u) ∧ p.v = v) ∨ hv rest d v) := by rw [hv_append, hv_append, hv_one, hv_cons]
        rw [e1, e2]
        constructor
        · rintro ((h | h) | h)
          · exact Or.inl (Or.inl h)
          · by_cases x : d < q.u
            · exact Or.inl (Or.inr ⟨⟨h.1.1, x⟩, h.2⟩)
            · exact Or.inr (Or.inl ⟨⟨by omega, h.1.2⟩, by rw [← c'.2]; exact h.2⟩)
          · exact Or.inr (Or.inr h)
        · rintro ((h | h) | h | h)
          · exact Or.inl (Or.inl h)
          · exact Or.inl (Or.inr ⟨⟨h.1.1, by show d < p.u; omega⟩, h.2⟩)
          · exact Or.inl (Or.inr ⟨⟨by show q.f ≤ d; omega, h.1.2⟩, by rw [c'.2]; exact h.2⟩)
          · exact Or.inr h
    · rw [if_neg c]
      refine ⟨fun x hx => hs x (by simpa using hx), by simpa using hl, ?_, fun d v => by simp⟩
      have hqp : nx q p := by
        have := l3 q (by simp) p (by simp)
        unfold le2 at this
        have c2 : ¬ (q.u = p.f ∧ q.v = p.v) := fun h => c (decide_eq_true h)
        unfold nx
        by_cases e : q.u = p.f
        · exact Or.inr ⟨e, fun hv => c2 ⟨e, hv⟩⟩
        · left; omega
      refine List.pairwise_append.2 ⟨hn, List.pairwise_singleton _ _, fun a ha b hb => ?_⟩
      rw [List.mem_singleton] at hb; rw [hb]
      rcases List.mem_append.1 ha with x | x
      · have a1 := m3 a x q (by simp)
        have a2 := l3 q (by simp) p (by simp)
        unfold le2 at a1 a2
        left; omega
      · rw [List.mem_singleton] at x; rw [x]
        exact hqp
theorem fold_inv : ∀ (rest acc : List Pc), Sp (acc ++ rest) → (acc ++ rest).Pairwise le2 → acc.Pairwise nx → Gd (rest.foldl putL acc) ∧ ∀ d v, hv (rest.foldl putL acc) d v ↔ hv (acc ++ rest) d v
  | [], acc, hs, _, hn => by
    rw [List.append_nil] at hs ⊢
    exact ⟨⟨hs, hn⟩, fun d v => Iff.rfl⟩
  | p :: rest, acc, hs, hl, hn => by
    obtain ⟨a, b, c, e⟩ := putL_inv acc rest p hs hl hn
    obtain ⟨g, h⟩ := fold_inv rest (putL acc p) a b c
    exact ⟨g, fun d v => (h d v).trans (e d v)⟩
theorem joinL_good {L : List Pc} (hs : Sp L) (hl : L.Pairwise le2) : Gd (joinL L) ∧ ∀ d v, hv (joinL L) d v ↔ hv L d v := fold_inv L [] hs hl List.Pairwise.nil
/-- Where nothing joins, nothing changes. -/
theorem fold_same : ∀ (rest acc : List Pc), (acc ++ rest).Pairwise nx → rest.foldl putL acc = acc ++ rest
  | [], acc, _ => by simp
  | p :: rest, acc, h => by
    have e : putL acc p = acc ++ [p] := by
      rcases nil_or_snoc acc with rfl | ⟨M, q, rfl⟩
      · rfl
      · rw [putL_snoc, if_neg]
        intro c
        have c := of_decide_eq_true c
        have := (List.pairwise_append.1 h).2.2 q (by simp) p (by simp)
        rcases this with x | x
        · omega
        · exact x.2 c.2
    rw [List.foldl_cons, e, fold_same rest (acc ++ [p]) (by simpa using h)]
    simp

/-- What joined makes, as a list. -/
theorem toL_upd (M : Nat → Pc) (m : Nat) (p : Pc) : toL (updP M m p) m = toL M m := by
  unfold toL
  apply List.map_congr_left
  intro k hk
  have := List.mem_range.1 hk
  show updP M m p k = M k
  unfold updP
  rw [if_neg (by omega)]
theorem jm_list (P : Nat → Pc) : ∀ k, toL (jm P k).1 (jm P k).2 = joinL (toL P k)
  | 0 => rfl
  | k + 1 => by
    have ih := jm_list P k
    rw [toL_succ, joinL, List.foldl_append, ← joinL, ← ih, List.foldl_cons, List.foldl_nil]
    have e : jm P (k + 1) = if 0 < (jm P k).2 ∧ linkB ((jm P k).1 ((jm P k).2 - 1)) (P k) = true
      then (updP (jm P k).1 ((jm P k).2 - 1) ⟨((jm P k).1 ((jm P k).2 - 1)).f, (P k).u, ((jm P k).1 ((jm P k).2 - 1)).v⟩, (jm P k).2)
      else (updP (jm P k).1 (jm P k).2 (P k), (jm P k).2 + 1) := rfl
    rw [e]
    clear e ih
    generalize (jm P k).1 = M at *
    generalize (jm P k).2 = m at *
    rcases Nat.eq_zero_or_pos m with rfl | h0
    · rw [if_neg (fun h => absurd h.1 (Nat.lt_irrefl 0))]
      show toL (updP M 0 (P k)) (0 + 1) = putL [] (P k)
      rw [toL_succ, toL_upd, putL_nil]
      show [] ++ [updP M 0 (P k) 0] = _
      unfold updP; rfl
    · obtain ⟨m', rfl⟩ : ∃ m', m = m' + 1 := ⟨m - 1, by omega⟩
      rw [Nat.add_sub_cancel, toL_succ M m', putL_snoc]
      by_cases c : linkB (M m') (P k) = true
      · rw [if_pos ⟨h0, c⟩, if_pos c]
        show toL (updP M m' _) (m' + 1) = _
        rw [toL_succ, toL_upd]
        unfold updP
        rw [if_pos rfl]
      · rw [if_neg (fun h => c h.2), if_neg c]
        show toL (updP M (m' + 1) _) (m' + 1 + 1) = _
        rw [toL_succ, toL_upd, toL_succ]
        unfold updP
        rw [if_pos rfl]
end Go.Proofs.Ytekigilhmdphnaa
