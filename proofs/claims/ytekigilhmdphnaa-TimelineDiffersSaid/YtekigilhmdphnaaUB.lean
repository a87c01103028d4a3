/- What replaced makes of a timeline in order. No walk. -/
import Derived.Test.YtekigilhmdphnaaUA
namespace Go.Proofs.Ytekigilhmdphnaa
open Go.RowKit Go.Shelf

structure Ord (P : Nat → Pc) (n : Nat) : Prop where
  sp : ∀ k, k < n → 0 ≤ (P k).f ∧ (P k).f < (P k).u ∧ (P k).u ≤ 1048576
  nx : ∀ i j, i < j → j < n → nx (P i) (P j)
theorem ord_of_gd (P : Nat → Pc) : ∀ n, Gd (toL P n) → Ord P n
  | 0, _ => ⟨fun k h => absurd h (Nat.not_lt_zero k), fun i j _ h => absurd h (Nat.not_lt_zero j)⟩
  | n + 1, h => by
    rw [toL_succ] at h
    obtain ⟨hs, hp⟩ := h
    obtain ⟨p1, _, p2⟩ := List.pairwise_append.1 hp
    have ih := ord_of_gd P n ⟨fun p hp => hs p (List.mem_append.2 (Or.inl hp)), p1⟩
    refine ⟨fun k hk => ?_, fun i j hij hj => ?_⟩
    · rcases Nat.lt_succ_iff_lt_or_eq.1 hk with a | rfl
      · exact ih.sp k a
      · exact of_decide_eq_true (hs _ (List.mem_append.2 (Or.inr (List.mem_singleton.2 rfl))))
    · rcases Nat.lt_succ_iff_lt_or_eq.1 hj with a | rfl
      · exact ih.nx i j hij a
      · exact p2 _ (mem_toL.2 ⟨i, hij, rfl⟩) _ (List.mem_singleton.2 rfl)
theorem Ord.le {P : Nat → Pc} {n : Nat} (h : Ord P n) (i j : Nat) (hij : i < j) (hj : j < n) : (P i).u ≤ (P j).f := (h.nx i j hij hj).le
theorem toL_take (P : Nat → Pc) {n r : Nat} (h : r ≤ n) : (toL P n).take r = toL P r := by
  unfold toL; rw [← List.map_take, List.take_range, Nat.min_eq_left h]
theorem mem_drop_toL {P : Nat → Pc} {n s : Nat} {p : Pc} (h : p ∈ (toL P n).drop s) : ∃ k, s ≤ k ∧ k < n ∧ P k = p := by
  obtain ⟨i, hi⟩ := List.mem_iff_getElem?.1 h
  rw [List.getElem?_drop] at hi
  have := (List.getElem?_eq_some_iff.1 hi).1
  rw [toL_length] at this
  rw [toL_get P this] at hi
  exact ⟨s + i, by omega, this, by injection hi⟩
theorem drop_mem_toL {P : Nat → Pc} {n s k : Nat} (h1 : s ≤ k) (h2 : k < n) : P k ∈ (toL P n).drop s := by
  refine List.mem_iff_getElem?.2 ⟨k - s, ?_⟩
  rw [List.getElem?_drop, show s + (k - s) = k from by omega, toL_get P h2]
theorem hv_toL {P : Nat → Pc} {n : Nat} {d v : Int} : hv (toL P n) d v ↔ ∃ k, k < n ∧ ((P k).f ≤ d ∧ d < (P k).u) ∧ (P k).v = v := by
  constructor
  · rintro ⟨p, hp, h, e⟩
    obtain ⟨k, hk, rfl⟩ := mem_toL.1 hp
    exact ⟨k, hk, of_decide_eq_true h, e⟩
  · rintro ⟨k, hk, h, e⟩
    exact ⟨P k, mem_toL.2 ⟨k, hk, rfl⟩, decide_eq_true h, e⟩

section
variable {P : Nat → Pc} {n r s : Nat} {df du : Int}
theorem mem_left {x : Pc} (h : x ∈ leftL P r s df) : r < s ∧ (P r).f < df ∧ x = ⟨(P r).f, df, (P r).v⟩ := by
  unfold leftL at h
  split at h
  · rename_i c
    exact ⟨c.1, c.2, List.mem_singleton.1 h⟩
  · cases h
theorem mem_right {x : Pc} (h : x ∈ rightL P r s du) : r < s ∧ du < (P (s - 1)).u ∧ x = ⟨du, (P (s - 1)).u, (P (s - 1)).v⟩ := by
  unfold rightL at h
  split at h
  · rename_i c
    exact ⟨c.1, c.2, List.mem_singleton.1 h⟩
  · cases h
theorem left_pw {R : Pc → Pc → Prop} : (leftL P r s df).Pairwise R := by unfold leftL; split <;> simp
theorem right_pw {R : Pc → Pc → Prop} : (rightL P r s du).Pairwise R := by unfold rightL; split <;> simp
theorem Ends.before (he : Ends P n r s df du) (ho : Ord P n) {k : Nat} (hk : k < r) : (P k).u ≤ df := by
  obtain ⟨h1, h2, h3, _⟩ := he
  have h3 := h3 (by omega)
  rcases Nat.lt_or_ge k (r - 1) with c | c
  · have := ho.le k (r - 1) c (by omega)
    have := ho.sp (r - 1) (by omega)
    omega
  · rw [show k = r - 1 from by omega]; exact h3
theorem Ends.after (he : Ends P n r s df du) (ho : Ord P n) {k : Nat} (hk : s ≤ k) (hn : k < n) : du ≤ (P k).f := by
  obtain ⟨h1, h2, _, _, _, h3⟩ := he
  have h3 := h3 (by omega)
  rcases Nat.lt_or_ge s k with c | c
  · have := ho.le s k c hn
    have := ho.sp s (by omega)
    omega
  · rw [show k = s from by omega]; exact h3
theorem rep_spans (he : Ends P n r s df du) (ho : Ord P n) (hd : 0 ≤ df ∧ df < du ∧ du ≤ 1048576) {wl : List Pc} (hw : Sp wl) : Sp (repL P n r s df du wl) := fun x hx => by
  obtain ⟨h1, h2, _⟩ := he
  unfold repL at hx
  rcases List.mem_append.1 hx with a | a
  · rcases List.mem_append.1 a with b | b
    · rw [toL_take P (by omega)] at b
      obtain ⟨k, hk, rfl⟩ := mem_toL.1 b
      exact decide_eq_true (ho.sp k (by omega))
    · rcases List.mem_append.1 b with c | c
      · rcases List.mem_append.1 c with e | e
        · obtain ⟨q, t, rfl⟩ := mem_left e
          have := ho.sp r (by omega)
          exact decide_eq_true (show 0 ≤ (P r).f ∧ (P r).f < df ∧ df ≤ 1048576 by omega)
        · exact hw x e
      · obtain ⟨q, t, rfl⟩ := mem_right c
        have := ho.sp (s - 1) (by omega)
        exact decide_eq_true (show 0 ≤ du ∧ du < (P (s - 1)).u ∧ (P (s - 1)).u ≤ 1048576 by omega)
  · obtain ⟨k, _, hk, rfl⟩ := mem_drop_toL a
    exact decide_eq_true (ho.sp k hk)
theorem toL_pw (ho : Ord P n) : (toL P n).Pairwise nx := by
  unfold toL
  rw [List.pairwise_map]
  refine List.Pairwise.imp_of_mem (R := fun a b => a < b) (fun {a b} ha hb hab => ?_) List.pairwise_lt_range
  exact ho.nx a b hab (List.mem_range.1 hb)
/-- Without a piece that comes in: still in order. -/
theorem rep_clear (he : Ends P n r s df du) (ho : Ord P n) (hd : 0 ≤ df ∧ df < du ∧ du ≤ 1048576) : Gd (repL P n r s df du []) := by
  refine ⟨rep_spans he ho hd (fun x hx => by cases hx), ?_⟩
  have h12 := he
  obtain ⟨h1, h2, _⟩ := h12
  unfold repL
  rw [List.append_nil]
  refine List.pairwise_append.2 ⟨List.pairwise_append.2 ⟨(toL_pw ho).sublist (List.take_sublist _ _), List.pairwise_append.2 ⟨left_pw, right_pw, fun a ha b hb => ?_⟩, fun a ha b hb => ?_⟩, (toL_pw ho).sublist (List.drop_sublist _ _), fun a ha b hb => ?_⟩
  · obtain ⟨_, _, rfl⟩ := mem_left ha
    obtain ⟨_, _, rfl⟩ := mem_right hb
    exact Or.inl hd.2.1
  · rw [toL_take P (by omega)] at ha
    obtain ⟨k, hk, rfl⟩ := mem_toL.1 ha
    have hb' := he.before ho hk
    rcases List.mem_append.1 hb with c | c
    · obtain ⟨_, _, rfl⟩ := mem_left c
      exact ho.nx k r hk (by omega)
    · obtain ⟨_, _, rfl⟩ := mem_right c
      exact Or.inl (show (P k).u < du by omega)
  · obtain ⟨k, hk1, hk2, rfl⟩ := mem_drop_toL hb
    have hb' := he.after ho hk1 hk2
    rcases List.mem_append.1 ha with c | c
    · rw [toL_take P (by omega)] at c
      obtain ⟨i, hi, rfl⟩ := mem_toL.1 c
      exact ho.nx i k (by omega) hk2
    · rcases List.mem_append.1 c with e | e
      · obtain ⟨_, _, rfl⟩ := mem_left e
        exact Or.inl (show df < (P k).f by omega)
      · obtain ⟨q, _, rfl⟩ := mem_right e
        exact ho.nx (s - 1) k (by omega) hk2
/-- With the piece of the span: in order but for pieces that must be one. -/
theorem rep_set (v : Int) (he : Ends P n r s df du) (ho : Ord P n) (hd : 0 ≤ df ∧ df < du ∧ du ≤ 1048576) : Sp (repL P n r s df du [⟨df, du, v⟩]) ∧ (repL P n r s df du [⟨df, du, v⟩]).Pairwise le2 := by
  refine ⟨rep_spans he ho hd (fun x hx => by rw [List.mem_singleton] at hx; rw [hx]; exact decide_eq_true hd), ?_⟩
  have h12 := he
  obtain ⟨h1, h2, _⟩ := h12
  have tl : (toL P n).Pairwise le2 := (toL_pw ho).imp (fun h => h.le)
  unfold repL
  refine List.pairwise_append.2 ⟨List.pairwise_append.2 ⟨tl.sublist (List.take_sublist _ _), List.pairwise_append.2 ⟨List.pairwise_append.2 ⟨left_pw, List.pairwise_singleton _ _, fun a ha b hb => ?_⟩, right_pw, fun a ha b hb => ?_⟩, fun a ha b hb => ?_⟩, tl.sublist (List.drop_sublist _ _), fun a ha b hb => ?_⟩
  · obtain ⟨_, _, rfl⟩ := mem_left ha
    rw [List.mem_singleton] at hb; rw [hb]
    exact Int.le_refl df
  · obtain ⟨_, _, rfl⟩ := mem_right hb
    rcases List.mem_append.1 ha with c | c
    · obtain ⟨_, _, rfl⟩ := mem_left c
      exact Int.le_of_lt hd.2.1
    · rw [List.mem_singleton] at c; rw [c]
      exact Int.le_refl du
  · rw [toL_take P (by omega)] at ha
    obtain ⟨k, hk, rfl⟩ := mem_toL.1 ha
    have hb' := he.before ho hk
    rcases List.mem_append.1 hb with c | c
    · rcases List.mem_append.1 c with e | e
      · obtain ⟨_, _, rfl⟩ := mem_left e
        exact (ho.nx k r hk (by omega)).le
      · rw [List.mem_singleton] at e; rw [e]
        exact hb'
    · obtain ⟨_, _, rfl⟩ := mem_right c
      exact show (P k).u ≤ du by omega
  · obtain ⟨k, hk1, hk2, rfl⟩ := mem_drop_toL hb
    have hb' := he.after ho hk1 hk2
    rcases List.mem_append.1 ha with c | c
    · rw [toL_take P (by omega)] at c
      obtain ⟨i, hi, rfl⟩ := mem_toL.1 c
      exact ho.le i k (by omega) hk2
    · rcases List.mem_append.1 c with e | e
      · rcases List.mem_append.1 e with g | g
        · obtain ⟨_, _, rfl⟩ := mem_left g
          exact show df ≤ (P k).f by omega
        · rw [List.mem_singleton] at g; rw [g]
          exact hb'
      · obtain ⟨q, _, rfl⟩ := mem_right e
        exact (ho.nx (s - 1) k (by omega) hk2).le
/-- What it says of each day. -/
theorem rep_hv (wl : List Pc) (he : Ends P n r s df du) (ho : Ord P n) (d v : Int) : hv (repL P n r s df du wl) d v ↔ hv wl d v ∨ (hv (toL P n) d v ∧ ¬ (df ≤ d ∧ d < du)) := by
  have h12 := he
  obtain ⟨h1, h2, _, h4, h5, _⟩ := h12
  unfold repL
  rw [hv_append, hv_append, hv_append, hv_append, toL_take P (by omega)]
  constructor
  · rintro ((h | (h | h) | h) | h)
    · obtain ⟨k, hk, hkd, e⟩ := hv_toL.1 h
      have := he.before ho hk
      exact Or.inr ⟨hv_toL.2 ⟨k, by omega, hkd, e⟩, by omega⟩
    · obtain ⟨p, hp, a, e⟩ := h
      obtain ⟨q, t, rfl⟩ := mem_left hp
      have a := of_decide_eq_true a
      have a : (P r).f ≤ d ∧ d < df := a
      have := h4 (by omega)
      exact Or.inr ⟨hv_toL.2 ⟨r, by omega, ⟨a.1, by omega⟩, e⟩, by omega⟩
    · exact Or.inl h
    · obtain ⟨p, hp, a, e⟩ := h
      obtain ⟨q, t, rfl⟩ := mem_right hp
      have a := of_decide_eq_true a
      have a : du ≤ d ∧ d < (P (s - 1)).u := a
      have := h5 q
      exact Or.inr ⟨hv_toL.2 ⟨s - 1, by omega, ⟨by omega, a.2⟩, e⟩, by omega⟩
    · obtain ⟨p, hp, a, e⟩ := h
      obtain ⟨k, hk1, hk2, rfl⟩ := mem_drop_toL hp
      have a := of_decide_eq_true a
      have := he.after ho hk1 hk2
      exact Or.inr ⟨hv_toL.2 ⟨k, hk2, a, e⟩, by omega⟩
  · rintro (h | ⟨h, hd'⟩)
    · exact Or.inl (Or.inr (Or.inl (Or.inr h)))
    · obtain ⟨k, hk, hkd, e⟩ := hv_toL.1 h
      rcases Nat.lt_or_ge k r with c | c
      · exact Or.inl (Or.inl (hv_toL.2 ⟨k, c, hkd, e⟩))
      · rcases Nat.lt_or_ge k s with c2 | c2
        · by_cases x : d < df
          · have : k = r := by
              rcases Nat.lt_or_ge r k with c3 | c3
              · have := ho.le r k c3 hk
                have := h4 (by omega)
                omega
              · omega
            subst this
            have l : leftL P k s df = [⟨(P k).f, df, (P k).v⟩] := if_pos ⟨c2, by omega⟩
            rw [l]
            exact Or.inl (Or.inr (Or.inl (Or.inl (hv_one.2 ⟨⟨hkd.1, x⟩, e⟩))))
          · have y : du ≤ d := by omega
            have : k = s - 1 := by
              rcases Nat.lt_or_ge k (s - 1) with c3 | c3
              · have := ho.le k (s - 1) c3 (by omega)
                have := h5 (by omega)
                omega
              · omega
            subst this
            have l : rightL P r s du = [⟨du, (P (s - 1)).u, (P (s - 1)).v⟩] := if_pos ⟨by omega, by omega⟩
            rw [l]
            exact Or.inl (Or.inr (Or.inr (hv_one.2 ⟨⟨y, hkd.2⟩, e⟩)))
        · exact Or.inr ⟨P k, drop_mem_toL c2 hk, decide_eq_true hkd, e⟩
end
end Go.Proofs.Ytekigilhmdphnaa
