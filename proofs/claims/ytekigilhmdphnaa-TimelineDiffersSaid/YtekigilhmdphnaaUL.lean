/- The reference's lists say the same. No walk. -/
import Derived.Test.YtekigilhmdphnaaUK
namespace Go.Proofs.Ytekigilhmdphnaa
open Go.RowKit Go.Shelf

theorem foldR_filter : ∀ (M L : List Pc), M.foldl putR L = (M.filter (fun x => decide (x.f < x.u))).foldl putL L
  | [], L => rfl
  | x :: M, L => by
    rw [List.foldl_cons, List.filter_cons]
    by_cases c : x.f < x.u
    · rw [if_pos (by simpa using c), List.foldl_cons, foldR_filter M]
      congr 1
      unfold putR; rw [if_neg (by omega)]
    · rw [if_neg (by simpa using c), foldR_filter M]
      congr 1
      unfold putR; rw [if_pos (by omega)]
/-- The pieces of a timeline, cut to some days. -/
def cutL (P : Nat → Pc) (n : Nat) (a b : Int) : List Pc := (toL (fun k => clip a b (P k)) n).filter (fun x => decide (x.f < x.u))
theorem mem_cut {P : Nat → Pc} {n : Nat} {a b : Int} {x : Pc} : x ∈ cutL P n a b ↔ ∃ k, k < n ∧ x = clip a b (P k) ∧ x.f < x.u := by
  unfold cutL
  rw [List.mem_filter, mem_toL]
  constructor
  · rintro ⟨⟨k, hk, e⟩, h⟩
    exact ⟨k, hk, e.symm, of_decide_eq_true h⟩
  · rintro ⟨k, hk, e, h⟩
    exact ⟨⟨k, hk, e.symm⟩, decide_eq_true h⟩
theorem cut_hv {P : Nat → Pc} {n : Nat} {a b : Int} {d v : Int} : hv (cutL P n a b) d v ↔ hv (toL P n) d v ∧ a ≤ d ∧ d < b := by
  constructor
  · rintro ⟨x, hx, hd, e⟩
    obtain ⟨k, hk, rfl, hne⟩ := mem_cut.1 hx
    have hd := of_decide_eq_true hd
    unfold clip at hd e
    simp only at hd e
    refine ⟨hv_toL.2 ⟨k, hk, ?_, e⟩, ?_⟩
    · split at hd <;> split at hd <;> omega
    · split at hd <;> split at hd <;> omega
  · rintro ⟨h, ha, hb⟩
    obtain ⟨k, hk, hd, e⟩ := hv_toL.1 h
    refine ⟨clip a b (P k), mem_cut.2 ⟨k, hk, rfl, ?_⟩, decide_eq_true ?_, e⟩
    · unfold clip; simp only
      split <;> split <;> omega
    · unfold clip; simp only
      split <;> split <;> omega
theorem cut_good {P : Nat → Pc} {n : Nat} {a b : Int} (ho : Ord P n) (ha : 0 ≤ a) (hb : b ≤ 1048576) : Gd (cutL P n a b) := by
  refine ⟨fun x hx => ?_, ?_⟩
  · obtain ⟨k, hk, rfl, hne⟩ := mem_cut.1 hx
    have s := ho.sp k hk
    refine decide_eq_true (show 0 ≤ (clip a b (P k)).f ∧ (clip a b (P k)).f < (clip a b (P k)).u ∧ (clip a b (P k)).u ≤ 1048576 from ⟨?_, hne, ?_⟩)
    · unfold clip; simp only; split <;> omega
    · unfold clip; simp only; split <;> omega
  · unfold cutL toL
    rw [List.filter_map, List.pairwise_map]
    refine List.Pairwise.imp_of_mem (R := fun x y => x < y) (fun {i j} hi hj hij => ?_) (List.Pairwise.filter _ List.pairwise_lt_range)
    obtain ⟨mi, ni⟩ := List.mem_filter.1 hi
    obtain ⟨mj, nj⟩ := List.mem_filter.1 hj
    have ni := of_decide_eq_true ni
    have nj := of_decide_eq_true nj
    have lj := List.mem_range.1 mj
    have x := ho.nx i j hij lj
    have si := ho.sp i (by have := List.mem_range.1 mi; omega)
    have sj := ho.sp j lj
    unfold clip at ni nj ⊢
    simp only at ni nj
    unfold nx at x ⊢
    simp only
    rcases x with x | ⟨x, y⟩
    · left
      split at ni <;> split at ni <;> split at nj <;> split at nj <;> (repeat' split) <;> omega
    · right
      refine ⟨?_, y⟩
      split at ni <;> split at ni <;> split at nj <;> split at nj <;> (repeat' split) <;> omega
theorem cut_ne {P : Nat → Pc} {n : Nat} {a b : Int} : (cutL P n a b).filter (fun x => decide (x.f < x.u)) = cutL P n a b := by
  unfold cutL; rw [List.filter_filter]; simp
theorem foldR_ne {M L : List Pc} (h : M.filter (fun x => decide (x.f < x.u)) = M) : M.foldl putR L = M.foldl putL L := by rw [foldR_filter, h]
/-- What cut makes. -/
theorem cut_list {P : Nat → Pc} {n : Nat} {a b : Int} (ho : Ord P n) (ha : 0 ≤ a) (hb : b ≤ 1048576) : (toL (fun k => clip a b (P k)) n).foldl putR [] = cutL P n a b := by
  rw [foldR_filter]
  have := fold_same (cutL P n a b) [] (by rw [List.nil_append]; exact (cut_good ho ha hb).2)
  rw [List.nil_append] at this
  exact this
/-- What change makes. -/
theorem change_list {P : Nat → Pc} {n : Nat} {f u : Int} (wl : List Pc) (ho : Ord P n) (hd : 0 ≤ f ∧ f < u ∧ u ≤ 1048576) (hw : wl = [] ∨ ∃ v, wl = [⟨f, u, v⟩]) :
    SetF P n f u wl (((toL (fun k => clip u 1048576 (P k)) n).foldl putR []).foldl putR (wl.foldl putR ((toL (fun k => clip 0 f (P k)) n).foldl putR []))) := by
  have g1 := cut_good (a := 0) (b := f) ho (Int.le_refl 0) (by omega)
  have g2 := cut_good (a := u) (b := 1048576) ho (by omega) (Int.le_refl _)
  have wne : wl.filter (fun x => decide (x.f < x.u)) = wl := by
    rcases hw with rfl | ⟨v, rfl⟩
    · rfl
    · rw [List.filter_cons, if_pos (by simpa using hd.2.1)]; rfl
  have j1 : cutL P n 0 f = joinL (cutL P n 0 f) := by
    have := fold_same (cutL P n 0 f) [] (by rw [List.nil_append]; exact g1.2)
    rw [List.nil_append] at this
    exact this.symm
  rw [cut_list ho (by omega) (Int.le_refl _), cut_list ho (Int.le_refl 0) (by omega), foldR_ne wne, foldR_ne cut_ne]
  have e : (cutL P n u 1048576).foldl putL (wl.foldl putL (cutL P n 0 f)) = joinL (cutL P n 0 f ++ wl ++ cutL P n u 1048576) := by
    conv => lhs; rw [j1]
    unfold joinL
    rw [List.foldl_append, List.foldl_append]
  rw [e]
  have m1 : ∀ x ∈ cutL P n 0 f, x.u ≤ f := fun x hx => by
    obtain ⟨k, hk, rfl, _⟩ := mem_cut.1 hx
    unfold clip; simp only; split <;> omega
  have m2 : ∀ x ∈ cutL P n u 1048576, u ≤ x.f := fun x hx => by
    obtain ⟨k, hk, rfl, _⟩ := mem_cut.1 hx
    unfold clip; simp only; split <;> omega
  have mw : ∀ x ∈ wl, x.f = f ∧ x.u = u := fun x hx => by
    rcases hw with rfl | ⟨v, rfl⟩
    · cases hx
    · rw [List.mem_singleton] at hx; rw [hx]; exact ⟨rfl, rfl⟩
  have pw : wl.Pairwise le2 := by
    rcases hw with rfl | ⟨v, rfl⟩
    · exact List.Pairwise.nil
    · exact List.pairwise_singleton _ _
  have J := joinL_good (L := cutL P n 0 f ++ wl ++ cutL P n u 1048576) (fun x hx => by
      rcases List.mem_append.1 hx with a | a
      · rcases List.mem_append.1 a with b | b
        · exact g1.1 x b
        · obtain ⟨e1, e2⟩ := mw x b
          exact decide_eq_true (by rw [e1, e2]; exact hd)
      · exact g2.1 x a) (by
      refine List.pairwise_append.2 ⟨List.pairwise_append.2 ⟨g1.le, pw, fun a ha b hb => ?_⟩, g2.le, fun a ha b hb => ?_⟩
      · have := m1 a ha
        have := mw b hb
        show a.u ≤ b.f
        omega
      · have := m2 b hb
        show a.u ≤ b.f
        rcases List.mem_append.1 ha with c | c
        · have := m1 a c; omega
        · have := mw a c; omega)
  refine ⟨J.1, fun d v => ?_⟩
  rw [J.2, hv_append, hv_append, cut_hv, cut_hv]
  have hr : hv (toL P n) d v → 0 ≤ d ∧ d < 1048576 := fun h => by
    obtain ⟨k, hk, a, _⟩ := hv_toL.1 h
    have := ho.sp k hk
    omega
  constructor
  · rintro ((⟨h, a, b⟩ | h) | ⟨h, a, b⟩)
    · exact Or.inr ⟨h, by omega⟩
    · exact Or.inl h
    · exact Or.inr ⟨h, by omega⟩
  · rintro (h | ⟨h, a⟩)
    · exact Or.inl (Or.inr h)
    · have r := hr h
      by_cases c : d < f
      · exact Or.inl (Or.inl ⟨h, r.1, c⟩)
      · exact Or.inr ⟨h, by omega, r.2⟩
end Go.Proofs.Ytekigilhmdphnaa
