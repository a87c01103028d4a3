/- What lies between the days of two lists. No walk. -/
import Derived.Test.YtekigilhmdphnaaVE
namespace Go.Proofs.Ytekigilhmdphnaa
open Go.RowKit Go.Shelf

structure VOk (V : Int → Int × Bool) (A B : List Pc) : Prop where
  cst : ∀ d e, (∀ p, p ∈ A ∨ p ∈ B → hasB p d = hasB p e) → V d = V e
  out : ∀ d, (V d).2 = true → ∃ p, (p ∈ A ∨ p ∈ B) ∧ hasB p d = true
theorem find_congr : ∀ {A : List Pc} {f g : Pc → Bool}, (∀ p ∈ A, f p = g p) → A.find? f = A.find? g
  | [], _, _, _ => rfl
  | p :: A, f, g, h => by
    rw [List.find?_cons, List.find?_cons, h p (List.mem_cons_self ..), find_congr (fun q hq => h q (List.mem_cons_of_mem _ hq))]
theorem atF_cst {A : List Pc} {d e : Int} (h : ∀ p ∈ A, hasB p d = hasB p e) : atF A d = atF A e := by
  unfold atF
  rw [find_congr (f := fun p => hasB p d) (g := fun p => hasB p e) h]
theorem atF_no {A : List Pc} {d : Int} (h : ∀ p ∈ A, hasB p d = false) : atF A d = (0, false) := by
  unfold atF
  rw [List.find?_eq_none.2 (fun p hp => by rw [h p hp]; decide)]
theorem atF_out {A : List Pc} {d : Int} (h : (atF A d).2 = true) : ∃ p ∈ A, hasB p d = true := by
  rcases atF_val A d with ⟨_, p, hp, hb, _⟩ | ⟨h2, _⟩
  · exact ⟨p, hp, hb⟩
  · rw [h] at h2; cases h2
theorem chF_ok (A B : List Pc) : VOk (chF A B) A B where
  cst d e h := by
    unfold chF
    rw [atF_cst (A := A) (fun p hp => h p (Or.inl hp)), atF_cst (A := B) (fun p hp => h p (Or.inr hp))]
  out d h := by
    refine Classical.byContradiction fun hn => ?_
    have hno : ∀ p, p ∈ A ∨ p ∈ B → hasB p d = false := fun p hp => by
      cases hb : hasB p d with
      | false => rfl
      | true => exact absurd ⟨p, hp, hb⟩ hn
    unfold chF at h
    rw [atF_no (A := A) (fun p hp => hno p (Or.inl hp)), atF_no (A := B) (fun p hp => hno p (Or.inr hp))] at h
    simp at h
theorem ovF_ok (A B : List Pc) : VOk (ovF A B) A B where
  cst d e h := by
    unfold ovF
    rw [atF_cst (A := A) (fun p hp => h p (Or.inl hp)), atF_cst (A := B) (fun p hp => h p (Or.inr hp))]
  out d h := by
    unfold ovF at h
    split at h
    · rename_i hb
      obtain ⟨p, hp, hq⟩ := atF_out hb
      exact ⟨p, Or.inr hp, hq⟩
    · obtain ⟨p, hp, hq⟩ := atF_out h
      exact ⟨p, Or.inl hp, hq⟩
/-- A list says on each day what V says. -/
def HvV (V : Int → Int × Bool) (L : List Pc) : Prop := ∀ d v, hv L d v ↔ ((V d).2 = true ∧ (V d).1 = v)
theorem HvV.same {V : Int → Int × Bool} {L M : List Pc} (hL : HvV V L) (hM : HvV V M) (gL : Gd L) (gM : Gd M) : L = M := gd_unique L M gL gM (fun d v => (hL d v).trans (hM d v).symm)

/-- In order: the days of a row. -/
structure Asc (ds : List Int) (D : Nat → Int) : Prop where
  lt : ∀ i j, i < j → j < ds.length → D i < D j
  mem : ∀ x, x ∈ ds ↔ ∃ i, i < ds.length ∧ D i = x
theorem asc_of {ds : List Int} (h : ds.Pairwise (· < ·)) : Asc ds (fun i => ds.getD i 0) where
  lt i j hij hj := by
    have := List.pairwise_iff_getElem.1 h i j (by omega) hj hij
    simpa [List.getD, hj, show i < ds.length by omega] using this
  mem x := by
    rw [List.mem_iff_getElem]
    constructor
    · rintro ⟨i, hi, rfl⟩; exact ⟨i, hi, by simp [hi]⟩
    · rintro ⟨i, hi, rfl⟩; exact ⟨i, hi, by simp [hi]⟩
theorem Asc.le {ds : List Int} {D : Nat → Int} (h : Asc ds D) {i j : Nat} (hij : i ≤ j) (hj : j < ds.length) : D i ≤ D j := by
  rcases Nat.lt_or_ge i j with a | a
  · exact Int.le_of_lt (h.lt i j a hj)
  · obtain rfl : i = j := by omega
    exact Int.le_refl _
theorem Asc.gap {ds : List Int} {D : Nat → Int} (h : Asc ds D) {k : Nat} (hk : k + 1 < ds.length) {x : Int} (hx : x ∈ ds) : x ≤ D k ∨ D (k + 1) ≤ x := by
  obtain ⟨i, hi, rfl⟩ := (h.mem x).1 hx
  rcases Nat.lt_or_ge k i with a | a
  · exact Or.inr (h.le (by omega) hi)
  · exact Or.inl (h.le a (by omega))
theorem find_step (D : Nat → Int) (d : Int) (i : Nat) (h : D i ≤ d) : ∀ t, d < D (i + t) → ∃ k, k < i + t ∧ D k ≤ d ∧ d < D (k + 1)
  | 0, h2 => by rw [Nat.add_zero] at h2; omega
  | t + 1, h2 => by
    by_cases c : d < D (i + t)
    · obtain ⟨k, hk, h3⟩ := find_step D d i h t c
      exact ⟨k, by omega, h3⟩
    · exact ⟨i + t, by omega, by omega, h2⟩
theorem seg_mem {V : Int → Int × Bool} {D : Nat → Int} {p : Pc} : ∀ m, p ∈ segN V D m → ∃ k, k < m ∧ p = ⟨D k, D (k + 1), (V (D k)).1⟩ ∧ (V (D k)).2 = true
  | 0, h => by cases h
  | m + 1, h => by
    rcases List.mem_append.1 h with a | a
    · obtain ⟨k, hk, h2⟩ := seg_mem m a
      exact ⟨k, by omega, h2⟩
    · split at a
      · rename_i hv
        exact ⟨m, Nat.lt_succ_self m, List.mem_singleton.1 a, hv⟩
      · cases a
theorem seg_in {V : Int → Int × Bool} {D : Nat → Int} {k : Nat} (hv : (V (D k)).2 = true) : ∀ m, k < m → (⟨D k, D (k + 1), (V (D k)).1⟩ : Pc) ∈ segN V D m
  | 0, h => by omega
  | m + 1, h => by
    refine List.mem_append.2 ?_
    rcases Nat.lt_succ_iff_lt_or_eq.1 h with a | rfl
    · exact Or.inl (seg_in hv m a)
    · rw [if_pos hv]; exact Or.inr (List.mem_singleton.2 rfl)
theorem seg_le2 {V : Int → Int × Bool} {ds : List Int} {D : Nat → Int} (h : Asc ds D) : ∀ m, m < ds.length ∨ m = 0 → (segN V D m).Pairwise le2
  | 0, _ => List.Pairwise.nil
  | m + 1, hm => by
    refine List.pairwise_append.2 ⟨seg_le2 h m (by omega), by split <;> simp, fun p hp q hq => ?_⟩
    obtain ⟨k, hk, rfl, _⟩ := seg_mem m hp
    split at hq
    · obtain rfl := List.mem_singleton.1 hq
      show D (k + 1) ≤ D m
      exact h.le (by omega) (by omega)
    · cases hq
theorem hasB_iff {p : Pc} {d : Int} : hasB p d = true ↔ p.f ≤ d ∧ d < p.u := by unfold hasB; exact decide_eq_true_iff
theorem hasB_same {p : Pc} {d e : Int} (h : (p.f ≤ d ∧ d < p.u) ↔ (p.f ≤ e ∧ e < p.u)) : hasB p d = hasB p e := by unfold hasB; exact decide_eq_decide.2 h
theorem Gd.span {L : List Pc} (h : Gd L) {p : Pc} (hp : p ∈ L) : 0 ≤ p.f ∧ p.f < p.u ∧ p.u ≤ 1048576 := of_decide_eq_true (h.1 p hp)
theorem comb_good {V : Int → Int × Bool} {A B : List Pc} {ds : List Int} (ok : VOk V A B) (hA : Gd A) (hB : Gd B) (hd : Days2 A B ds) :
    Gd (joinL (segN V (fun i => ds.getD i 0) (ds.length - 1))) ∧ HvV V (joinL (segN V (fun i => ds.getD i 0) (ds.length - 1))) := by
  have asc := asc_of hd.1
  generalize (fun i => ds.getD i 0) = D at asc ⊢
  have ends : ∀ p, p ∈ A ∨ p ∈ B → p.f ∈ ds ∧ p.u ∈ ds := fun p hp => by
    rcases hp with a | a
    · exact ⟨(hd.2 _).2 (Or.inl ⟨p, a, Or.inl rfl⟩), (hd.2 _).2 (Or.inl ⟨p, a, Or.inr rfl⟩)⟩
    · exact ⟨(hd.2 _).2 (Or.inr ⟨p, a, Or.inl rfl⟩), (hd.2 _).2 (Or.inr ⟨p, a, Or.inr rfl⟩)⟩
  have rng : ∀ x ∈ ds, 0 ≤ x ∧ x ≤ 1048576 := fun x hx => by
    rcases (hd.2 x).1 hx with ⟨p, hp, h⟩ | ⟨p, hp, h⟩
    · have := hA.span hp; omega
    · have := hB.span hp; omega
  have const : ∀ k d, k + 1 < ds.length → D k ≤ d → d < D (k + 1) → V d = V (D k) := fun k d hk h1 h2 => ok.cst d (D k) fun p hp => hasB_same (by
    obtain ⟨e1, e2⟩ := ends p hp
    have := asc.gap hk e1
    have := asc.gap hk e2
    have := asc.lt k (k + 1) (by omega) hk
    omega)
  have sp : Sp (segN V D (ds.length - 1)) := fun p hp => by
    obtain ⟨k, hk, rfl, _⟩ := seg_mem _ hp
    have a := rng _ ((asc.mem _).2 ⟨k, by omega, rfl⟩)
    have b := rng _ ((asc.mem _).2 ⟨k + 1, by omega, rfl⟩)
    have := asc.lt k (k + 1) (by omega) (by omega)
    exact decide_eq_true ⟨a.1, this, b.2⟩
  obtain ⟨g1, g2⟩ := joinL_good sp (seg_le2 asc _ (by omega))
  refine ⟨g1, fun d v => (g2 d v).trans ⟨?_, ?_⟩⟩
  · rintro ⟨p, hp, hb, rfl⟩
    obtain ⟨k, hk, rfl, hv⟩ := seg_mem _ hp
    obtain ⟨b1, b2⟩ := hasB_iff.1 hb
    rw [const k d (by omega) b1 b2]
    exact ⟨hv, rfl⟩
  · rintro ⟨h1, rfl⟩
    obtain ⟨p, hp, hb⟩ := ok.out d h1
    obtain ⟨b1, b2⟩ := hasB_iff.1 hb
    obtain ⟨e1, e2⟩ := ends p hp
    obtain ⟨i, hi, ei⟩ := (asc.mem _).1 e1
    obtain ⟨j, hj, ej⟩ := (asc.mem _).1 e2
    have hij : i < j := Nat.lt_of_not_le fun h => by have := asc.le h hi; omega
    obtain ⟨k, hk, h3, h4⟩ := find_step D d i (by omega) (j - i) (by rw [show i + (j - i) = j by omega]; omega)
    have cv := const k d (by omega) h3 h4
    refine ⟨_, seg_in (k := k) (by rw [← cv]; exact h1) _ (by omega), hasB_iff.2 ⟨h3, h4⟩, ?_⟩
    show (V (D k)).1 = _
    rw [cv]
end Go.Proofs.Ytekigilhmdphnaa
