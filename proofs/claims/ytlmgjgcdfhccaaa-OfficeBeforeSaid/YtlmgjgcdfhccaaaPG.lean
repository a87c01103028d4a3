/- What a chain is: mathematics. Contains. -/
import Derived.Test.YtlmgjgcdfhccaaaPF
namespace Go.Proofs.Ytlmgjgcdfhccaaa
open Go.RowKit Go.Maps Go.Shelf

theorem good_ix {os : List Of} (hg : (ckV os).2 = 0) {k : Nat} {o : Of} (ho : os[k]? = some o) : ixO os o.id = some k := by
  obtain ⟨i, hi⟩ := ixO_of ho
  obtain ⟨o', ho', e⟩ := ixO_at hi
  rcases Nat.lt_trichotomy i k with h | h | h
  · have := good_lt hg (k - i - 1) i o' o ho' (by rw [show i + (k - i - 1) + 1 = k by omega]; exact ho)
    omega
  · rw [hi, h]
  · have := good_lt hg (i - k - 1) k o o' ho (by rw [show k + (i - k - 1) + 1 = i by omega]; exact ho')
    omega
theorem Ch.head {os : List Of} {day : Int} {i : Nat} {L : List Int} (h : Ch os day i L) : ∃ o, os[i]? = some o ∧ L[0]? = some o.id := by
  cases h with
  | stop ho _ => exact ⟨_, ho, rfl⟩
  | step ho _ _ _ _ => exact ⟨_, ho, rfl⟩
theorem Ch.frs {os : List Of} (hg : (ckV os).2 = 0) {day : Int} {i : Nat} {L : List Int} (h : Ch os day i L) : ∃ o, os[i]? = some o ∧ (∀ x ∈ L, o.fr ≤ frA os x) ∧ L.Pairwise (fun a b => frA os a < frA os b) := by
  induction h with
  | stop ho _ =>
    refine ⟨_, ho, fun x hx => ?_, List.pairwise_singleton _ _⟩
    rw [List.mem_singleton.1 hx, frA_at (good_ix hg ho) ho]
    exact Int.le_refl _
  | @step i j o x r L ho _ hx hj _ ih =>
    obtain ⟨o2, ho2, h1, h2⟩ := ih
    obtain ⟨j', o3, hj', ho3, _, hf⟩ := (good_ok hg ho).ix x (by rw [hx]; exact List.mem_cons_self ..)
    rw [hj] at hj'; cases hj'
    rw [ho2] at ho3; cases ho3
    have sp := of_decide_eq_true (good_ok hg ho).sp
    have fo : frA os o.id = o.fr := frA_at (good_ix hg ho) ho
    refine ⟨o, ho, fun y hy => ?_, List.pairwise_cons.2 ⟨fun y hy => ?_, h2⟩⟩
    · rcases List.mem_cons.1 hy with rfl | hy
      · omega
      · have := h1 y hy; omega
    · have := h1 y hy; omega
theorem Ch.nodup {os : List Of} (hg : (ckV os).2 = 0) {day : Int} {i : Nat} {L : List Int} (h : Ch os day i L) : L.Nodup := by
  obtain ⟨_, _, _, hp⟩ := h.frs hg
  exact hp.imp fun {a b} h e => by rw [e] at h; omega
theorem Ch.rc {os : List Of} (hg : (ckV os).2 = 0) {day : Int} {i : Nat} {L : List Int} (h : Ch os day i L) : ∀ o, os[i]? = some o → ∀ x ∈ L, Rc os o.id x := by
  induction h with
  | stop ho _ =>
    intro o ho' x hx
    rw [ho] at ho'; cases ho'
    rw [List.mem_singleton.1 hx]; exact .refl
  | @step i j o x r L ho _ hx hj _ ih =>
    intro o' ho' y hy
    rw [ho] at ho'; cases ho'
    rcases List.mem_cons.1 hy with rfl | hy
    · exact .refl
    · obtain ⟨o2, ho2, e2⟩ := ixO_at hj
      have := ih o2 ho2 y hy
      rw [e2] at this
      exact (Rc.refl.step ⟨i, o, good_ix hg ho, ho, by rw [hx]; exact List.mem_cons_self ..⟩).trans this
/-- One place of a chain. -/
def ChAt (os : List Of) (day : Int) (L : List Int) (t : Nat) : Prop := ∃ k o, L[t]? = some o.id ∧ ixO os o.id = some k ∧ os[k]? = some o ∧
  ((t + 1 = L.length ∧ (hasB o.fr o.un day = true ∨ o.nx = [])) ∨ (t + 1 < L.length ∧ ∃ x r m o2, L[t + 1]? = some x ∧ hasB o.fr o.un day = false ∧ o.nx = x :: r ∧ ixO os x = some m ∧ os[m]? = some o2 ∧ o2.fr = o.un))
theorem Ch.at {os : List Of} (hg : (ckV os).2 = 0) {day : Int} {i : Nat} {L : List Int} (h : Ch os day i L) : ∀ t, t < L.length → ChAt os day L t := by
  induction h with
  | @stop i o ho hs =>
    intro t ht
    obtain rfl : t = 0 := by simpa using ht
    exact ⟨_, o, rfl, good_ix hg ho, ho, Or.inl ⟨rfl, hs⟩⟩
  | @step i j o x r L ho hb hx hj hc ih =>
    intro t ht
    cases t with
    | zero =>
      obtain ⟨o2, ho2, h0⟩ := hc.head
      obtain ⟨j', o3, hj', ho3, e3, hf⟩ := (good_ok hg ho).ix x (by rw [hx]; exact List.mem_cons_self ..)
      rw [hj] at hj'; cases hj'
      rw [ho2] at ho3; cases ho3
      exact ⟨i, o, rfl, good_ix hg ho, ho, Or.inr ⟨by have := hc.pos; simp; omega, x, r, j, o2, by rw [List.getElem?_cons_succ, h0, e3], hb, hx, hj, ho2, hf⟩⟩
    | succ t =>
      obtain ⟨k, o', h1, h2, h3, h4⟩ := ih t (by simpa using ht)
      refine ⟨k, o', by rw [List.getElem?_cons_succ]; exact h1, h2, h3, ?_⟩
      rcases h4 with ⟨h5, h6⟩ | ⟨h5, x', r', m, o2, h6, h7⟩
      · exact Or.inl ⟨by simp; omega, h6⟩
      · exact Or.inr ⟨by simp; omega, x', r', m, o2, by rw [List.getElem?_cons_succ]; exact h6, h7⟩
/-- Contains, in a list or in its beginning. -/
theorem contains_any (p : Option Addr) (c : Nat) (zs : List Int) (k : Nat) (x : Int) (w : World) (h : IsZ w (.slice p zs.length c) zs) (hk : k ≤ zs.length) (hn : zs.length ≤ 2000000) :
    Calls Try.prog 24 #[.slice p k c, .int .i64 x] w fun e w' => e = .returned (.bool (decide (x ∈ zs.take k))) ∧ w' = w := by
  obtain ⟨p', c', e, hc, hcell⟩ := h
  obtain ⟨rfl, _, rfl⟩ := Value.slice.inj e
  by_cases k0 : k = 0
  · subst k0
    exact (Any.slices_Contains_int_empty Try.lays107 _ c x w).mono fun e w' ⟨h1, h2⟩ => ⟨by rw [h1]; simp, h2⟩
  · obtain ⟨g, off, rfl, hg, hcl⟩ := hcell (by omega)
    refine (Any.slices_Contains_int Try.lays107 g off k c zs x w hk (by omega) (fun j hj => ?_)).mono fun e w' ⟨h1, h2⟩ => ⟨by rw [h1, List.contains_eq_mem], h2⟩
    rw [hcl j hj]
    simp [List.getD, List.getElem?_eq_getElem hj]
end Go.Proofs.Ytlmgjgcdfhccaaa
