/- CodeFree. -/
import Derived.Test.YtnjnjcgbdhiigaaGreatDoorDF
namespace Go.Proofs.YtnjnjcgbdhiigaaGreatDoor
open Go.RowKit Go.Shelf

theorem set_last {w w' : World} {K cap : Nat} {g : Nat} {ns : List Nat} {i k : Nat} (h : w.ownsRow K 3 1 (.slice (some ⟨g, 0, none⟩) (ns.length + 1) cap) (ns.length + 1) ((ns ++ [i]).map encN)) (hw : w' = w.setCell ⟨g, ns.length, none⟩ (.int .i64 (k : Nat))) :
    IsN w' (.slice (some ⟨g, 0, none⟩) (ns.length + 1) cap) (ns ++ [k]) := by
  rcases h.2 with ⟨h0, _⟩ | ⟨g', cap', cur, hv, hb, hg, hc, _⟩
  · cases h0
  · obtain ⟨e1, _, rfl⟩ := Value.slice.inj hv
    cases e1
    have hlt := (Array.getElem?_eq_some_iff.1 hg).1
    have cell : ∀ j, j < ns.length + 1 → w.cell? ⟨g, j, none⟩ = (((ns ++ [i]).map encN)[j]?) := fun j hj => by
      obtain ⟨v, hv⟩ : ∃ v, ((ns ++ [i]).map encN)[j]? = some v := ⟨_, List.getElem?_eq_getElem (by simpa using hj)⟩
      have := h.cells (g := g) rfl j v hv
      rw [Addr.add_lit, Nat.zero_add] at this
      rw [this, hv]
    refine ⟨g, 0, cap, by simp, by rw [hw]; simpa using hlt, by simp; exact hc, fun j hj => ?_⟩
    have hj' : j < ns.length + 1 := by simpa using hj
    rw [Nat.zero_add, hw]
    by_cases e : j = ns.length
    · subst e
      rw [World.cell?_setCell_same' _ _ _ (by rw [cell _ hj']; simp)]
      simp
    · rw [World.cell?_setCell_other _ _ _ _ (fun h => e (by cases h; rfl)), cell j hj']
      have : j < ns.length := by omega
      rw [List.map_append, List.getElem?_append_left (by simpa using this), List.getElem?_map, List.getElem?_eq_getElem this, List.getElem_append_left this]
      rfl
theorem own_free {w : World} {K cap n : Nat} {g : Nat} {xs : List Value} (h : w.ownsRow K 3 1 (.slice (some ⟨g, 0, none⟩) n cap) n xs) (j : Nat) : w.frozen? ⟨g, j, none⟩ = false := by
  rcases h.2 with ⟨h0, _⟩ | ⟨g', cap', cur, hv, hb, hg, _⟩
  · cases h0
  · obtain ⟨e1, _, _⟩ := Value.slice.inj hv
    cases e1
    simp [World.frozen?, hg]
/-- The strings as texts. -/
theorem txts_of (n : Nat) (S : Nat → ByteArray) (h : ∀ j, j < n → (S j).size ≤ 100) : ∃ ts : List Txt, ts.length = n ∧ ∀ (j : Nat) x, ts[j]? = some x → x.1 = S j := by
  induction n with
  | zero => exact ⟨[], rfl, fun j x h => by simp at h⟩
  | succ n ih =>
    obtain ⟨ts, h1, h2⟩ := ih (fun j hj => h j (by omega))
    refine ⟨ts ++ [⟨S n, by have := h n (by omega); omega⟩], by simp [h1], fun j x hx => ?_⟩
    by_cases e : j < n
    · rw [List.getElem?_append_left (by omega)] at hx
      exact h2 j x hx
    · by_cases e2 : j = n
      · subst e2
        rw [List.getElem?_append_right (by omega), h1] at hx
        simp at hx
        rw [← hx]
      · rw [List.getElem?_eq_none (by simp; omega)] at hx
        cases hx
theorem isT_of {w : World} {q : Option Addr} {n c : Nat} {S : Nat → ByteArray} (hq : IsS w q n S) (hc : n ≤ c) {ts : List Txt} (h1 : ts.length = n) (h2 : ∀ (j : Nat) x, ts[j]? = some x → x.1 = S j) : IsT w (.slice q n c) ts := by
  subst h1
  refine ⟨q, c, rfl, hc, fun h0 => ?_⟩
  obtain ⟨g, off, e, hg, hcell⟩ := hq h0
  exact ⟨g, off, e, hg, fun j x hx => by rw [hcell j ((List.getElem?_eq_some_iff.1 hx).1), h2 j x hx]⟩
/-- The parent of what Free gives is the code above. -/
theorem parentFree (t ab : Txt) {ns : List Nat} {i : Nat} (pt : PR (bts t) (ns ++ [i])) (ha : Abv (bts ab) ns) (w : World) (hw : Lw w) :
    Calls Tryz.prog 12 #[.string t.1] w fun e w' => (∃ o, e = .returned (.tuple #[.string ab.1, .bool o])) ∧ Below w.heap.size w w' := by
  rcases parentOk t pt w hw with ⟨h2, p, pp, c⟩ | ⟨h1, c⟩
  · rw [List.dropLast_concat] at pp
    rcases ha with ⟨_, rfl⟩ | ha
    · simp at h2
    · obtain rfl : p = ab := Txt.ext (pp.text ha)
      exact c.mono fun e w' ⟨h, b⟩ => ⟨⟨_, h⟩, b⟩
  · have n0 : ns = [] := by simpa using h1
    rcases ha with ⟨ha, _⟩ | ha
    · have : ab.1 = ⟨#[]⟩ := bts_eq ha
      rw [this]
      exact c.mono fun e w' ⟨h, b⟩ => ⟨⟨_, h⟩, b⟩
    · have := ha.pos
      rw [n0] at this
      simp at this

end Go.Proofs.YtnjnjcgbdhiigaaGreatDoor
