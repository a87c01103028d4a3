/- A row of one's own: its forms, and cleared cells. -/
import Derived.Test.YtekigilhmdphnaaTO
namespace Go.Proofs.Ytekigilhmdphnaa
open Go.RowKit Go.Shelf

theorem Rw.heap {w : World} {g : Nat} {cs : List Value} (h : Rw w g cs) : w.heap[g]? = some (.cells cs.toArray 47 (0, 0)) := by
  obtain ⟨cur, hr, hl⟩ := h.row
  have : cur = cs.toArray := by
    apply Array.ext'
    apply List.ext_getElem?
    intro j
    by_cases c : j < cs.length
    · have e : cs[j]? = some cs[j] := List.getElem?_eq_getElem c
      have := h.cell j _ e
      rw [cell_of_row w g j cur _ (0, 0) hr] at this
      simp [← Array.getElem?_toList] at this
      rw [show cs.toArray.toList = cs from rfl, e]
      simpa using this
    · rw [List.getElem?_eq_none (by simp; omega), List.getElem?_eq_none (by simpa using Nat.le_of_not_lt c)]
  rw [← this]; exact hr
theorem Rw.mk' {w : World} {g : Nat} {cs : List Value} (h : w.heap[g]? = some (.cells cs.toArray 47 (0, 0))) : Rw w g cs := by
  have := Rw.of h
  simpa using this
/-- The first pieces of a row that may be written, as an own row. -/
theorem Rw.owns {w : World} {g K n : Nat} {cs : List Value} (h : Rw w g cs) (hK : K ≤ g) (hl : cs.length = n * 3) (hn : n ≤ maxLen) (i : Nat) (hi : i ≤ n) : w.ownsRow K 47 3 (.slice (some ⟨g, 0, none⟩) i n) i (cs.take (i * 3)) :=
  ⟨by rw [List.length_take]; omega, .inr ⟨g, n, cs.toArray, rfl, hK, h.heap, hi, hn, by simpa using hl, rfl⟩⟩
theorem owns_rw {w : World} {K n : Nat} {v : Value} {xs : List Value} (h : w.ownsRow K 47 3 v n xs) (hn : 0 < n) : ∃ g c cs, v = .slice (some ⟨g, 0, none⟩) n c ∧ K ≤ g ∧ n ≤ c ∧ c ≤ maxLen ∧ Rw w g cs ∧ cs.length = c * 3 ∧ cs.take (n * 3) = xs := by
  rcases h.2 with ⟨_, h0⟩ | ⟨g, cap, cur, rfl, hb, hg, hc, hm, hs, ht⟩
  · omega
  · exact ⟨g, cap, cur.toList, rfl, hb, hc, hm, Rw.of hg, by simpa using hs, ht⟩
def z3 (n : Nat) : List Value := List.replicate (n * 3) (.int .i64 0)
theorem zc (n : Nat) : (Builtin.zeroCells (Value.agg #[.int .i64 0, .int .i64 0, .int .i64 0]).cells n).toList = z3 n := by
  have hs : (Value.agg #[.int .i64 0, .int .i64 0, .int .i64 0]).cells.size = 3 := rfl
  have h3 : ∀ k, k < 3 → (Value.agg #[.int .i64 0, .int .i64 0, .int .i64 0]).cells[k]! = .int .i64 0 := fun k hk => by
    have : k = 0 ∨ k = 1 ∨ k = 2 := by omega
    rcases this with rfl | rfl | rfl <;> rfl
  unfold Builtin.zeroCells z3
  rw [hs]
  apply List.ext_getElem?
  intro j
  by_cases c : j < n * 3
  · rw [List.getElem?_replicate, if_pos c]
    simp only [Array.toList_map, Array.toList_range, List.getElem?_map, List.getElem?_range c, Option.map_some]
    rw [h3 _ (Nat.mod_lt _ (by decide))]
  · rw [List.getElem?_eq_none (by simp; omega), List.getElem?_eq_none (by simp; omega)]
theorem z3_one (n : Nat) : ∀ v ∈ z3 n, v.oneCell' = true := fun v hv => by
  rw [List.eq_of_mem_replicate hv]; rfl
theorem z3_len (n : Nat) : (z3 n).length = n * 3 := by simp [z3]
theorem zsize : (Value.agg #[.int .i64 0, .int .i64 0, .int .i64 0]).cells.size = 3 := rfl

end Go.Proofs.Ytekigilhmdphnaa
