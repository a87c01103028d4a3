/- slices.Replace of a list's end. -/
import Derived.Test.YtekigilhmdphnaaTI
namespace Go.Proofs.Ytekigilhmdphnaa
open Go.RowKit Go.Shelf

/-- What an own row of pieces is. -/
theorem owned {w : World} {K n : Nat} {v : Value} {xs : List Value} (h : w.ownsRow K 47 3 v n xs) (hn : 0 < n) :
    ∃ g cap, v = .slice (some ⟨g, 0, none⟩) n cap ∧ K ≤ g ∧ g < w.heap.size ∧ n ≤ cap ∧ cap ≤ maxLen ∧ (∀ j u, xs[j]? = some u → w.cell? ⟨g, j, none⟩ = some u) ∧ w.there g 0 (cap * 3) := by
  rcases h.2 with ⟨_, h0⟩ | ⟨g, cap, cur, rfl, hb, hg, hc, hm, hs, ht⟩
  · omega
  · refine ⟨g, cap, rfl, hb, (Array.getElem?_eq_some_iff.1 hg).1, hc, hm, fun j u hj => ?_, fun j hj => ?_⟩
    · have := h.cells (g := g) rfl j u hj
      rwa [Addr.add_lit, Nat.zero_add] at this
    · rw [Nat.zero_add, cell_of_row w g j cur _ (0, 0) hg]
      exact ⟨by rw [Array.getElem?_eq_getElem (by omega)]; rfl, frozen_of_row w g j cur _ hg⟩

theorem row_setCells {g : Nat} {t : TypeId} : ∀ (vs : List Value) (o : Nat) {w : World} {cur : Array Value}, w.heap[g]? = some (.cells cur t (0, 0)) → ∃ cur', (w.setCells g o vs).heap[g]? = some (.cells cur' t (0, 0)) ∧ cur'.size = cur.size
  | [], _, _, cur, h => ⟨cur, h, rfl⟩
  | v :: r, o, _, cur, h => by
    obtain ⟨c', h1, h2⟩ := row_setCells r (o + 1) (heap_setCell_same _ g o cur t v h)
    exact ⟨c', h1, by rw [h2]; simp⟩
/-- The beginning of a row that was made. -/
theorem ownsRow_begin {w : World} {g K : Nat} {cur : Array Value} (hK : K ≤ g) (h : w.heap[g]? = some (.cells cur 47 (0, 0))) (n : Nat) (hs : cur.size = n * 3) (hn : n ≤ maxLen) : w.ownsRow K 47 3 (.slice (some ⟨g, 0, none⟩) 0 n) 0 [] :=
  ⟨by simp, .inr ⟨g, n, cur, rfl, hK, h, Nat.zero_le _, hn, hs, by simp⟩⟩

set_option maxRecDepth 100000 in
set_option maxHeartbeats 4000000 in
theorem Replace_tail (g gv cv m K : Nat) (news : List Value) (w : World) (hm : 0 < m) (hm1 : m ≤ 1000) (hl : news.length = m * 3) (hK : K ≤ w.heap.size)
    (hs : w.ownsRow K 47 3 (.slice (some ⟨g, 0, none⟩) 0 1) 0 []) (hnews : ∀ j u, news[j]? = some u → w.cell? ((⟨gv, 0, none⟩ : Addr).add j) = some u) (h1 : ∀ u ∈ news, u.oneCell' = true) :
    Calls Try.prog 50 #[.slice (some ⟨g, 0, none⟩) 1 1, .int .i64 0, .int .i64 1, .slice (some ⟨gv, 0, none⟩) m cv] w fun e w' => ∃ v, e = .returned v ∧ w'.ownsRow K 47 3 v m news ∧ Below K w w' := by
  obtain ⟨i0, hi, hz0, hz1, hz2⟩ := info_parts (P := Try.prog) (e := 47) (z := .agg #[.int .i64 0, .int .i64 0, .int .i64 0]) (size := 3) (bytes := 24) (by kernel_rfl)
  have US : Try.prog.underlying 22 = some (.slice 47) := by kernel_rfl
  have HS := Lib.hid hs
  have HN := Lib.hid hnews
  have HL := Lib.hid hl
  clear hs hnews hl
  go_enter Try.func50, Try.ntmps50
  go_wp2_with (at_builtin; refine wpList_append_own _ rfl (.tmp 32) (.tmp 33) 22 rfl K 47 i0 (.agg #[.int .i64 0, .int .i64 0, .int .i64 0]) 3 24 US hi hz0 hz1 hz2 rfl (by decide) _ 0 [] rfl HS.out ⟨gv, 0, none⟩ m cv news rfl HL.out HN.out h1 (by unfold maxLen; omega) (by omega) hK ?_)
  intro v1 w1 own1 grow1 hn1
  have hob := (HS.out).lt
  have B1 := Lib.hid ((Below.refl K w).grown grow1 hK (fun k hk => (hob k hk).1))
  obtain ⟨g2, c2, rfl, _⟩ := owned own1 hm
  have O1 := Lib.hid own1
  have q : ¬ (m : Int) < 1 := by omega
  clear own1 grow1 hn1 hob
  go_wp2_with fail
  go_ret
  exact ⟨_, rfl, O1.out, B1.out⟩
end Go.Proofs.Ytekigilhmdphnaa
