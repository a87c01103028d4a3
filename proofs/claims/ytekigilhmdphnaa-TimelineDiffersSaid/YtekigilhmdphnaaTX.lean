/- slices.Replace on a row of one's own: all its ways. -/
import Derived.Test.YtekigilhmdphnaaTW
namespace Go.Proofs.Ytekigilhmdphnaa
open Go.RowKit Go.Shelf

/-- What comes in: nothing, or pieces of another row. -/
def News (w : World) (g m : Nat) (news : List Value) (x : Value) : Prop :=
  news.length = m * 3 ∧ (∀ u ∈ news, u.oneCell' = true) ∧ ((x = .slice none 0 0 ∧ m = 0) ∨ ∃ gv cv, x = .slice (some ⟨gv, 0, none⟩) m cv ∧ 0 < m ∧ gv < w.heap.size ∧ gv ≠ g ∧ ∀ j u, news[j]? = some u → w.cell? ((⟨gv, 0, none⟩ : Addr).add j) = some u)

theorem Replace_any (g n i j m K : Nat) (cs news : List Value) (x : Value) (w : World) (hK : K ≤ g) (hn : n ≤ 100000) (hij : i ≤ j) (hj : j ≤ n) (hm1 : m ≤ 1000) (hcs : cs.length = n * 3) (hR : Rw w g cs) (h2 : ∀ u ∈ cs, u.oneCell' = true) (hx : News w g m news x) :
    Calls Try.prog 50 #[.slice (some ⟨g, 0, none⟩) n n, .int .i64 i, .int .i64 j, x] w fun e w' => ∃ v, e = .returned v ∧ w'.ownsRow K 47 3 v (i + (m + (n - j))) (cs.take (i * 3) ++ news ++ cs.drop (j * 3)) ∧ Below K w w' := by
  obtain ⟨hl, h1, ⟨rfl, rfl⟩ | ⟨gv, cv, rfl, hm, hgv, hne, hnews⟩⟩ := hx
  · obtain rfl : news = [] := List.length_eq_zero_iff.1 (by omega)
    rw [List.append_nil]
    rcases Nat.eq_or_lt_of_le hij with rfl | hij
    · rw [List.take_append_drop, show i + (0 + (n - i)) = n from by omega]
      rcases Nat.eq_or_lt_of_le hj with rfl | hj
      · exact Replace_none_end g i K cs w hK hn hcs hR
      · exact Replace_none_in g n i K cs w hK hn hj hcs hR
    · rcases Nat.eq_or_lt_of_le hj with rfl | hj
      · rw [List.drop_eq_nil_of_le (by omega), List.append_nil, show i + (0 + (j - j)) = i from by omega]
        exact Replace_end_none g j i K cs w hK hn hij hcs hR
      · rw [Nat.zero_add]
        exact Replace_mid_none g n i j K cs w hK hn hij hj hcs hR h2
  · rcases Nat.eq_or_lt_of_le hij with rfl | hij
    · rcases Nat.eq_or_lt_of_le hj with rfl | hj
      · rw [List.drop_eq_nil_of_le (by omega), List.append_nil, List.take_of_length_le (by omega), show i + (m + (i - i)) = i + m from by omega]
        exact Replace_behind g gv cv i m K cs news w hK hn hm hm1 hcs hl hR hnews h1
      · exact Replace_ins g gv cv n i m K cs news w hK hn hj hm hm1 hcs hl hR hgv hnews h1 h2
    · rcases Nat.eq_or_lt_of_le hj with rfl | hj
      · rw [List.drop_eq_nil_of_le (by omega), List.append_nil, show i + (m + (j - j)) = i + m from by omega]
        by_cases q : i + m ≤ j
        · exact Replace_end_fits g gv cv j i m K cs news w hK hn hij hm q hcs hl hR hnews h1
        · exact Replace_end_grows g gv cv j i m K cs news w hK hn hij hm hm1 (by omega) hcs hl hR hnews h1
      · by_cases q : i + (m + (n - j)) ≤ n
        · exact Replace_mid_in g gv cv n i j m K cs news w hK hn hij hj hm hm1 q hcs hl hR hne hnews h1 h2
        · exact Replace_mid_grow g gv cv n i j m K cs news w hK hn hij hj hm hm1 (by omega) hcs hl hR hgv hnews h1 h2
end Go.Proofs.Ytekigilhmdphnaa
