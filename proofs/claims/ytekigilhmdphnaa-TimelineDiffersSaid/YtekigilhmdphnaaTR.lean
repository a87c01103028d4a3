/- slices.Replace, slices.Insert at the end: the row grows. -/
import Derived.Test.YtekigilhmdphnaaTQ
namespace Go.Proofs.Ytekigilhmdphnaa
open Go.RowKit Go.Shelf

set_option maxRecDepth 100000 in
set_option maxHeartbeats 4000000 in
/-- Up to the end: what comes in does not fit. -/
theorem Replace_end_grows (g gv cv n i m K : Nat) (cs news : List Value) (w : World) (hK : K ≤ g) (hn : n ≤ 100000) (hi : i < n) (hm : 0 < m) (hm1 : m ≤ 1000) (him : n < i + m) (hcs : cs.length = n * 3) (hl : news.length = m * 3) (hR : Rw w g cs)
    (hnews : ∀ j u, news[j]? = some u → w.cell? ((⟨gv, 0, none⟩ : Addr).add j) = some u) (h1 : ∀ u ∈ news, u.oneCell' = true) :
    Calls Try.prog 50 #[.slice (some ⟨g, 0, none⟩) n n, .int .i64 i, .int .i64 n, .slice (some ⟨gv, 0, none⟩) m cv] w fun e w' => ∃ v, e = .returned v ∧ w'.ownsRow K 47 3 v (i + m) (cs.take (i * 3) ++ news) ∧ Below K w w' := by
  obtain ⟨i0, hi0, hz0, hz1, hz2⟩ := info_parts (P := Try.prog) (e := 47) (z := .agg #[.int .i64 0, .int .i64 0, .int .i64 0]) (size := 3) (bytes := 24) (by kernel_rfl)
  have US : Try.prog.underlying 22 = some (.slice 47) := by kernel_rfl
  have a0 : (0 : Int) ≤ (i : Int) := by omega
  have a1 : (i : Int) ≤ (n : Int) := by omega
  have a2 : ((i : Int) == (n : Int)) = false := by simp; omega
  have a3 : (i : Int) < (n : Int) := by omega
  have hgw := hR.lt
  have OW := Lib.hid (hR.owns (K := K) hK hcs (by unfold maxLen; omega) i (by omega))
  have HN := Lib.hid hnews
  have HL := Lib.hid hl
  clear hR hnews hl
  go_enter Try.func50, Try.ntmps50
  go_upto_region 6 with (at_builtin; refine wpList_append_own _ rfl (.tmp 32) (.tmp 33) 22 rfl K 47 i0 (.agg #[.int .i64 0, .int .i64 0, .int .i64 0]) 3 24 US hi0 hz0 hz1 hz2 rfl (by decide) _ i _ rfl OW.out ⟨gv, 0, none⟩ m cv news rfl HL.out HN.out h1 (by unfold maxLen; omega) (by omega) (Nat.le_trans hK (Nat.le_of_lt hgw)) ?_; intro v1 w1 own1 grow1 hn1)
  have hob := (OW.out).lt
  have B1 := (Below.refl K w).grown grow1 (Nat.le_trans hK (Nat.le_of_lt hgw)) (fun k hk => (hob k hk).1)
  obtain ⟨g', c', cs', rfl, _⟩ := owns_rw own1 (by omega)
  have O1 := Lib.hid own1
  have B1 := Lib.hid B1
  clear hob grow1 OW own1 HN hn1
  have q0 : ¬ (i : Int) + (m : Int) < (n : Int) := by omega
  go_wp2_with fail
  go_ret
  exact ⟨_, rfl, O1.out, B1.out⟩

set_option maxRecDepth 100000 in
set_option maxHeartbeats 4000000 in
/-- Behind the end. -/
theorem Replace_behind (g gv cv n m K : Nat) (cs news : List Value) (w : World) (hK : K ≤ g) (hn : n ≤ 100000) (hm : 0 < m) (hm1 : m ≤ 1000) (hcs : cs.length = n * 3) (hl : news.length = m * 3) (hR : Rw w g cs)
    (hnews : ∀ j u, news[j]? = some u → w.cell? ((⟨gv, 0, none⟩ : Addr).add j) = some u) (h1 : ∀ u ∈ news, u.oneCell' = true) :
    Calls Try.prog 50 #[.slice (some ⟨g, 0, none⟩) n n, .int .i64 n, .int .i64 n, .slice (some ⟨gv, 0, none⟩) m cv] w fun e w' => ∃ v, e = .returned v ∧ w'.ownsRow K 47 3 v (n + m) (cs ++ news) ∧ Below K w w' := by
  obtain ⟨i0, hi0, hz0, hz1, hz2⟩ := info_parts (P := Try.prog) (e := 47) (z := .agg #[.int .i64 0, .int .i64 0, .int .i64 0]) (size := 3) (bytes := 24) (by kernel_rfl)
  have US : Try.prog.underlying 22 = some (.slice 47) := by kernel_rfl
  have a0 : (0 : Int) ≤ (n : Int) := by omega
  have a4 : ((m : Int) == 0) = false := by simp; omega
  have hgw := hR.lt
  have OW := hR.owns (K := K) hK hcs (by unfold maxLen; omega) n (by omega)
  rw [List.take_of_length_le (by omega)] at OW
  have OW := Lib.hid OW
  have HN := Lib.hid hnews
  have HL := Lib.hid hl
  clear hR hnews hl
  have IN : Calls Try.prog 55 #[.slice (some ⟨g, 0, none⟩) n n, .int .i64 n, .slice (some ⟨gv, 0, none⟩) m cv] w fun e w' => ∃ v, e = .returned v ∧ w'.ownsRow K 47 3 v (n + m) (cs ++ news) ∧ Below K w w' := by
    go_enter Try.func55, Try.ntmps55
    go_wp2_with (at_builtin; refine wpList_append_own _ rfl (.tmp 23) (.tmp 24) 22 rfl K 47 i0 (.agg #[.int .i64 0, .int .i64 0, .int .i64 0]) 3 24 US hi0 hz0 hz1 hz2 rfl (by decide) _ n _ rfl OW.out ⟨gv, 0, none⟩ m cv news rfl HL.out HN.out h1 (by unfold maxLen; omega) (by omega) (Nat.le_trans hK (Nat.le_of_lt hgw)) ?_; intro v1 w1 own1 grow1 hn1)
    have hob := (OW.out).lt
    have B1 := (Below.refl K w).grown grow1 (Nat.le_trans hK (Nat.le_of_lt hgw)) (fun k hk => (hob k hk).1)
    have O1 := Lib.hid own1
    have B1 := Lib.hid B1
    clear hob grow1 OW own1 HN hn1
    go_ret
    exact ⟨_, rfl, O1.out, B1.out⟩
  have IN := Lib.hid IN
  go_enter Try.func50, Try.ntmps50
  go_wp2_with fail
  refine IN.out.mono ?_; rintro e w1 ⟨v, rfl, o1, b1⟩
  have O1 := Lib.hid o1
  have B1 := Lib.hid b1
  clear o1 b1 IN OW HN
  go_wp2_with fail
  go_ret
  exact ⟨_, rfl, O1.out, B1.out⟩
end Go.Proofs.Ytekigilhmdphnaa
