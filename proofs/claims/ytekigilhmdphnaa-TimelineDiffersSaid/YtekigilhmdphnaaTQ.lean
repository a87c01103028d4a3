/- slices.Replace on a row of one's own, way by way. -/
import Derived.Test.YtekigilhmdphnaaTP
import Derived.Deep.DeepAppendRoom
namespace Go.Proofs.Ytekigilhmdphnaa
open Go.RowKit Go.Shelf

theorem there_of {w : World} {g : Nat} {cs : List Value} (h : Rw w g cs) (o k : Nat) (hk : o + k ≤ cs.length) : w.there g o k := fun j hj => by
  have := h.there (o + j) (by omega)
  rwa [Nat.zero_add] at this
theorem lay_take {cs vs : List Value} {o : Nat} (h : o ≤ cs.length) : (lay cs o vs).take o = cs.take o := by
  unfold lay
  rw [List.append_assoc, List.take_append_of_le_length (by simp; omega), List.take_take, Nat.min_self]

set_option maxRecDepth 100000 in
set_option maxHeartbeats 4000000 in
/-- Up to the end: what comes in fits. -/
theorem Replace_end_fits (g gv cv n i m K : Nat) (cs news : List Value) (w : World) (hK : K ≤ g) (hn : n ≤ 100000) (hi : i < n) (hm : 0 < m) (him : i + m ≤ n) (hcs : cs.length = n * 3) (hl : news.length = m * 3) (hR : Rw w g cs)
    (hnews : ∀ j u, news[j]? = some u → w.cell? ((⟨gv, 0, none⟩ : Addr).add j) = some u) (h1 : ∀ u ∈ news, u.oneCell' = true) :
    Calls Try.prog 50 #[.slice (some ⟨g, 0, none⟩) n n, .int .i64 i, .int .i64 n, .slice (some ⟨gv, 0, none⟩) m cv] w fun e w' => ∃ v, e = .returned v ∧ w'.ownsRow K 47 3 v (i + m) (cs.take (i * 3) ++ news) ∧ Below K w w' := by
  obtain ⟨i0, hi0, hz0, hz1, hz2⟩ := info_parts (P := Try.prog) (e := 47) (z := .agg #[.int .i64 0, .int .i64 0, .int .i64 0]) (size := 3) (bytes := 24) (by kernel_rfl)
  have US : Try.prog.underlying 22 = some (.slice 47) := by kernel_rfl
  have a0 : (0 : Int) ≤ (i : Int) := by omega
  have a1 : (i : Int) ≤ (n : Int) := by omega
  have a2 : ((i : Int) == (n : Int)) = false := by simp; omega
  have a3 : (i : Int) < (n : Int) := by omega
  have hgw := hR.lt
  have OW := Lib.hid (hR.owns (K := K) hK hcs (by unfold maxLen; omega) i (by omega))
  have HN := Lib.hid hnews
  have HL := Lib.hid hl
  clear hR hnews hl
  go_enter Try.func50, Try.ntmps50
  go_upto_region 6 with (at_builtin; refine wpList_append_own_spare _ rfl (.tmp 32) (.tmp 33) 22 rfl K 47 i0 3 US hi0 hz1 g i n _ rfl OW.out ⟨gv, 0, none⟩ m cv news rfl HL.out HN.out h1 him ?_; intro w1 own1 grow1)
  have hob := (OW.out).lt
  have B1 := (Below.refl K w).grown grow1 (Nat.le_trans hK (Nat.le_of_lt hgw)) (fun k hk => (hob k hk).1)
  obtain ⟨g', c', cs', e1, hKg, hc1, hc2, hR1, hl1, ht1⟩ := owns_rw own1 (by omega)
  obtain ⟨rfl, rfl⟩ : g = g' ∧ n = c' := by
    simp only [Value.slice.injEq, Option.some.injEq, Addr.mk.injEq] at e1
    exact ⟨e1.1.1, e1.2.2⟩
  clear hob grow1 OW e1
  have O1 := Lib.hid own1
  have B1 := Lib.hid B1
  have HR1 := Lib.hid hR1
  have HT := Lib.hid ht1
  clear own1 hR1 ht1 HN
  by_cases q : i + m < n
  · have q0 : (i : Int) + (m : Int) < (n : Int) := by omega
    have q1 : (0 : Int) ≤ (i : Int) + (m : Int) := by omega
    have q2 : (i : Int) + (m : Int) ≤ (n : Int) := by omega
    have q3 : ((i : Int) + (m : Int)).toNat = i + m := by omega
    have q4 : (n : Int) - ((i : Int) + (m : Int)) = ((n - (i + m) : Nat) : Int) := by omega
    have TH := Lib.hid (there_of HR1.out ((i + m) * 3) ((n - (i + m)) * 3) (by omega))
    go_wp2_with (refine wpList_clear_wide rfl _ 22 rfl 47 i0 (.agg #[.int .i64 0, .int .i64 0, .int .i64 0]) US hi0 hz0 g ((i + m) * 3) (n - (i + m)) (n - (i + m)) rfl (by omega) TH.out (by rw [zc]; exact z3_one _) ?_)
    have R2 := HR1.out.lay ((i + m) * 3) (Builtin.zeroCells (Value.agg #[.int .i64 0, .int .i64 0, .int .i64 0]).cells (n - (i + m))).toList (by rw [zc, z3_len]; omega)
    have O2 := Lib.hid (R2.owns (K := K) hK (by rw [lay_length (by rw [zc, z3_len]; omega)]; exact hl1) (by unfold maxLen; omega) (i + m) him)
    have B2 := Lib.hid (below_setCells (g := g) hK (Builtin.zeroCells (Value.agg #[.int .i64 0, .int .i64 0, .int .i64 0]).cells (n - (i + m))).toList ((i + m) * 3) B1.out)
    rw [lay_take (by omega), HT.out] at O2
    clear R2
    go_ret
    exact ⟨_, rfl, O2.out, B2.out⟩
  · have q0 : ¬ (i : Int) + (m : Int) < (n : Int) := by omega
    go_wp2_with fail
    go_ret
    exact ⟨_, rfl, O1.out, B1.out⟩
end Go.Proofs.Ytekigilhmdphnaa
