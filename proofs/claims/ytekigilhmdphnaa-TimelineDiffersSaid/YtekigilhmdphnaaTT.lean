/- slices.Replace in the middle. -/
import Derived.Test.YtekigilhmdphnaaTS
namespace Go.Proofs.Ytekigilhmdphnaa
open Go.RowKit Go.Shelf

set_option maxRecDepth 100000 in
set_option maxHeartbeats 4000000 in
/-- Nothing goes out. -/
theorem Replace_ins (g gv cv n i m K : Nat) (cs news : List Value) (w : World) (hK : K ≤ g) (hn : n ≤ 100000) (hi : i < n) (hm : 0 < m) (hm1 : m ≤ 1000) (hcs : cs.length = n * 3) (hl : news.length = m * 3) (hR : Rw w g cs) (hgv : gv < w.heap.size)
    (hnews : ∀ j u, news[j]? = some u → w.cell? ((⟨gv, 0, none⟩ : Addr).add j) = some u) (h1 : ∀ u ∈ news, u.oneCell' = true) (h2 : ∀ u ∈ cs, u.oneCell' = true) :
    Calls Try.prog 50 #[.slice (some ⟨g, 0, none⟩) n n, .int .i64 i, .int .i64 i, .slice (some ⟨gv, 0, none⟩) m cv] w fun e w' => ∃ v, e = .returned v ∧ w'.ownsRow K 47 3 v (i + (m + (n - i))) (cs.take (i * 3) ++ news ++ cs.drop (i * 3)) ∧ Below K w w' := by
  have a0 : (0 : Int) ≤ (i : Int) := by omega
  have a1 : (i : Int) ≤ (n : Int) := by omega
  have IN := Lib.hid (Insert_mid g gv cv n i m K cs news w hK hn hi hm hm1 hcs hl hR hgv hnews h1 h2)
  clear hR hnews hl hcs h1 h2
  go_enter Try.func50, Try.ntmps50
  go_wp2_with fail
  refine IN.out.mono ?_; rintro e w1 ⟨v, rfl, o1, b1⟩
  have O1 := Lib.hid o1
  have B1 := Lib.hid b1
  clear o1 b1 IN
  go_wp2_with fail
  go_ret
  exact ⟨_, rfl, O1.out, B1.out⟩

set_option maxRecDepth 100000 in
set_option maxHeartbeats 4000000 in
theorem Replace_mid_grow (g gv cv n i j m K : Nat) (cs news : List Value) (w : World) (hK : K ≤ g) (hn : n ≤ 100000) (hi : i < j) (hj : j < n) (hm : 0 < m) (hm1 : m ≤ 1000) (him : n < i + (m + (n - j))) (hcs : cs.length = n * 3) (hl : news.length = m * 3) (hR : Rw w g cs) (hgv : gv < w.heap.size)
    (hnews : ∀ j u, news[j]? = some u → w.cell? ((⟨gv, 0, none⟩ : Addr).add j) = some u) (h1 : ∀ u ∈ news, u.oneCell' = true) (h2 : ∀ u ∈ cs, u.oneCell' = true) :
    Calls Try.prog 50 #[.slice (some ⟨g, 0, none⟩) n n, .int .i64 i, .int .i64 j, .slice (some ⟨gv, 0, none⟩) m cv] w fun e w' => ∃ v, e = .returned v ∧ w'.ownsRow K 47 3 v (i + (m + (n - j))) (cs.take (i * 3) ++ news ++ cs.drop (j * 3)) ∧ Below K w w' := by
  obtain ⟨i0, hi0, hz0, hz1, hz2⟩ := info_parts (P := Try.prog) (e := 47) (z := .agg #[.int .i64 0, .int .i64 0, .int .i64 0]) (size := 3) (bytes := 24) (by kernel_rfl)
  have US : Try.prog.underlying 22 = some (.slice 47) := by kernel_rfl
  obtain ⟨T, hT⟩ : ∃ T, T = i + (m + (n - j)) := ⟨_, rfl⟩
  have a0 : (0 : Int) ≤ (i : Int) := by omega
  have a1 : (i : Int) ≤ (j : Int) := by omega
  have a2 : (j : Int) ≤ (n : Int) := by omega
  have a3 : (i : Int) ≤ (n : Int) := by omega
  have a4 : ((i : Int) == (j : Int)) = false := by simp; omega
  have a5 : ((j : Int) == (n : Int)) = false := by simp; omega
  have a6 : (0 : Int) ≤ (j : Int) := by omega
  have w1 : IntKind.i64.wrap ((i : Int) + (m : Int)) = (i : Int) + (m : Int) := IntWalk.i64_in _ ⟨by omega, by omega⟩
  have w2 : IntKind.i64.wrap ((i : Int) + (m : Int) + ((n - j : Nat) : Int)) = (T : Int) := (IntWalk.i64_in _ ⟨by omega, by omega⟩).trans (by omega)
  have w3 : IntKind.i64.wrap ((T : Int) - (i : Int)) = ((m + (n - j) : Nat) : Int) := (IntWalk.i64_in _ ⟨by omega, by omega⟩).trans (by omega)
  have w4 : (T : Int) - (i : Int) = ((m + (n - j) : Nat) : Int) := by omega
  have g0 : (n : Int) < (T : Int) := by omega
  have g3 : (i : Int) ≤ (T : Int) := by omega
  have g4 : (i : Int) + (m : Int) ≤ (T : Int) := by omega
  have q1 : (0 : Int) ≤ (i : Int) + (m : Int) := by omega
  have q3 : ((i : Int) + (m : Int)).toNat = i + m := by omega
  have e2 : ¬ n = j := by omega
  have HL := Lib.hid hl
  have HT := Lib.hid hT
  have H2 : Hid (∀ u ∈ cs.drop (j * 3), u.oneCell' = true) := Lib.hid (fun u hu => h2 u (List.mem_of_mem_drop hu))
  have FF : Hid (∀ nq, ∃ W1, Gf (w.drewN nq) g gv i j m n K (grownCap (w.drewN nq) (i + (m + (n - j))) n 47) cs news W1) := Lib.hid (fun nq => Gf.new g gv n i j m K cs news (w.drewN nq) hK hn (Nat.le_of_lt hi) (Nat.le_of_lt hj) hm1 hcs hl (hR.same rfl (Nat.le_refl _)) hgv hnews)
  have BB : Hid (∀ nq, Below K w (w.drewN nq)) := Lib.hid (fun nq => BdN (Below.refl _ w) nq)
  clear hR hnews hl hcs h2 hgv hT
  go_enter Try.func50, Try.ntmps50
  go_upto_region 8 with (fail)
  go_quiet (fail)
  obtain ⟨W1, F0⟩ := FF.out nq
  have F := Lib.hid F0
  have BW := Lib.hid (BB.out nq)
  clear F0 FF BB
  generalize w.drewN nq = u at *
  obtain ⟨G, hG⟩ : ∃ G, G = grownCap u (i + (m + (n - j))) n 47 := ⟨_, rfl⟩
  have gg := grownCap_ge u (i + (m + (n - j))) n 47
  rw [← hG, ← HT.out] at gg
  have g1 : i < G := by have := HT.out; omega
  have g5 : (i : Int) + (m : Int) < (G : Int) := by have := HT.out; omega
  have e1 : ¬ G = i + m := by omega
  have HG := Lib.hid hG
  clear hG
  go_wp2_with (first
    | (at_builtin; refine wpList_append_make' rfl _ _ 22 3 rfl 47 i0 (.agg #[.int .i64 0, .int .i64 0, .int .i64 0]) .i64 US (by kernel_rfl) hi0 hz0 ⟨g, 0, none⟩ i n (cs.take (i * 3)) rfl (by rw [hz1]; exact F.out.lo) F.out.olds (m + (n - j)) rfl (by omega) (by rw [hz1]; decide) (by omega) (by omega) (by rw [hz2]; decide) T G W1 HT.out HG.out (by rw [HG.out]; exact F.out.eq) ?_)
    | (refine wpList_copy_wide' rfl (.tmp 70) (.tmp 71) 22 22 rfl 47 3 US (by kernel_rfl) u.heap.size (i * 3) (T - i) _ ⟨gv, 0, none⟩ m cv rfl rfl news m (Nat.min_eq_left (by have := HT.out; omega)).symm HL.out F.out.n1 F.out.t1 h1 ?_)
    )
  go_still_tail 9, (by kernel_rfl)
  change wpList _ _ _ _ _ (W1.setCells u.heap.size (i * 3) news).drew
  obtain ⟨s2, t2, O, B⟩ := F.out.fill (W1.setCells u.heap.size (i * 3) news).drew rfl F.out.below.drew
  have S2 := Lib.hid s2
  have T2 := Lib.hid t2
  have O := Lib.hid O
  have B := Lib.hid (BW.out.trans B)
  clear s2 t2
  generalize (W1.setCells u.heap.size (i * 3) news).drew = W2 at *
  refine wpList_copy_wide' rfl (.tmp 78) (.tmp 81) 22 22 rfl 47 3 US (by kernel_rfl) u.heap.size ((i + m) * 3) (T - (i + m)) _ ⟨g, j * 3, none⟩ (n - j) (n - j) rfl rfl (cs.drop (j * 3)) (n - j) (Nat.min_eq_left (by have := HT.out; omega)).symm F.out.ld S2.out T2.out H2.out ?_
  go_wp2_with fail
  rw [← HG.out, ← HT.out] at O
  go_ret
  rw [← HT.out]
  exact ⟨_, rfl, O.out, B.out⟩
end Go.Proofs.Ytekigilhmdphnaa
