/- slices.Replace by nothing. -/
import Derived.Test.YtekigilhmdphnaaTU
namespace Go.Proofs.Ytekigilhmdphnaa
open Go.RowKit Go.Shelf

set_option maxRecDepth 100000 in
set_option maxHeartbeats 4000000 in
theorem Replace_mid_none (g n i j K : Nat) (cs : List Value) (w : World) (hK : K ≤ g) (hn : n ≤ 100000) (hi : i < j) (hj : j < n) (hcs : cs.length = n * 3) (hR : Rw w g cs)
    (h2 : ∀ u ∈ cs, u.oneCell' = true) :
    Calls Try.prog 50 #[.slice (some ⟨g, 0, none⟩) n n, .int .i64 i, .int .i64 j, .slice none 0 0] w fun e w' => ∃ v, e = .returned v ∧ w'.ownsRow K 47 3 v (i + (n - j)) (cs.take (i * 3) ++ cs.drop (j * 3)) ∧ Below K w w' := by
  obtain ⟨i0, hi0, hz0, hz1, hz2⟩ := info_parts (P := Try.prog) (e := 47) (z := .agg #[.int .i64 0, .int .i64 0, .int .i64 0]) (size := 3) (bytes := 24) (by kernel_rfl)
  have US : Try.prog.underlying 22 = some (.slice 47) := by kernel_rfl
  obtain ⟨T, hT⟩ : ∃ T, T = i + (n - j) := ⟨_, rfl⟩
  have a0 : (0 : Int) ≤ (i : Int) := by omega
  have a1 : (i : Int) ≤ (j : Int) := by omega
  have a2 : (j : Int) ≤ (n : Int) := by omega
  have a3 : (i : Int) ≤ (n : Int) := by omega
  have a4 : ((i : Int) == (j : Int)) = false := by simp; omega
  have a5 : ((j : Int) == (n : Int)) = false := by simp; omega
  have a6 : (0 : Int) ≤ (j : Int) := by omega
  have w1 : IntKind.i64.wrap ((i : Int) + 0) = (i : Int) := (IntWalk.i64_in _ ⟨by omega, by omega⟩).trans (by omega)
  have w0 : IntKind.i64.wrap (i : Int) = (i : Int) := IntWalk.i64_in _ ⟨by omega, by omega⟩
  have w3 : IntKind.i64.wrap ((i : Int) + 0 + ((n - j : Nat) : Int)) = (T : Int) := (IntWalk.i64_in _ ⟨by omega, by omega⟩).trans (by omega)
  have w2 : IntKind.i64.wrap ((i : Int) + ((n - j : Nat) : Int)) = (T : Int) := (IntWalk.i64_in _ ⟨by omega, by omega⟩).trans (by omega)
  have g0 : ¬ (n : Int) < (T : Int) := by omega
  have g2 : (T : Int) ≤ (n : Int) := by omega
  have g3 : (i : Int) ≤ (T : Int) := by omega
  have g6 : (0 : Int) ≤ (T : Int) := by omega
  have e1 : ¬ n = i := by omega
  have e2 : ¬ n = j := by omega
  have HT := Lib.hid hT
  have HR := Lib.hid hR
  have HC := Lib.hid hcs
  have H2 : Hid (∀ u ∈ cs.drop (j * 3), u.oneCell' = true) := Lib.hid (fun u hu => h2 u (List.mem_of_mem_drop hu))
  have BB : Hid (∀ nq, Below K w (w.drewN nq)) := Lib.hid (fun nq => BdN (Below.refl _ w) nq)
  clear hR hcs h2 hT
  go_enter Try.func50, Try.ntmps50
  go_upto_region 8 with (fail)
  go_quiet (fail)
  have R0 : Hid (Rw (w.drewN nq) g cs) := Lib.hid (HR.out.same rfl (Nat.le_refl _))
  have BW := Lib.hid (BB.out nq)
  clear HR BB
  generalize w.drewN nq = u at *
  go_wp2_with (refine wpList_copy_none rfl (.tmp 95) (.tmp 96) 22 22 rfl 47 3 US (by kernel_rfl) (some ⟨g, i * 3, none⟩) (T - i) _ rfl rfl ?_)
  go_still_tail 9, (by kernel_rfl)
  change wpList _ _ _ _ _ u.drew
  have hc := HC.out
  have hT := HT.out
  have R1 : Rw u.drew g cs := R0.out.drew
  have B1 : Below K w u.drew := BW.out.drew
  generalize u.drew = W1 at *
  have ld : (cs.drop (j * 3)).length = (n - j) * 3 := by rw [List.length_drop]; omega
  have s2 : ∀ k v, (cs.drop (j * 3))[k]? = some v → W1.cell? ((⟨g, j * 3, none⟩ : Addr).add k) = some v := fun k v hk => by
    rw [Addr.add_lit]
    rw [List.getElem?_drop] at hk
    exact R1.cell _ _ hk
  have t2 := there_of R1 (i * 3) (cs.drop (j * 3)).length (by omega)
  have R2 := R1.lay (i * 3) (cs.drop (j * 3)) (by omega)
  have l2 := lay_length (cs := cs) (o := i * 3) (vs := cs.drop (j * 3)) (by omega)
  have B2 := below_setCells hK (cs.drop (j * 3)) (i * 3) B1
  have E2 : (lay cs (i * 3) (cs.drop (j * 3))).take (T * 3) = cs.take (i * 3) ++ cs.drop (j * 3) := by
    have := lay_take2 (b := cs) (v := cs.drop (j * 3)) (o := i * 3) (by omega)
    rw [show i * 3 + (cs.drop (j * 3)).length = T * 3 from by omega] at this
    exact this
  have S2 := Lib.hid s2
  have T2 := Lib.hid t2
  have LD := Lib.hid ld
  have E2 := Lib.hid E2
  have R2 := Lib.hid R2
  have B2 := Lib.hid B2
  have L2 := Lib.hid l2
  have q : T < n := by omega
  have e4 : ¬ n = T := by omega
  clear s2 t2 ld R1 B1 l2 hc hT R0 BW
  refine wpList_copy_wide' rfl (.tmp 103) (.tmp 106) 22 22 rfl 47 3 US (by kernel_rfl) g (i * 3) (T - i) _ ⟨g, j * 3, none⟩ (n - j) (n - j) rfl rfl (cs.drop (j * 3)) (n - j) (Nat.min_eq_left (by have := HT.out; omega)).symm LD.out S2.out T2.out H2.out ?_
  generalize W1.setCells g (i * 3) (cs.drop (j * 3)) = W2 at *
  have TH := Lib.hid (there_of R2.out (T * 3) ((n - T) * 3) (by have := L2.out; have := HC.out; omega))
  go_wp2_with (refine wpList_clear_wide rfl (.tmp 110) 22 rfl 47 i0 (.agg #[.int .i64 0, .int .i64 0, .int .i64 0]) US hi0 hz0 g (T * 3) (n - T) (n - T) rfl (by omega) TH.out (by rw [zc]; exact z3_one _) ?_)
  have R3 := R2.out.lay (T * 3) (Builtin.zeroCells (Value.agg #[.int .i64 0, .int .i64 0, .int .i64 0]).cells (n - T)).toList (by rw [zc, z3_len]; have := L2.out; have := HC.out; omega)
  have O3 := Lib.hid (R3.owns (K := K) (n := n) hK (by rw [lay_length (by rw [zc, z3_len]; have := L2.out; have := HC.out; omega), L2.out, HC.out]) (by unfold maxLen; omega) T (by omega))
  have B3 := Lib.hid (below_setCells (g := g) hK (Builtin.zeroCells (Value.agg #[.int .i64 0, .int .i64 0, .int .i64 0]).cells (n - T)).toList (T * 3) B2.out)
  rw [lay_take (by have := L2.out; have := HC.out; omega), E2.out] at O3
  clear R3
  go_ret
  rw [← HT.out]
  exact ⟨_, rfl, O3.out, B3.out⟩

set_option maxRecDepth 100000 in
set_option maxHeartbeats 4000000 in
theorem Replace_end_none (g n i K : Nat) (cs : List Value) (w : World) (hK : K ≤ g) (hn : n ≤ 100000) (hi : i < n) (hcs : cs.length = n * 3) (hR : Rw w g cs) :
    Calls Try.prog 50 #[.slice (some ⟨g, 0, none⟩) n n, .int .i64 i, .int .i64 n, .slice none 0 0] w fun e w' => ∃ v, e = .returned v ∧ w'.ownsRow K 47 3 v i (cs.take (i * 3)) ∧ Below K w w' := by
  obtain ⟨i0, hi0, hz0, hz1, hz2⟩ := info_parts (P := Try.prog) (e := 47) (z := .agg #[.int .i64 0, .int .i64 0, .int .i64 0]) (size := 3) (bytes := 24) (by kernel_rfl)
  have US : Try.prog.underlying 22 = some (.slice 47) := by kernel_rfl
  have a0 : (0 : Int) ≤ (i : Int) := by omega
  have a1 : (i : Int) ≤ (n : Int) := by omega
  have a2 : ((i : Int) == (n : Int)) = false := by simp; omega
  have a3 : (i : Int) < (n : Int) := by omega
  have e4 : ¬ n = i := by omega
  have OW := Lib.hid (hR.owns (K := K) hK hcs (by unfold maxLen; omega) i (by omega))
  have TH := Lib.hid (there_of hR (i * 3) ((n - i) * 3) (by omega))
  have R3 := hR.lay (i * 3) (Builtin.zeroCells (Value.agg #[.int .i64 0, .int .i64 0, .int .i64 0]).cells (n - i)).toList (by rw [zc, z3_len]; omega)
  have O3 := Lib.hid (R3.owns (K := K) (n := n) hK (by rw [lay_length (by rw [zc, z3_len]; omega), hcs]) (by unfold maxLen; omega) i (by omega))
  have B3 := Lib.hid (below_setCells (g := g) hK (Builtin.zeroCells (Value.agg #[.int .i64 0, .int .i64 0, .int .i64 0]).cells (n - i)).toList (i * 3) (Below.refl K w))
  rw [lay_take (by omega)] at O3
  clear hR hcs R3
  go_enter Try.func50, Try.ntmps50
  go_wp2_with (first
    | (at_builtin; refine wpList_append_own_none rfl (.tmp 32) (.tmp 33) 22 rfl K 47 i0 3 US hi0 (.slice (some ⟨g, 0, none⟩) i n) i _ rfl OW.out rfl ?_)
    | (refine wpList_clear_wide rfl (.tmp 43) 22 rfl 47 i0 (.agg #[.int .i64 0, .int .i64 0, .int .i64 0]) US hi0 hz0 g (i * 3) (n - i) (n - i) rfl (by omega) TH.out (by rw [zc]; exact z3_one _) ?_))
  go_ret
  exact ⟨_, rfl, O3.out, B3.out⟩
end Go.Proofs.Ytekigilhmdphnaa
