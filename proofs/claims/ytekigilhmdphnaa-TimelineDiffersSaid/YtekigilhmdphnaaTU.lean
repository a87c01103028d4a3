/- slices.Replace in the middle, in place. -/
import Derived.Test.YtekigilhmdphnaaTT
namespace Go.Proofs.Ytekigilhmdphnaa
open Go.RowKit Go.Shelf

theorem run_clear_none {P : Program} (w : World) (t e ty : TypeId) (ht : P.underlying t = some (.slice e)) (b : Option Addr) (c : Nat) :
    (Builtin.clear_ #[t] ty #[.slice b 0 c]).run P w = .ok (.tuple #[]) w := by
  cases b <;> simp [Builtin.clear_, run_underlying ht]
theorem wpList_clear_none {P : Program} {w : World} {ops : Array Oper} {rest : List Oper} {o : Oper} {a : Act} {Q : Exit → Act → World → Prop} (hgd : o.guard = none) (x : Operand) (t : TypeId)
    (ho : o.op = .call { callee := .builtin .clear, args := #[x], argTypes := #[t] })
    (e : TypeId) (ht : P.underlying t = some (.slice e)) (b : Option Addr) (c : Nat) (hx : a.eval x = .slice b 0 c)
    (hK : wpList P ops Q rest (a.put o.dst (.tuple #[])) w) : wpList P ops Q (o :: rest) a w := by
  refine wpList_plain hgd fun K hK' => ?_
  have hr := run_clear_none (P := P) w t e o.type ht b c
  unfold Oper.wp execOp
  simp only [ho, resolve, invoke, builtin, Sem.run_bind, Sem.run_pure, Result.andThen_ok, List.map_toArray, List.map_cons, List.map_nil, hx, hr]
  exact hK' _ _ hK
theorem run_copy_none {P : Program} (w : World) (dT sT ty elem : TypeId) (size : Nat) (b : Option Addr) (dLen dCap : Nat)
    (hu : P.underlying dT = some (.slice elem)) (hs : (P.info? elem).map (·.size) = some size) :
    (Builtin.copy_ #[dT, sT] ty #[.slice b dLen dCap, .slice none 0 0]).run P w = .ok (.int .i64 0) w := by
  cases hq : P.info? elem with
  | none => simp [hq] at hs
  | some i => cases b <;> simp [Builtin.copy_, run_underlying hu, Builtin.lenOf, Builtin.firstCells, sizeOf, typeInfo, hq, goInt, storeCells]
theorem wpList_copy_none {P : Program} {w : World} {ops : Array Oper} {rest : List Oper} {o : Oper} {a : Act} {Q : Exit → Act → World → Prop} (hgd : o.guard = none) (d s : Operand) (dT sT : TypeId)
    (ho : o.op = .call { callee := .builtin .copy, args := #[d, s], argTypes := #[dT, sT] }) (elem : TypeId) (size : Nat) (hu : P.underlying dT = some (.slice elem)) (hsz : (P.info? elem).map (·.size) = some size)
    (b : Option Addr) (dLen dCap : Nat) (hd : a.eval d = .slice b dLen dCap) (hs : a.eval s = .slice none 0 0)
    (h : wpList P ops Q rest (a.put o.dst (.int .i64 0)) w) : wpList P ops Q (o :: rest) a w := by
  refine wpList_plain hgd fun K hK => ?_
  have hrun := run_copy_none (P := P) w dT sT o.type elem size b dLen dCap hu hsz
  unfold Oper.wp execOp
  simp only [ho, resolve, invoke, builtin, Sem.run_bind, Sem.run_pure, Result.andThen_ok, List.map_toArray, List.map_cons, List.map_nil, hd, hs, hrun]
  exact hK _ _ h

theorem lay_drop {cs v : List Value} {o p : Nat} (h : o + v.length ≤ p) (hl : o + v.length ≤ cs.length) : (lay cs o v).drop p = cs.drop p := by
  unfold lay
  have e : (cs.take o ++ v).length = o + v.length := by simp; omega
  rw [List.drop_append, List.drop_eq_nil_of_le (by omega), List.nil_append, e, List.drop_drop]
  congr 1; omega

set_option maxRecDepth 100000 in
set_option maxHeartbeats 4000000 in
theorem Replace_mid_in (g gv cv n i j m K : Nat) (cs news : List Value) (w : World) (hK : K ≤ g) (hn : n ≤ 100000) (hi : i < j) (hj : j < n) (hm : 0 < m) (hm1 : m ≤ 1000) (him : i + (m + (n - j)) ≤ n) (hcs : cs.length = n * 3) (hl : news.length = m * 3) (hR : Rw w g cs) (hgv : gv ≠ g)
    (hnews : ∀ j u, news[j]? = some u → w.cell? ((⟨gv, 0, none⟩ : Addr).add j) = some u) (h1 : ∀ u ∈ news, u.oneCell' = true) (h2 : ∀ u ∈ cs, u.oneCell' = true) :
    Calls Try.prog 50 #[.slice (some ⟨g, 0, none⟩) n n, .int .i64 i, .int .i64 j, .slice (some ⟨gv, 0, none⟩) m cv] w fun e w' => ∃ v, e = .returned v ∧ w'.ownsRow K 47 3 v (i + (m + (n - j))) (cs.take (i * 3) ++ news ++ cs.drop (j * 3)) ∧ Below K w w' := by
  obtain ⟨i0, hi0, hz0, hz1, hz2⟩ := info_parts (P := Try.prog) (e := 47) (z := .agg #[.int .i64 0, .int .i64 0, .int .i64 0]) (size := 3) (bytes := 24) (by kernel_rfl)
  have US : Try.prog.underlying 22 = some (.slice 47) := by kernel_rfl
  obtain ⟨T, hT⟩ : ∃ T, T = i + (m + (n - j)) := ⟨_, rfl⟩
  have a0 : (0 : Int) ≤ (i : Int) := by omega
  have a1 : (i : Int) ≤ (j : Int) := by omega
  have a2 : (j : Int) ≤ (n : Int) := by omega
  have a3 : (i : Int) ≤ (n : Int) := by omega
  have a4 : ((i : Int) == (j : Int)) = false := by simp; omega
  have a5 : ((j : Int) == (n : Int)) = false := by simp; omega
  have a6 : (0 : Int) ≤ (j : Int) := by omega
  have w1 : IntKind.i64.wrap ((i : Int) + (m : Int)) = (i : Int) + (m : Int) := IntWalk.i64_in _ ⟨by omega, by omega⟩
  have w2 : IntKind.i64.wrap ((i : Int) + (m : Int) + ((n - j : Nat) : Int)) = (T : Int) := (IntWalk.i64_in _ ⟨by omega, by omega⟩).trans (by omega)
  have g0 : ¬ (n : Int) < (T : Int) := by omega
  have g2 : (T : Int) ≤ (n : Int) := by omega
  have g3 : (i : Int) ≤ (T : Int) := by omega
  have g4 : (i : Int) + (m : Int) ≤ (T : Int) := by omega
  have g5 : (i : Int) + (m : Int) ≤ (j : Int) := by omega
  have g6 : (0 : Int) ≤ (T : Int) := by omega
  have q1 : (0 : Int) ≤ (i : Int) + (m : Int) := by omega
  have q3 : ((i : Int) + (m : Int)).toNat = i + m := by omega
  have e1 : ¬ n = i := by omega
  have e2 : ¬ n = j := by omega
  have e3 : ¬ n = i + m := by omega
  have HL := Lib.hid hl
  have HT := Lib.hid hT
  have HR := Lib.hid hR
  have HN := Lib.hid hnews
  have HC := Lib.hid hcs
  have H2 : Hid (∀ u ∈ cs.drop (j * 3), u.oneCell' = true) := Lib.hid (fun u hu => h2 u (List.mem_of_mem_drop hu))
  have BB : Hid (∀ nq, Below K w (w.drewN nq)) := Lib.hid (fun nq => BdN (Below.refl _ w) nq)
  clear hR hnews hl hcs h2 hT
  go_enter Try.func50, Try.ntmps50
  go_upto_region 8 with (fail)
  go_quiet (fail)
  have R0 : Hid (Rw (w.drewN nq) g cs) := Lib.hid (HR.out.same rfl (Nat.le_refl _))
  have N0 : Hid (∀ j u, news[j]? = some u → (w.drewN nq).cell? ((⟨gv, 0, none⟩ : Addr).add j) = some u) := Lib.hid HN.out
  have BW := Lib.hid (BB.out nq)
  clear HR HN BB
  generalize w.drewN nq = u at *
  have T0 := Lib.hid (there_of R0.out (i * 3) news.length (by have := HL.out; have := HC.out; omega))
  go_wp2_with (refine wpList_copy_wide' rfl (.tmp 95) (.tmp 96) 22 22 rfl 47 3 US (by kernel_rfl) g (i * 3) (T - i) _ ⟨gv, 0, none⟩ m cv rfl rfl news m (Nat.min_eq_left (by have := HT.out; omega)).symm HL.out N0.out T0.out h1 ?_)
  go_still_tail 9, (by kernel_rfl)
  change wpList _ _ _ _ _ (u.setCells g (i * 3) news).drew
  have hl := HL.out
  have hc := HC.out
  have hT := HT.out
  have R1 : Rw (u.setCells g (i * 3) news).drew g (lay cs (i * 3) news) := (R0.out.lay (i * 3) news (by omega)).drew
  have B1 : Below K w (u.setCells g (i * 3) news).drew := (below_setCells hK news (i * 3) BW.out).drew
  generalize (u.setCells g (i * 3) news).drew = W1 at *
  have l1 := lay_length (cs := cs) (o := i * 3) (vs := news) (by omega)
  have ld : (cs.drop (j * 3)).length = (n - j) * 3 := by rw [List.length_drop]; omega
  have s2 : ∀ k v, (cs.drop (j * 3))[k]? = some v → W1.cell? ((⟨g, j * 3, none⟩ : Addr).add k) = some v := fun k v hk => by
    rw [Addr.add_lit]
    rw [← lay_drop (o := i * 3) (v := news) (by omega) (by omega), List.getElem?_drop] at hk
    exact R1.cell _ _ hk
  have t2 := there_of R1 ((i + m) * 3) (cs.drop (j * 3)).length (by omega)
  have R2 := R1.lay ((i + m) * 3) (cs.drop (j * 3)) (by omega)
  have l2 := lay_length (cs := lay cs (i * 3) news) (o := (i + m) * 3) (vs := cs.drop (j * 3)) (by omega)
  have B2 := below_setCells hK (cs.drop (j * 3)) ((i + m) * 3) B1
  have E2 : (lay (lay cs (i * 3) news) ((i + m) * 3) (cs.drop (j * 3))).take (T * 3) = cs.take (i * 3) ++ news ++ cs.drop (j * 3) := by
    have := lay_lay (b := cs) (v1 := news) (v2 := cs.drop (j * 3)) (o := i * 3) (by omega)
    rw [show i * 3 + news.length = (i + m) * 3 from by omega, show (i + m) * 3 + (cs.drop (j * 3)).length = T * 3 from by omega] at this
    exact this
  have S2 := Lib.hid s2
  have T2 := Lib.hid t2
  have LD := Lib.hid ld
  have E2 := Lib.hid E2
  have R2 := Lib.hid R2
  have B2 := Lib.hid B2
  have L2 := Lib.hid (l2.trans l1)
  clear s2 t2 ld R1 B1 l1 l2 hl hc hT R0 N0 T0 BW
  refine wpList_copy_wide' rfl (.tmp 103) (.tmp 106) 22 22 rfl 47 3 US (by kernel_rfl) g ((i + m) * 3) (T - (i + m)) _ ⟨g, j * 3, none⟩ (n - j) (n - j) rfl rfl (cs.drop (j * 3)) (n - j) (Nat.min_eq_left (by have := HT.out; omega)).symm LD.out S2.out T2.out H2.out ?_
  generalize W1.setCells g ((i + m) * 3) (cs.drop (j * 3)) = W2 at *
  by_cases q : T < n
  · have e4 : ¬ n = T := by omega
    have TH := Lib.hid (there_of R2.out (T * 3) ((n - T) * 3) (by have := L2.out; have := HC.out; omega))
    go_wp2_with (refine wpList_clear_wide rfl (.tmp 110) 22 rfl 47 i0 (.agg #[.int .i64 0, .int .i64 0, .int .i64 0]) US hi0 hz0 g (T * 3) (n - T) (n - T) rfl (by omega) TH.out (by rw [zc]; exact z3_one _) ?_)
    have R3 := R2.out.lay (T * 3) (Builtin.zeroCells (Value.agg #[.int .i64 0, .int .i64 0, .int .i64 0]).cells (n - T)).toList (by rw [zc, z3_len]; have := L2.out; have := HC.out; omega)
    have O3 := Lib.hid (R3.owns (K := K) (n := n) hK (by rw [lay_length (by rw [zc, z3_len]; have := L2.out; have := HC.out; omega), L2.out, HC.out]) (by unfold maxLen; omega) T (by omega))
    have B3 := Lib.hid (below_setCells (g := g) hK (Builtin.zeroCells (Value.agg #[.int .i64 0, .int .i64 0, .int .i64 0]).cells (n - T)).toList (T * 3) B2.out)
    rw [lay_take (by have := L2.out; have := HC.out; omega), E2.out] at O3
    clear R3
    go_ret
    rw [← HT.out]
    exact ⟨_, rfl, O3.out, B3.out⟩
  · have e4 : n = T := by omega
    subst e4
    go_wp2_with (refine wpList_clear_none rfl (.tmp 110) 22 rfl 47 US (some ⟨g, 0, none⟩) 0 rfl ?_)
    have O3 := Lib.hid (R2.out.owns (K := K) (n := n) hK (by rw [L2.out, HC.out]) (by unfold maxLen; omega) n (Nat.le_refl _))
    rw [E2.out] at O3
    go_ret
    rw [← HT.out]
    exact ⟨_, rfl, O3.out, B2.out⟩
end Go.Proofs.Ytekigilhmdphnaa
