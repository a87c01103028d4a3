/- The contract of round: the three steps and the constant. -/
import Derived.Test.YtfjbchmneojgaaaDoorMoved
import Derived.Deep.RegionHeld3
import Derived.Deep.QuietTactic
import Derived.BigQuiet
namespace Go.Proofs.YtfjbchmneojgaaaDoor
open Go.RowKit

/-- A whole row is read, in whatever world has it. -/
theorem yields_row {ops : Array Oper} {op : Oper} {a : Act} {g : Nat} {f : Nat → BitVec 64} (hw : Region.wanted op (yielded ops a.tmps) = true) (x : Operand) (ho : op.op = .load 23 x)
    (hx : a.eval x = .pointer (some ⟨g, 0, none⟩)) : YieldsIf Tryd.prog ops (fun w' => Row w' g 23 (vec 25 f)) op (.agg (vec 25 f)) a :=
  .inl ⟨hw, fun w h => by
    unfold execOp
    simp only [ho, hx, Instr.loadAt, Instr.sureAddr, Sem.run_bind, Sem.run_pure, Result.andThen_ok, run_loadVar_row w g 23 23 _ (0, 0) _ h Tryd.underlying23 rfl (info25 f)]⟩

theorem wpOp_of {P : Program} {ops : Array Oper} {i : Nat} {o : Oper} {a : Act} {w : World} {K : Act → World → Prop} {Q : Exit → Act → World → Prop} (hi : ops[i]? = some o) (hw : Region.wanted o (yielded ops a.tmps) = true)
    (h : o.wp P a w K Q) : wpOp P ops Q i K a w := by
  unfold wpOp; simp only [hi, hw, if_true]; exact .inl h

/-- What stays while the first statement runs: the state's row, the result's, and all that was there. -/
structure Fa (f : Nat → BitVec 64) (w0 w : World) : Prop where
  s : Row w w0.heap.size 23 (vec 25 f)
  z : Row w (w0.heap.size + 1) 23 (vec 25 (fun _ => 0))
  b : Below w0.heap.size w0 w
  l : w0.heap.size + 1 < w.heap.size
theorem Fa.below {f : Nat → BitVec 64} {w0 w w' : World} (h : Fa f w0 w) (hb : Below w.heap.size w w') : Fa f w0 w' :=
  ⟨h.s.below hb (by have := h.l; omega), h.z.below hb h.l, h.b.trans (hb.mono (by have := h.l; omega)), Nat.lt_of_lt_of_le h.l hb.size⟩
theorem Fa.alloc {f : Nat → BitVec 64} {w0 w : World} (h : Fa f w0 w) (o : Obj) : Fa f w0 (w.alloc o) := h.below ((Below.refl _ _).alloc (Nat.le_refl _) o)
theorem Fa.drew {f : Nat → BitVec 64} {w0 w : World} (h : Fa f w0 w) : Fa f w0 w.drew := ⟨h.s, h.z, h.b.drew, h.l⟩
theorem Fa.setRow {f : Nat → BitVec 64} {w0 w : World} (h : Fa f w0 w) {g : Nat} (hg : w0.heap.size + 1 < g) (cs : Array Value) : Fa f w0 (w.setRow g cs) :=
  ⟨h.s.setFar (by omega) cs, h.z.setFar (by omega) cs, below_setRow h.b (by omega) cs, by rw [size_setRow]; exact h.l⟩

/-- Step 3 of a round. -/
def chi (b : Nat → BitVec 64) (j : Nat) : BitVec 64 := b j ^^^ (~~~ (b (j / 5 * 5 + (j % 5 + 1) % 5)) &&& b (j / 5 * 5 + (j % 5 + 2) % 5))
def chis (n : Nat) (b f : Nat → BitVec 64) (j : Nat) : BitVec 64 := if j < n then chi b j else f j

theorem wd_not (x : BitVec 64) : bits .xor .u64 (if IntKind.u64.signed = true then -1 else IntKind.u64.max) (wd x) = wd (~~~ x) := by
  have e : (if IntKind.u64.signed = true then (-1 : Int) else IntKind.u64.max) = wd (BitVec.allOnes 64) := by decide
  rw [e, wd_xor, BitVec.allOnes_xor]
theorem chis_step (n : Nat) (M f : Nat → BitVec 64) (h : n % 5 = 0) :
    upd (upd (upd (upd (upd (chis n M f) n (M n ^^^ (~~~ (M (n + 1)) &&& M (n + 2)))) (n + 1) (M (n + 1) ^^^ (~~~ (M (n + 2)) &&& M (n + 3)))) (n + 2) (M (n + 2) ^^^ (~~~ (M (n + 3)) &&& M (n + 4)))) (n + 3) (M (n + 3) ^^^ (~~~ (M (n + 4)) &&& M n))) (n + 4) (M (n + 4) ^^^ (~~~ (M n) &&& M (n + 1)))
      = chis (n + 5) M f := by
  funext j
  unfold upd chis
  by_cases c4 : j = n + 4
  · subst c4; rw [if_pos rfl, if_pos (by omega)]; unfold chi
    rw [show (n + 4) / 5 * 5 + ((n + 4) % 5 + 1) % 5 = n from by omega, show (n + 4) / 5 * 5 + ((n + 4) % 5 + 2) % 5 = n + 1 from by omega]
  · rw [if_neg c4]
    by_cases c3 : j = n + 3
    · subst c3; rw [if_pos rfl, if_pos (by omega)]; unfold chi
      rw [show (n + 3) / 5 * 5 + ((n + 3) % 5 + 1) % 5 = n + 4 from by omega, show (n + 3) / 5 * 5 + ((n + 3) % 5 + 2) % 5 = n from by omega]
    · rw [if_neg c3]
      by_cases c2 : j = n + 2
      · subst c2; rw [if_pos rfl, if_pos (by omega)]; unfold chi
        rw [show (n + 2) / 5 * 5 + ((n + 2) % 5 + 1) % 5 = n + 3 from by omega, show (n + 2) / 5 * 5 + ((n + 2) % 5 + 2) % 5 = n + 4 from by omega]
      · rw [if_neg c2]
        by_cases c1 : j = n + 1
        · subst c1; rw [if_pos rfl, if_pos (by omega)]; unfold chi
          rw [show (n + 1) / 5 * 5 + ((n + 1) % 5 + 1) % 5 = n + 2 from by omega, show (n + 1) / 5 * 5 + ((n + 1) % 5 + 2) % 5 = n + 3 from by omega]
        · rw [if_neg c1]
          by_cases c0 : j = n
          · subst c0; rw [if_pos rfl, if_pos (by omega)]; unfold chi
            rw [show j / 5 * 5 + (j % 5 + 1) % 5 = j + 1 from by omega, show j / 5 * 5 + (j % 5 + 2) % 5 = j + 2 from by omega]
          · rw [if_neg c0]
            by_cases l : j < n
            · rw [if_pos l, if_pos (by omega)]
            · rw [if_neg l, if_neg (by omega)]
/-- What a round makes of a state. -/
def rdF (f : Nat → BitVec 64) (c : BitVec 64) : Nat → BitVec 64 := upd (chi (mvB f (chD f))) 0 (chi (mvB f (chD f)) 0 ^^^ c)
theorem round_fin {f M : Nat → BitVec 64} {c : BitVec 64} (h : mvB f (chD f) = M) : vec 25 (upd (chis 25 M f) 0 (chi M 0 ^^^ c)) = vec 25 (rdF f c) := by
  subst h
  refine vec_congr fun i hi => ?_
  unfold rdF upd chis
  by_cases z : i = 0
  · rw [if_pos z, if_pos z]
  · rw [if_neg z, if_neg z, if_pos hi]
theorem Fa.set {f : Nat → BitVec 64} {w0 w : World} (h : Fa f w0 w) (i : Nat) (v : BitVec 64) : Fa (upd f i v) w0 (w.setCell ⟨w0.heap.size, i, none⟩ (.int .u64 (wd v))) :=
  ⟨h.s.set i v, h.z.far (by dsimp only; omega) _, h.b.setCell (by dsimp only; omega) _, by simpa [World.setCell] using h.l⟩
theorem Fa.drewN {f : Nat → BitVec 64} {w0 w : World} (h : Fa f w0 w) (n : Nat) : Fa f w0 (w.drewN n) := ⟨h.s, h.z, h.b.trans ⟨rfl, rfl, rfl, Nat.le_refl _, fun _ _ => rfl⟩, h.l⟩
theorem Row.drewN {w : World} {g t : Nat} {cs : Array Value} (h : Row w g t cs) (n : Nat) : Row (w.drewN n) g t cs := h

set_option maxRecDepth 100000 in
set_option maxHeartbeats 4000000 in
theorem round_any (f : Nat → BitVec 64) (c : BitVec 64) (w : World) (hT : Tabs w) :
    Calls Tryd.prog 23 #[.agg (vec 25 f), .int .u64 (wd c)] w fun e w' => e = .returned (.agg (vec 25 (rdF f c))) ∧ Below w.heap.size w w' := by
  go_enter Tryd.func23, Tryd.ntmps23
  go_upto_region 1 with (fail)
  rw [zero25]
  generalize hW : (w.alloc (.cells (vec 25 f) 23)).alloc (.cells (vec 25 fun _ => 0) 23) = W0
  have F : Fa f w W0 := by
    rw [← hW]; exact ⟨(Row.new _ _ _).alloc _, Row.new1 _ _ _ (by simp), by go_grown, by simp⟩
  clear hW
  go_cut [5] (fun s wx => ∃ g : Nat, s = .pointer (some ⟨g, 0, none⟩) ∧ Row wx g 23 (vec 25 (mvB f (chD f))) ∧ w.heap.size + 1 < g ∧ Fa f w wx)
  case first =>
    refine wp_region_held (S := fun w' => Row w' w.heap.size 23 (vec 25 f)) (by kernel_rfl) ?_
    refine wpAnyH_take (i := 0) (v := .agg (vec 25 f)) rfl (by kernel_rfl) (by kernel_rfl) (by kernel_rfl) (fun _ _ _ h => h) (yields_row rfl _ rfl rfl) F.s ?_
    refine wpAnyH_take (i := 1) (v := .agg (vec 25 f)) rfl (by kernel_rfl) (by kernel_rfl) (by kernel_rfl) (fun _ _ _ h => h) (yields_row rfl _ rfl rfl) F.s ?_
    refine wpAnyH_all (rs := [2, 4]) (by kernel_rfl) (by simp) ?_
    intro i hi
    simp only [List.mem_cons, List.not_mem_nil, or_false] at hi
    rcases hi with rfl | rfl
    · refine wpOp_of rfl rfl ?_
      go_simp
      refine (changes_any f _).mono ?_
      rintro e w1 ⟨rfl, hb1⟩
      have F1 := F.drew.below hb1
      refine ⟨F1.s, ?_⟩
      refine wpAnyH_all (rs := [3, 4]) (by kernel_rfl) (by simp) ?_
      intro i hi
      simp only [List.mem_cons, List.not_mem_nil, or_false] at hi
      rcases hi with rfl | rfl
      · refine wpOp_of rfl rfl ?_
        go_simp
        refine (moved_any f (chD f) _ (hT.below F1.b)).mono ?_
        rintro e w2 ⟨rfl, hb2⟩
        have F2 := F1.below hb2
        refine ⟨F2.s, ?_⟩
        refine wpAnyH_all (rs := [4]) (by kernel_rfl) (by simp) ?_
        intro i hi
        simp only [List.mem_cons, List.not_mem_nil, or_false] at hi
        subst hi
        refine wpOp_of rfl rfl ?_
        go_simp
        rw [zero25]
        have F3 := F2.alloc (.cells (vec 25 fun _ => 0) 23)
        have R3 := Row.new w2 23 (vec 25 fun _ => 0)
        have l3 := F2.l
        refine ⟨F3.s, ?_⟩
        refine wpAnyH_all (rs := [5]) (by kernel_rfl) (by simp) ?_
        intro i hi
        simp only [List.mem_cons, List.not_mem_nil, or_false] at hi
        subst hi
        refine wpOp_of rfl rfl (wp_store_row 23 _ _ rfl _ (vec 25 (mvB f (chD f))) rfl rfl 23 _ R3 (info25 _) (same_size _ _ _) (vec_one _ _) ?_)
        have FS := F3.setRow l3 (vec 25 (mvB f (chD f)))
        refine ⟨FS.s, wpAnyH_done (by kernel_rfl) ?_ _⟩
        go_wp2_with fail
        go_meet
        exact ⟨_, rfl, R3.setRow _, l3, FS⟩
      · refine wpOp_of rfl rfl ?_
        go_simp
        rw [zero25]
        have F2 := F1.alloc (.cells (vec 25 fun _ => 0) 23)
        have R2 := Row.new w1 23 (vec 25 fun _ => 0)
        have l2 := F1.l
        refine ⟨F2.s, ?_⟩
        refine wpAnyH_all (rs := [3]) (by kernel_rfl) (by simp) ?_
        intro i hi
        simp only [List.mem_cons, List.not_mem_nil, or_false] at hi
        subst hi
        refine wpOp_of rfl rfl ?_
        go_simp
        refine (moved_any f (chD f) _ (hT.below F2.b)).mono ?_
        rintro e w3 ⟨rfl, hb3⟩
        have F3 := F2.below hb3
        refine ⟨F3.s, ?_⟩
        have R3 := R2.below hb3 (by simp)
        refine wpAnyH_all (rs := [5]) (by kernel_rfl) (by simp) ?_
        intro i hi
        simp only [List.mem_cons, List.not_mem_nil, or_false] at hi
        subst hi
        refine wpOp_of rfl rfl (wp_store_row 23 _ _ rfl _ (vec 25 (mvB f (chD f))) rfl rfl 23 _ R3 (info25 _) (same_size _ _ _) (vec_one _ _) ?_)
        have FS := F3.setRow l2 (vec 25 (mvB f (chD f)))
        refine ⟨FS.s, wpAnyH_done (by kernel_rfl) ?_ _⟩
        go_wp2_with fail
        go_meet
        exact ⟨_, rfl, R3.setRow _, l2, FS⟩
    · refine wpOp_of rfl rfl ?_
      go_simp
      rw [zero25]
      have F1 := F.drew.alloc (.cells (vec 25 fun _ => 0) 23)
      have R1 := Row.new W0.drew 23 (vec 25 fun _ => 0)
      have l1 := F.drew.l
      refine ⟨F1.s, ?_⟩
      refine wpAnyH_all (rs := [2]) (by kernel_rfl) (by simp) ?_
      intro i hi
      simp only [List.mem_cons, List.not_mem_nil, or_false] at hi
      subst hi
      refine wpOp_of rfl rfl ?_
      go_simp
      refine (changes_any f _).mono ?_
      rintro e w2 ⟨rfl, hb2⟩
      have F2 := F1.below hb2
      refine ⟨F2.s, ?_⟩
      have R2 := R1.below hb2 (by simp)
      refine wpAnyH_all (rs := [3]) (by kernel_rfl) (by simp) ?_
      intro i hi
      simp only [List.mem_cons, List.not_mem_nil, or_false] at hi
      subst hi
      refine wpOp_of rfl rfl ?_
      go_simp
      refine (moved_any f (chD f) _ (hT.below F2.b)).mono ?_
      rintro e w3 ⟨rfl, hb3⟩
      have F3 := F2.below hb3
      refine ⟨F3.s, ?_⟩
      have R3 := R2.below hb3 R2.lt
      refine wpAnyH_all (rs := [5]) (by kernel_rfl) (by simp) ?_
      intro i hi
      simp only [List.mem_cons, List.not_mem_nil, or_false] at hi
      subst hi
      refine wpOp_of rfl rfl (wp_store_row 23 _ _ rfl _ (vec 25 (mvB f (chD f))) rfl rfl 23 _ R3 (info25 _) (same_size _ _ _) (vec_one _ _) ?_)
      have FS := F3.setRow l1 (vec 25 (mvB f (chD f)))
      refine ⟨FS.s, wpAnyH_done (by kernel_rfl) ?_ _⟩
      go_wp2_with fail
      go_meet
      exact ⟨_, rfl, R3.setRow _, l1, FS⟩
  case rest =>
    obtain ⟨g, rfl, hB, hg, F⟩ := hcut
    generalize hM : mvB f (chD f) = M at hB
    have HM := Lib.hid hM
    clear hM
    go_wp2_with fail
    go_loopw [6] (fun i wr => ∃ n : Nat, n ≤ 25 ∧ Hid (n % 5 = 0) ∧ i = .int .i64 n ∧ Row wr g 23 (vec 25 M) ∧ Fa (chis n M f) w wr) (fun i _ => 25 - (intOf i).toNat)
    case atStart => exact ⟨0, by omega, rfl, rfl, hB, F⟩
    case round =>
      obtain ⟨n, hn, hm, rfl, hB, hR⟩ := hrel
      clear F
      by_cases hlt : n < 25
      · have h20 : n ≤ 20 := by have := hm.out; omega
        have g0 := hB.cell (i := n) (by omega)
        have g1 := hB.cell (i := n + 1) (by omega)
        have g2 := hB.cell (i := n + 2) (by omega)
        have g3 := hB.cell (i := n + 3) (by omega)
        have g4 := hB.cell (i := n + 4) (by omega)
        have z0 := hR.s.frozen n
        have z1 := hR.s.frozen (n + 1)
        have z2 := hR.s.frozen (n + 2)
        have z3 := hR.s.frozen (n + 3)
        have z4 := hR.s.frozen (n + 4)
        have y0 := hR.s.cell (i := n) (by omega)
        have y1 := hR.s.cell (i := n + 1) (by omega)
        have y2 := hR.s.cell (i := n + 2) (by omega)
        have y3 := hR.s.cell (i := n + 3) (by omega)
        have y4 := hR.s.cell (i := n + 4) (by omega)
        have H := Lib.hid hR
        have HB := Lib.hid hB
        clear hR hB
        obtain ⟨c1, d1, e1, n1⟩ := add_ok n 1 25 (by omega) (by omega) (by omega)
        obtain ⟨c2, d2, e2, n2⟩ := add_ok n 2 25 (by omega) (by omega) (by omega)
        obtain ⟨c3, d3, e3, n3⟩ := add_ok n 3 25 (by omega) (by omega) (by omega)
        obtain ⟨c4, d4, e4, n4⟩ := add_ok n 4 25 (by omega) (by omega) (by omega)
        have c0 : (0 : Int) ≤ (n : Int) := by omega
        have d0 : (n : Int) < 25 := by omega
        go_wp2_with fail
        go_quiet (fail)
        clear g0 g1 g2 g3 g4 e1 e2 e3 e4
        go_wp2_with fail
        go_roundw
        case rel =>
          simp only [wd_not, wd_and, wd_xor]
          have q := ((((((H.out.drewN nq).set n (M n ^^^ (~~~ (M (n + 1)) &&& M (n + 2)))).set (n + 1) (M (n + 1) ^^^ (~~~ (M (n + 2)) &&& M (n + 3)))).set (n + 2) (M (n + 2) ^^^ (~~~ (M (n + 3)) &&& M (n + 4)))).set (n + 3) (M (n + 3) ^^^ (~~~ (M (n + 4)) &&& M n))).set (n + 4) (M (n + 4) ^^^ (~~~ (M n) &&& M (n + 1))))
          rw [chis_step n M f hm.out] at q
          refine ⟨n + 5, by omega, ?_, by go_num, ?_, q⟩
          · have := hm.out; show (n + 5) % 5 = 0; omega
          · exact (((((HB.out.drewN nq).far (by dsimp only; omega) _).far (by dsimp only; omega) _).far (by dsimp only; omega) _).far (by dsimp only; omega) _).far (by dsimp only; omega) _
        case measure => simp [intOf]; omega
      · obtain rfl : n = 25 := by omega
        have y0 := hR.s.cell (i := 0) (by omega)
        rw [show chis 25 M f 0 = chi M 0 from by unfold chis; rw [if_pos (by omega)]] at y0
        have z0 := hR.s.frozen 0
        have q := hR.set 0 (chi M 0 ^^^ c)
        have xr := wd_xor (chi M 0) c
        have U := Tryd.underlying23
        clear hR hB hlt hn hm
        go_wp2_with (first | (refine wpList_load_row rfl 23 _ rfl _ rfl _ _ _ _ q.s U rfl (info25 _) ?_) | (refine wpList_store_row rfl 23 _ _ rfl _ _ rfl rfl _ _ q.z (info25 _) (same_size _ _ _) (vec_one _ _) ?_))
        refine bodyPost_ret (results_cell_row Tryd.results23 _ _ _ _ _ _ _ rfl (q.z.setRow _) U rfl (info25 _)) rfl ⟨?_, below_setRow q.b (by omega) _⟩
        rw [round_fin HM.out]
end Go.Proofs.YtfjbchmneojgaaaDoor
