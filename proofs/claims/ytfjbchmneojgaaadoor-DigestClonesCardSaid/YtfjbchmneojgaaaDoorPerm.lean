/- The contract of Permute: twenty-four rounds. -/
import Derived.Test.YtfjbchmneojgaaaDoorRound
namespace Go.Proofs.YtfjbchmneojgaaaDoor
open Go.RowKit

/-- The state behind so many rounds. -/
def perm (f : Nat → BitVec 64) : Nat → Nat → BitVec 64
  | 0 => f
  | n + 1 => rdF (perm f n) (rcN n)

/-- A whole row is read, as one step of a region that reads ahead of its last operations. -/
theorem still_row {ops : Array Oper} {w : World} {Q : Act → Prop} {o : Oper} {rest : List Oper} {a : Act} {g : Nat} {cs : Array Value} {t : TypeId} {m : Nat} {e : TypeId} (hg : o.guard = none) (x : Operand) (ho : o.op = .load t x)
    (hx : a.eval x = .pointer (some ⟨g, 0, none⟩)) (hr : Row w g t cs) (hu : Tryd.prog.underlying t = some (.array m e)) (hi : (Tryd.prog.info? t).map (·.size) = some cs.size)
    (h : wpStill Tryd.prog ops w Q rest (a.put o.dst (.agg cs))) : wpStill Tryd.prog ops w Q (o :: rest) a := by
  refine wpStill_step (fun K hK => ?_)
  have hw : Region.wanted o (yielded ops a.tmps) = true := by simp [Region.wanted, hg]
  rw [if_pos hw]
  unfold Oper.still execOp
  simp only [ho, hx, Instr.loadAt, Instr.sureAddr, Sem.run_bind, Sem.run_pure, Result.andThen_ok, run_loadVar_row w g t t cs (0, 0) _ hr hu rfl hi, Oper.stillUpon_value]
  exact hK _ h

structure Pe (f : Nat → BitVec 64) (w0 w : World) : Prop where
  s : Row w w0.heap.size 23 (vec 25 f)
  z : Row w (w0.heap.size + 1) 23 (vec 25 (fun _ => 0))
  b : Below w0.heap.size w0 w

set_option maxRecDepth 100000 in
set_option maxHeartbeats 4000000 in
theorem Permute_any (f : Nat → BitVec 64) (w : World) (hT : Tabs w) :
    Calls Tryd.prog 11 #[.agg (vec 25 f)] w fun e w' => e = .returned (.agg (vec 25 (perm f 24))) ∧ Below w.heap.size w w' := by
  have U := Tryd.underlying23
  go_enter Tryd.func11, Tryd.ntmps11
  go_wp2
  rw [zero25]
  go_loopw [4] (fun i wr => ∃ n : Nat, n ≤ 24 ∧ i = .int .i64 n ∧ Fa (perm f n) w wr) (fun i _ => 24 - (intOf i).toNat)
  case atStart => exact ⟨0, by omega, rfl, (Row.new _ _ _).alloc _, Row.new1 _ _ _ (by simp), by go_grown, by simp⟩
  case round =>
    obtain ⟨n, hn, rfl, hR⟩ := hrel
    by_cases hlt : n < 24
    · have hT1 := hT.below hR.b
      have g0 := hT1.rc n hlt
      have c0 : (0 : Int) ≤ (n : Int) := by omega
      have d0 : (n : Int) < 24 := by omega
      have hs := hR.s
      have H := Lib.hid hR
      clear hR
      go_wp2_with fail
      refine wp_region_still_tail 4 (by kernel_rfl) (by kernel_rfl) ?_
      simp only [List.take_succ_cons, List.take_zero, List.drop_succ_cons, List.drop_zero]
      refine still_row rfl _ rfl rfl hs U (info25 _) ?_
      repeat still_step
      refine wpStill_nil ?_
      go_wp2_with fail
      refine (round_any _ _ _ (hT.below H.out.drew.b)).mono ?_
      rintro e w1 ⟨rfl, hb1⟩
      have H1 := H.out.drew.below hb1
      have hs1 := H1.s
      go_wp2_with (refine wpList_store_row rfl 23 _ _ rfl _ _ rfl rfl _ _ hs1 (info25 _) (same_size _ _ _) (vec_one _ _) ?_)
      go_outline
      go_roundw
      case rel =>
        refine ⟨n + 1, by omega, by go_num, hs1.setRow _, ?_, ?_, ?_⟩
        · exact H1.z.setFar (by omega) _
        · exact below_setRow H1.b (by omega) _
        · rw [size_setRow]; exact H1.l
      case measure => simp [intOf]; omega
    · obtain rfl : n = 24 := by omega
      have hs := hR.s
      have hz := hR.z
      have hb := hR.b
      clear hR hlt hn
      go_wp2_with (first | (refine wpList_load_row rfl 23 _ rfl _ rfl _ _ _ _ hs U rfl (info25 _) ?_) | (refine wpList_store_row rfl 23 _ _ rfl _ _ rfl rfl _ _ hz (info25 _) (same_size _ _ _) (vec_one _ _) ?_))
      exact bodyPost_ret (results_cell_row Tryd.results11 _ _ _ _ _ _ _ rfl (hz.setRow _) U rfl (info25 _)) rfl ⟨rfl, below_setRow hb (by omega) _⟩
end Go.Proofs.YtfjbchmneojgaaaDoor
