/- The contract of withByte. -/
import Derived.Test.YtfjbchmneojgaaaDoorPerm
namespace Go.Proofs.YtfjbchmneojgaaaDoor
open Go.RowKit

/-- A byte is exclusive-ored with the one at a place of a state. -/
def byteAt (p b : Nat) : BitVec 64 := BitVec.ofNat 64 b <<< (8 * (p % 8))
def put (f : Nat → BitVec 64) (p b : Nat) : Nat → BitVec 64 := upd f (p / 8) (f (p / 8) ^^^ byteAt p b)

theorem byte_val (f : Nat → BitVec 64) (p b : Nat) (hb : b < 256) :
    bits .xor .u64 (wd (f (p / 8))) (IntKind.u64.wrap ((b : Int) * 2 ^ (8 * (p % 8)))) = wd (f (p / 8) ^^^ byteAt p b) := by
  have e : (b : Int) = wd (BitVec.ofNat 64 b) := by unfold wd; rw [BitVec.toNat_ofNat, Nat.mod_eq_of_lt (by omega)]
  rw [e, wd_shl, wd_xor]; rfl

set_option maxRecDepth 100000 in
set_option maxHeartbeats 4000000 in
theorem withByte_any (f : Nat → BitVec 64) (p b : Nat) (w : World) (hp : p < 136) (hb : b < 256) :
    Calls Tryd.prog 29 #[.agg (vec 25 f), .int .i64 p, .int .u8 b] w fun e w' => e = .returned (.agg (vec 25 (put f p b))) ∧ Below w.heap.size w w' := by
  have U := Tryd.underlying23
  go_enter Tryd.func29, Tryd.ntmps29
  go_upto_region 1 with (fail)
  rw [zero25]
  generalize hW : (w.alloc (.cells (vec 25 f) 23)).alloc (.cells (vec 25 fun _ => 0) 23) = W0
  have F : Fa f w W0 := by
    rw [← hW]; exact ⟨(Row.new _ _ _).alloc _, Row.new1 _ _ _ (by simp), by go_grown, by simp⟩
  clear hW
  have g0 := F.s.cell (i := p / 8) (by omega)
  have z0 := F.s.frozen (p / 8)
  have q1 : (p : Int).tdiv 8 = (p : Int) / 8 := Int.tdiv_eq_ediv_of_nonneg (by omega)
  have q2 : IntKind.i64.wrap ((p : Int) / 8) = (p : Int) / 8 := IntWalk.i64_in _ ⟨by omega, by omega⟩
  have q3 : ((p : Int) / 8).toNat = p / 8 := by omega
  have q4 : 0 ≤ (p : Int) / 8 := by omega
  have q5 : (p : Int) / 8 < 25 := by omega
  have r1 : (p : Int).tmod 8 = (p : Int) % 8 := Int.tmod_eq_emod_of_nonneg (by omega)
  have r2 : IntKind.i64.wrap ((p : Int) % 8) = (p : Int) % 8 := IntWalk.i64_in _ ⟨by omega, by omega⟩
  have r3 : IntKind.i64.wrap (8 * ((p : Int) % 8)) = 8 * ((p : Int) % 8) := IntWalk.i64_in _ ⟨by omega, by omega⟩
  have r4 : 0 ≤ 8 * ((p : Int) % 8) := by omega
  have r5 : 8 * ((p : Int) % 8) ≤ 64 := by omega
  have r6 : (8 * ((p : Int) % 8)).toNat = 8 * (p % 8) := by omega
  have b1 : (0 : Int) ≤ (b : Int) := by omega
  have b2 : (b : Int) < 256 := by omega
  have b3 : IntKind.u64.wrap (b : Int) = (b : Int) := IntWalk.u64_in _ ⟨by omega, by omega⟩
  have Fq := (F.set (p / 8) (f (p / 8) ^^^ byteAt p b)).drew
  rw [← byte_val f p b hb] at Fq
  have hs := Fq.s
  have hz := Fq.z
  have H := Lib.hid Fq
  clear F Fq
  go_still_tail 12, (by kernel_rfl)
  go_wp2_with (first | (refine wpList_load_row rfl 23 _ rfl _ rfl _ _ _ _ hs U rfl (info25 _) ?_) | (refine wpList_store_row rfl 23 _ _ rfl _ _ rfl rfl _ _ hz (info25 _) (same_size _ _ _) (vec_one _ _) ?_))
  exact bodyPost_ret (results_cell_row Tryd.results29 _ _ _ _ _ _ _ rfl (hz.setRow _) U rfl (info25 _)) rfl ⟨rfl, below_setRow H.out.b (by omega) _⟩
end Go.Proofs.YtfjbchmneojgaaaDoor
