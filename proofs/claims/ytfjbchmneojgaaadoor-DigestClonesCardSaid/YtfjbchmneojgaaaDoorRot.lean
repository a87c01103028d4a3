/- The contracts of the two rotations. -/
import Derived.Test.YtfjbchmneojgaaaDoorWord
import Derived.Deep.QuietTactic
import Derived.BigQuiet
namespace Go.Proofs.YtfjbchmneojgaaaDoor
open Go.RowKit

theorem ret_int {k : IntKind} {a b : Int} (h : a = b) : Ending.returned (.int k a) = .returned (.int k b) := by rw [h]
theorem wd_shl (x : BitVec 64) (k : Nat) : IntKind.u64.wrap (wd x * 2 ^ k) = wd (x <<< k) := by
  rw [IntKind.wrap_u64]
  unfold wd
  rw [BitVec.toNat_shiftLeft, Nat.shiftLeft_eq]
  simp
theorem wd_shr (x : BitVec 64) (k : Nat) : wd x / 2 ^ k = wd (x >>> k) := by
  unfold wd
  rw [BitVec.toNat_ushiftRight, Nat.shiftRight_eq_div_pow]
  simp
theorem rot_eq (x : BitVec 64) (k : Nat) (h : k < 64) : x <<< k ||| x >>> (64 - k) = x.rotateLeft k := by
  rw [BitVec.rotateLeft_def, Nat.mod_eq_of_lt h]
theorem rot_val (x : BitVec 64) (k : Nat) (h : k < 64) : bits .or .u64 (IntKind.u64.wrap (wd x * 2 ^ k)) (wd x / 2 ^ (64 - k)) = wd (x.rotateLeft k) := by
  rw [wd_shl, wd_shr, wd_or, rot_eq x k h]
theorem and63 (k : Nat) (h : k < 64) : bits .and .u64 (k : Int) 63 = (k : Int) := by
  rw [show (63 : Int) = ((63 : Nat) : Int) from rfl, u64_and_nat k 63 (by omega) (by omega)]
  congr 1
  rw [Nat.and_two_pow_sub_one_eq_mod k 6]
  omega

set_option maxHeartbeats 1000000 in
theorem rot_any (x : BitVec 64) (k : Nat) (w : World) (hk : k < 64) :
    Calls Tryd.prog 35 #[.int .u64 (wd x), .int .i64 k] w fun e w' => e = .returned (.int .u64 (wd (x.rotateLeft k))) ∧ w = w' := by
  have a63 := and63 k hk
  go_enter Tryd.func35, Tryd.ntmps35
  go_wp2
  go_ret
  exact ⟨ret_int (rot_val x k hk), rfl⟩
set_option maxHeartbeats 1000000 in
theorem rotate_any (x : BitVec 64) (k : Nat) (w : World) (hk : k < 64) :
    Calls Tryd.prog 33 #[.int .u64 (wd x), .int .i64 k] w fun e w' => e = .returned (.int .u64 (wd (x.rotateLeft k))) ∧ ∃ n, w' = w.drewN n := by
  go_enter Tryd.func33, Tryd.ntmps33
  go_wp2
  go_quiet (fail)
  go_wp2
  go_ret
  exact ⟨ret_int (rot_val x k hk), _, rfl⟩
theorem rot_still (x : BitVec 64) (k : Nat) (w : World) (hk : k < 64) :
    Calls Tryd.prog 35 #[.int .u64 (wd x), .int .i64 k] w fun e w' => e = .returned (.int .u64 (wd (x.rotateLeft k))) ∧ w' = w :=
  (rot_any x k w hk).mono fun _ _ ⟨a, b⟩ => ⟨a, b.symm⟩
theorem rot1_still (x : BitVec 64) (w : World) :
    Calls Tryd.prog 35 #[.int .u64 (wd x), .int .i64 1] w fun e w' => e = .returned (.int .u64 (wd (x.rotateLeft 1))) ∧ w' = w :=
  rot_still x 1 w (by decide)
theorem add_ok (k : Nat) (c n : Int) (h : (k : Int) + c < n) (hn : n ≤ 1000) (hc : 0 ≤ c) : (0 : Int) ≤ (k : Int) + c ∧ (k : Int) + c < n ∧ IntKind.i64.wrap ((k : Int) + c) = (k : Int) + c ∧ ((k : Int) + c).toNat = k + c.toNat :=
  ⟨by omega, by omega, IntWalk.i64_in _ ⟨by omega, by omega⟩, by omega⟩
/-- What a number modulo 5 is, in the walk's spellings. -/
theorem mod_ok (z : Int) (h : 0 ≤ z) : z.tmod 5 = z % 5 ∧ IntKind.i64.wrap (z % 5) = z % 5 ∧ 0 ≤ z % 5 ∧ z % 5 < 5 :=
  ⟨Int.tmod_eq_emod_of_nonneg h, IntWalk.i64_in _ ⟨by omega, by omega⟩, by omega, by omega⟩
end Go.Proofs.YtfjbchmneojgaaaDoor
