/- The contract of changes: step 1 of a round. -/
import Derived.Test.YtfjbchmneojgaaaDoorRot
import Derived.StillTailTactics
import Derived.Deep.DeepCutAuto
namespace Go.Proofs.YtfjbchmneojgaaaDoor
open Go.RowKit

def chC (f : Nat → BitVec 64) (x : Nat) : BitVec 64 := f x ^^^ f (x + 5) ^^^ f (x + 10) ^^^ f (x + 15) ^^^ f (x + 20)
def chD (f : Nat → BitVec 64) (x : Nat) : BitVec 64 := chC f ((x + 4) % 5) ^^^ (chC f ((x + 1) % 5)).rotateLeft 1
/-- What has been laid up to place k. -/
def upto (k : Nat) (g : Nat → BitVec 64) : Nat → BitVec 64 := fun j => if j < k then g j else 0
theorem upto_upd (k : Nat) (g : Nat → BitVec 64) (v : BitVec 64) (h : v = g k) : upd (upto k g) k v = upto (k + 1) g := by
  funext j
  unfold upd upto
  by_cases c : j = k
  · subst c; rw [if_pos rfl, if_pos (by omega), h]
  · rw [if_neg c]
    by_cases d : j < k
    · rw [if_pos d, if_pos (by omega)]
    · rw [if_neg d, if_neg (by omega)]
theorem upto_all {n : Nat} (g : Nat → BitVec 64) : vec n (upto n g) = vec n g := vec_congr fun i hi => by unfold upto; rw [if_pos hi]
theorem zeros (n : Nat) (g : Nat → BitVec 64) : vec n (upto 0 g) = (List.replicate n (Value.int .u64 0)).toArray := by
  unfold vec upto
  congr 1
  apply List.ext_getElem?
  intro i
  by_cases h : i < n
  · simp [h, wd]
  · simp [h]

/-- The rows of the two loops: the state, the result's row as it was laid, the sums so far, the changes so far. -/
structure Ch (f g h : Nat → BitVec 64) (w0 w : World) : Prop where
  s : Row w w0.heap.size 23 (vec 25 f)
  r : Row w (w0.heap.size + 1) 58 (vec 5 (fun _ => 0))
  c : Row w (w0.heap.size + 1 + 1) 58 (vec 5 g)
  d : Row w (w0.heap.size + 1 + 1 + 1) 58 (vec 5 h)
  b : Below w0.heap.size w0 w
theorem Ch.c_step {f g h : Nat → BitVec 64} {k : Nat} {w0 w : World} (H : Ch f (upto k g) h w0 w) {v : BitVec 64} (hv : v = g k) :
    Ch f (upto (k + 1) g) h w0 (w.setCell ⟨w0.heap.size + 1 + 1, k, none⟩ (.int .u64 (wd v))).drew := by
  refine ⟨(H.s.far (by dsimp only; omega) _).drew, (H.r.far (by dsimp only; omega) _).drew, ?_, (H.d.far (by dsimp only; omega) _).drew, (H.b.setCell (by dsimp only; omega) _).drew⟩
  have := (H.c.set k v).drew
  rw [upto_upd k g v hv] at this
  exact this
theorem Ch.d_step {f g h : Nat → BitVec 64} {k : Nat} {w0 w : World} (H : Ch f g (upto k h) w0 w) {v : BitVec 64} (hv : v = h k) :
    Ch f g (upto (k + 1) h) w0 (w.setCell ⟨w0.heap.size + 1 + 1 + 1, k, none⟩ (.int .u64 (wd v))).drew := by
  refine ⟨(H.s.far (by dsimp only; omega) _).drew, (H.r.far (by dsimp only; omega) _).drew, (H.c.far (by dsimp only; omega) _).drew, ?_, (H.b.setCell (by dsimp only; omega) _).drew⟩
  have := (H.d.set k v).drew
  rw [upto_upd k h v hv] at this
  exact this
theorem zero5 : (#[.int .u64 0, .int .u64 0, .int .u64 0, .int .u64 0, .int .u64 0] : Array Value) = vec 5 (fun _ => 0) := rfl
theorem zero5' (g : Nat → BitVec 64) : vec 5 (fun _ => 0) = vec 5 (upto 0 g) := vec_congr fun i _ => by unfold upto; rw [if_neg (by omega)]

set_option maxRecDepth 100000 in
set_option maxHeartbeats 4000000 in
theorem changes_any (f : Nat → BitVec 64) (w : World) :
    Calls Tryd.prog 32 #[.agg (vec 25 f)] w fun e w' => e = .returned (.agg (vec 5 (chD f))) ∧ Below w.heap.size w w' := by
  go_enter Tryd.func32, Tryd.ntmps32
  go_wp2
  go_loopw [7] (fun i wr => ∃ k : Nat, k ≤ 5 ∧ i = .int .i64 k ∧ Ch f (upto k (chC f)) (upto 0 (chD f)) w wr) (fun i _ => 5 - (intOf i).toNat)
  case atStart =>
    refine ⟨0, by omega, rfl, ?_⟩
    rw [zero5]
    refine ⟨(((Row.new _ _ _).alloc _).alloc _).alloc _, ((Row.new1 _ _ _ (by simp)).alloc _).alloc _, ?_, ?_, by go_grown⟩
    · rw [← zero5']; exact (Row.new1 _ _ _ (by simp)).alloc _
    · rw [← zero5']; exact Row.new1 _ _ _ (by simp)
  case round =>
    obtain ⟨k, hk, rfl, hR⟩ := hrel
    by_cases hlt : k < 5
    · have g0 := hR.s.cell (i := k) (by omega)
      have g1 := hR.s.cell (i := k + 5) (by omega)
      have g2 := hR.s.cell (i := k + 10) (by omega)
      have g3 := hR.s.cell (i := k + 15) (by omega)
      have g4 := hR.s.cell (i := k + 20) (by omega)
      have z := hR.c.frozen k
      have z' := hR.c.cell (i := k) (by omega)
      have H := Lib.hid hR
      clear hR
      obtain ⟨c5, d5, e5, n5⟩ := add_ok k 5 25 (by omega) (by omega) (by omega)
      obtain ⟨c10, d10, e10, n10⟩ := add_ok k 10 25 (by omega) (by omega) (by omega)
      obtain ⟨c15, d15, e15, n15⟩ := add_ok k 15 25 (by omega) (by omega) (by omega)
      obtain ⟨c20, d20, e20, n20⟩ := add_ok k 20 25 (by omega) (by omega) (by omega)
      have c0 : (0 : Int) ≤ (k : Int) := by omega
      have d0 : (k : Int) < 25 := by omega
      have d1 : (k : Int) < 5 := by omega
      go_wp2_with fail
      go_still_tail 25, (by kernel_rfl)
      go_wp2_with fail
      go_roundw
      case rel =>
        refine ⟨k + 1, by omega, by go_num, ?_⟩
        simp only [wd_xor]
        exact H.out.c_step rfl
      case measure => simp [intOf]; omega
    · obtain rfl : k = 5 := by omega
      have H := Lib.hid hR
      clear hR hlt hk
      go_wp2_with fail
      rw [show ((5 : Nat) : Int) = (5 : Int) from rfl]
      go_loopw [36] (fun i wr2 => ∃ k : Nat, k ≤ 5 ∧ i = .int .i64 k ∧ Ch f (upto 5 (chC f)) (upto k (chD f)) w wr2) (fun i _ => 5 - (intOf i).toNat)
      case atStart => exact ⟨0, by omega, rfl, H.out⟩
      case round =>
        obtain ⟨k, hk, rfl, hR⟩ := hrel
        clear H
        by_cases hlt : k < 5
        · have g0 := hR.c.cell (i := (k + 4) % 5) (by omega)
          have g1 := hR.c.cell (i := (k + 1) % 5) (by omega)
          rw [show upto 5 (chC f) ((k + 4) % 5) = chC f ((k + 4) % 5) from by unfold upto; rw [if_pos (by omega)]] at g0
          rw [show upto 5 (chC f) ((k + 1) % 5) = chC f ((k + 1) % 5) from by unfold upto; rw [if_pos (by omega)]] at g1
          have z := hR.d.frozen k
          have z' := hR.d.cell (i := k) (by omega)
          have H := Lib.hid hR
          clear hR
          obtain ⟨c5, d5, e5, n5⟩ := add_ok k 4 25 (by omega) (by omega) (by omega)
          obtain ⟨c6, d6, e6, n6⟩ := add_ok k 1 25 (by omega) (by omega) (by omega)
          obtain ⟨m1, m2, m3, m4⟩ := mod_ok ((k : Int) + 4) (by omega)
          obtain ⟨q1, q2, q3, q4⟩ := mod_ok ((k : Int) + 1) (by omega)
          have m5 : (((k : Int) + 4) % 5).toNat = (k + 4) % 5 := by omega
          have q5 : (((k : Int) + 1) % 5).toNat = (k + 1) % 5 := by omega
          have c0 : (0 : Int) ≤ (k : Int) := by omega
          have d1 : (k : Int) < 5 := by omega
          go_wp2_with fail
          go_still_tail 14, (by kernel_rfl)
          clear c5 d5 e5 n5 c6 d6 e6 n6 m1 m2 m3 m4 m5 q1 q2 q3 q4 q5 g0 g1
          refine wpStill_step (fun K hK => ?_)
          go_simp
          refine ⟨_, rot1_still _ _, hK _ ?_⟩
          clear hK K
          repeat still_step
          refine wpStill_nil ?_
          go_wp2_with fail
          go_roundw
          case rel =>
            refine ⟨k + 1, by omega, by go_num, ?_⟩
            simp only [wd_xor]
            exact H.out.d_step rfl
          case measure => simp [intOf]; omega
        · obtain rfl : k = 5 := by omega
          have hs := hR.d
          have hr := hR.r
          have hb := hR.b
          have U := Tryd.underlying58
          clear hR hlt hk
          go_wp2_with (first | (refine wpList_load_row rfl 58 _ rfl _ rfl _ _ _ _ hs U rfl (info5 _) ?_) | (refine wpList_store_row rfl 58 _ _ rfl _ _ rfl rfl _ _ hr (info5 _) (same_size _ _ _) (vec_one _ _) ?_))
          exact bodyPost_ret (results_cell_row Tryd.results32 _ _ _ _ _ _ _ rfl (hr.setRow _) U rfl (info5 _)) rfl ⟨by rw [upto_all], below_setRow hb (by omega) _⟩
end Go.Proofs.YtfjbchmneojgaaaDoor
