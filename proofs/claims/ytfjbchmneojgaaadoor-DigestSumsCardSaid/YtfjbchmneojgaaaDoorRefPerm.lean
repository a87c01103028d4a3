/- The reference's tables and its Permute. -/
import Derived.Test.YtfjbchmneojgaaaDoorRefRound
namespace Go.Proofs.YtfjbchmneojgaaaDoor
open Go.RowKit

theorem c24 : (#[.int .u64 1, .int .u64 32898, .int .u64 9223372036854808714, .int .u64 9223372039002292224, .int .u64 32907, .int .u64 2147483649, .int .u64 9223372039002292353, .int .u64 9223372036854808585, .int .u64 138, .int .u64 136, .int .u64 2147516425, .int .u64 2147483658, .int .u64 2147516555, .int .u64 9223372036854775947, .int .u64 9223372036854808713, .int .u64 9223372036854808579, .int .u64 9223372036854808578, .int .u64 9223372036854775936, .int .u64 32778, .int .u64 9223372039002259466, .int .u64 9223372039002292353, .int .u64 9223372036854808704, .int .u64 2147483649, .int .u64 9223372039002292232] : Array Value) = vec 24 rcN := by kernel_rfl
theorem r25 : (#[.int .i64 0, .int .i64 1, .int .i64 62, .int .i64 28, .int .i64 27, .int .i64 36, .int .i64 44, .int .i64 6, .int .i64 55, .int .i64 20, .int .i64 3, .int .i64 10, .int .i64 43, .int .i64 25, .int .i64 39, .int .i64 41, .int .i64 45, .int .i64 15, .int .i64 21, .int .i64 8, .int .i64 18, .int .i64 2, .int .i64 61, .int .i64 56, .int .i64 14] : Array Value) = rotV := by kernel_rfl

set_option maxRecDepth 100000 in
theorem refConstants_any (w : World) : Calls Tryd.prog 24 #[] w fun e w' => e = .returned (.agg (vec 24 rcN)) ∧ Below w.heap.size w w' := by
  have hz : Row (w.alloc (.cells #[.int .u64 0, .int .u64 0, .int .u64 0, .int .u64 0, .int .u64 0, .int .u64 0, .int .u64 0, .int .u64 0, .int .u64 0, .int .u64 0, .int .u64 0, .int .u64 0, .int .u64 0, .int .u64 0, .int .u64 0, .int .u64 0, .int .u64 0, .int .u64 0, .int .u64 0, .int .u64 0, .int .u64 0, .int .u64 0, .int .u64 0, .int .u64 0] 43)) w.heap.size 43 #[.int .u64 0, .int .u64 0, .int .u64 0, .int .u64 0, .int .u64 0, .int .u64 0, .int .u64 0, .int .u64 0, .int .u64 0, .int .u64 0, .int .u64 0, .int .u64 0, .int .u64 0, .int .u64 0, .int .u64 0, .int .u64 0, .int .u64 0, .int .u64 0, .int .u64 0, .int .u64 0, .int .u64 0, .int .u64 0, .int .u64 0, .int .u64 0] := Row.new _ _ _
  have hi : (Tryd.prog.info? 43).map (·.size) = some (#[.int .u64 1, .int .u64 32898, .int .u64 9223372036854808714, .int .u64 9223372039002292224, .int .u64 32907, .int .u64 2147483649, .int .u64 9223372039002292353, .int .u64 9223372036854808585, .int .u64 138, .int .u64 136, .int .u64 2147516425, .int .u64 2147483658, .int .u64 2147516555, .int .u64 9223372036854775947, .int .u64 9223372036854808713, .int .u64 9223372036854808579, .int .u64 9223372036854808578, .int .u64 9223372036854775936, .int .u64 32778, .int .u64 9223372039002259466, .int .u64 9223372039002292353, .int .u64 9223372036854808704, .int .u64 2147483649, .int .u64 9223372039002292232] : Array Value).size := by kernel_rfl
  have U := Tryd.underlying43
  go_enter Tryd.func24, Tryd.ntmps24
  go_wp2_with (refine wpList_store_row rfl 43 _ _ rfl _ _ rfl rfl _ _ hz hi rfl (by kernel_rfl) ?_)
  exact bodyPost_ret (results_cell_row Tryd.results24 _ _ _ _ _ _ _ rfl (hz.setRow _) U rfl hi) rfl ⟨by rw [← c24], below_setRow ((Below.refl _ w).alloc (Nat.le_refl _) _) (Nat.le_refl _) _⟩

set_option maxRecDepth 100000 in
theorem refRotations_any (w : World) : Calls Tryd.prog 25 #[] w fun e w' => e = .returned (.agg rotV) ∧ Below w.heap.size w w' := by
  have hz : Row (w.alloc (.cells #[.int .i64 0, .int .i64 0, .int .i64 0, .int .i64 0, .int .i64 0, .int .i64 0, .int .i64 0, .int .i64 0, .int .i64 0, .int .i64 0, .int .i64 0, .int .i64 0, .int .i64 0, .int .i64 0, .int .i64 0, .int .i64 0, .int .i64 0, .int .i64 0, .int .i64 0, .int .i64 0, .int .i64 0, .int .i64 0, .int .i64 0, .int .i64 0, .int .i64 0] 45)) w.heap.size 45 #[.int .i64 0, .int .i64 0, .int .i64 0, .int .i64 0, .int .i64 0, .int .i64 0, .int .i64 0, .int .i64 0, .int .i64 0, .int .i64 0, .int .i64 0, .int .i64 0, .int .i64 0, .int .i64 0, .int .i64 0, .int .i64 0, .int .i64 0, .int .i64 0, .int .i64 0, .int .i64 0, .int .i64 0, .int .i64 0, .int .i64 0, .int .i64 0, .int .i64 0] := Row.new _ _ _
  have hi : (Tryd.prog.info? 45).map (·.size) = some (#[.int .i64 0, .int .i64 1, .int .i64 62, .int .i64 28, .int .i64 27, .int .i64 36, .int .i64 44, .int .i64 6, .int .i64 55, .int .i64 20, .int .i64 3, .int .i64 10, .int .i64 43, .int .i64 25, .int .i64 39, .int .i64 41, .int .i64 45, .int .i64 15, .int .i64 21, .int .i64 8, .int .i64 18, .int .i64 2, .int .i64 61, .int .i64 56, .int .i64 14] : Array Value).size := by kernel_rfl
  have U := Tryd.underlying45
  go_enter Tryd.func25, Tryd.ntmps25
  go_wp2_with (refine wpList_store_row rfl 45 _ _ rfl _ _ rfl rfl _ _ hz hi rfl (by kernel_rfl) ?_)
  exact bodyPost_ret (results_cell_row Tryd.results25 _ _ _ _ _ _ _ rfl (hz.setRow _) U rfl hi) rfl ⟨by rw [← r25], below_setRow ((Below.refl _ w).alloc (Nat.le_refl _) _) (Nat.le_refl _) _⟩

/-- The rows of the reference's Permute: the state, the result, the two tables. -/
structure Rp (f : Nat → BitVec 64) (B C : Nat) (w0 w : World) : Prop where
  s : Row w w0.heap.size 23 (vec 25 f)
  z : Row w (w0.heap.size + 1) 23 (vec 25 (fun _ => 0))
  c : Row w B 43 (vec 24 rcN)
  r : Row w C 45 rotV
  b : Below w0.heap.size w0 w
  l : w0.heap.size + 1 < B ∧ w0.heap.size + 1 < C
theorem Rp.below {f : Nat → BitVec 64} {B C : Nat} {w0 w w' : World} (h : Rp f B C w0 w) (hb : Below w.heap.size w w') : Rp f B C w0 w' :=
  ⟨h.s.below hb h.s.lt, h.z.below hb h.z.lt, h.c.below hb h.c.lt, h.r.below hb h.r.lt, h.b.trans (hb.mono h.b.size), h.l⟩
theorem info25i : (Tryd.prog.info? 45).map (·.size) = some rotV.size := by kernel_rfl
theorem info24 : (Tryd.prog.info? 43).map (·.size) = some (vec 24 rcN).size := by rw [vec_size]; kernel_rfl

set_option maxRecDepth 100000 in
set_option maxHeartbeats 4000000 in
theorem refPermute_any (f : Nat → BitVec 64) (w : World) :
    Calls Tryd.prog 12 #[.agg (vec 25 f)] w fun e w' => e = .returned (.agg (vec 25 (perm f 24))) ∧ Below w.heap.size w w' := by
  have U := Tryd.underlying23
  have UI := Tryd.underlying45
  go_enter Tryd.func12, Tryd.ntmps12
  go_wp2_with fail
  rw [zero25]
  generalize hW : (w.alloc (.cells (vec 25 f) 23)).alloc (.cells (vec 25 fun _ => 0) 23) = W0
  have S0 : Row W0 w.heap.size 23 (vec 25 f) := by rw [← hW]; exact (Row.new _ _ _).alloc _
  have Z0 : Row W0 (w.heap.size + 1) 23 (vec 25 (fun _ => 0)) := by rw [← hW]; exact Row.new1 _ _ _ (by simp)
  have B0 : Below w.heap.size w W0 := by rw [← hW]; go_grown
  clear hW
  refine (refConstants_any _).mono ?_; rintro e w1 ⟨rfl, b1⟩
  go_wp2_with fail
  refine (refRotations_any _).mono ?_; rintro e w2 ⟨rfl, b2⟩
  have b2' := b1.trans (b2.mono b1.size)
  have S2 := S0.below b2' S0.lt
  have Z2 := Z0.below b2' Z0.lt
  have B2 := B0.trans (b2'.mono B0.size)
  have lz := Z2.lt
  clear b1 b2 b2' S0 Z0 B0
  have hzc : Row ((w2.alloc (.cells #[.int .u64 0, .int .u64 0, .int .u64 0, .int .u64 0, .int .u64 0, .int .u64 0, .int .u64 0, .int .u64 0, .int .u64 0, .int .u64 0, .int .u64 0, .int .u64 0, .int .u64 0, .int .u64 0, .int .u64 0, .int .u64 0, .int .u64 0, .int .u64 0, .int .u64 0, .int .u64 0, .int .u64 0, .int .u64 0, .int .u64 0, .int .u64 0] 43)).alloc (.cells #[.int .i64 0, .int .i64 0, .int .i64 0, .int .i64 0, .int .i64 0, .int .i64 0, .int .i64 0, .int .i64 0, .int .i64 0, .int .i64 0, .int .i64 0, .int .i64 0, .int .i64 0, .int .i64 0, .int .i64 0, .int .i64 0, .int .i64 0, .int .i64 0, .int .i64 0, .int .i64 0, .int .i64 0, .int .i64 0, .int .i64 0, .int .i64 0, .int .i64 0] 45)) w2.heap.size 43 #[.int .u64 0, .int .u64 0, .int .u64 0, .int .u64 0, .int .u64 0, .int .u64 0, .int .u64 0, .int .u64 0, .int .u64 0, .int .u64 0, .int .u64 0, .int .u64 0, .int .u64 0, .int .u64 0, .int .u64 0, .int .u64 0, .int .u64 0, .int .u64 0, .int .u64 0, .int .u64 0, .int .u64 0, .int .u64 0, .int .u64 0, .int .u64 0] := (Row.new _ _ _).alloc _
  have hzr : Row (((w2.alloc (.cells #[.int .u64 0, .int .u64 0, .int .u64 0, .int .u64 0, .int .u64 0, .int .u64 0, .int .u64 0, .int .u64 0, .int .u64 0, .int .u64 0, .int .u64 0, .int .u64 0, .int .u64 0, .int .u64 0, .int .u64 0, .int .u64 0, .int .u64 0, .int .u64 0, .int .u64 0, .int .u64 0, .int .u64 0, .int .u64 0, .int .u64 0, .int .u64 0] 43)).alloc (.cells #[.int .i64 0, .int .i64 0, .int .i64 0, .int .i64 0, .int .i64 0, .int .i64 0, .int .i64 0, .int .i64 0, .int .i64 0, .int .i64 0, .int .i64 0, .int .i64 0, .int .i64 0, .int .i64 0, .int .i64 0, .int .i64 0, .int .i64 0, .int .i64 0, .int .i64 0, .int .i64 0, .int .i64 0, .int .i64 0, .int .i64 0, .int .i64 0, .int .i64 0] 45)).setRow w2.heap.size (vec 24 rcN)) (w2.heap.size + 1) 45 #[.int .i64 0, .int .i64 0, .int .i64 0, .int .i64 0, .int .i64 0, .int .i64 0, .int .i64 0, .int .i64 0, .int .i64 0, .int .i64 0, .int .i64 0, .int .i64 0, .int .i64 0, .int .i64 0, .int .i64 0, .int .i64 0, .int .i64 0, .int .i64 0, .int .i64 0, .int .i64 0, .int .i64 0, .int .i64 0, .int .i64 0, .int .i64 0, .int .i64 0] := (Row.new1 _ _ _ (by simp)).setFar (by omega) _
  have hsz : (#[.int .u64 0, .int .u64 0, .int .u64 0, .int .u64 0, .int .u64 0, .int .u64 0, .int .u64 0, .int .u64 0, .int .u64 0, .int .u64 0, .int .u64 0, .int .u64 0, .int .u64 0, .int .u64 0, .int .u64 0, .int .u64 0, .int .u64 0, .int .u64 0, .int .u64 0, .int .u64 0, .int .u64 0, .int .u64 0, .int .u64 0, .int .u64 0] : Array Value).size = (vec 24 rcN).size := by rw [vec_size]; rfl
  have P0 : Rp (perm f 0) w2.heap.size (w2.heap.size + 1) w ((((w2.alloc (.cells #[.int .u64 0, .int .u64 0, .int .u64 0, .int .u64 0, .int .u64 0, .int .u64 0, .int .u64 0, .int .u64 0, .int .u64 0, .int .u64 0, .int .u64 0, .int .u64 0, .int .u64 0, .int .u64 0, .int .u64 0, .int .u64 0, .int .u64 0, .int .u64 0, .int .u64 0, .int .u64 0, .int .u64 0, .int .u64 0, .int .u64 0, .int .u64 0] 43)).alloc (.cells #[.int .i64 0, .int .i64 0, .int .i64 0, .int .i64 0, .int .i64 0, .int .i64 0, .int .i64 0, .int .i64 0, .int .i64 0, .int .i64 0, .int .i64 0, .int .i64 0, .int .i64 0, .int .i64 0, .int .i64 0, .int .i64 0, .int .i64 0, .int .i64 0, .int .i64 0, .int .i64 0, .int .i64 0, .int .i64 0, .int .i64 0, .int .i64 0, .int .i64 0] 45)).setRow w2.heap.size (vec 24 rcN)).setRow (w2.heap.size + 1) rotV) :=
    ⟨((((S2.alloc _).alloc _).setFar (by omega) _).setFar (by omega) _), ((((Z2.alloc _).alloc _).setFar (by omega) _).setFar (by omega) _), (hzc.setRow _).setFar (by omega) _, hzr.setRow _,
      below_setRow (below_setRow ((B2.alloc B2.size _).alloc (by have := B2.size; simp; omega) _) (by have := B2.size; omega) _) (by have := B2.size; omega) _, by omega⟩
  have P0 := Lib.hid P0
  clear S2 Z2 B2
  go_upto_region 2 with (first | (refine wpList_store_row rfl 43 _ _ rfl _ _ rfl rfl _ _ hzc info24 hsz (vec_one _ _) ?_) | (refine wpList_store_row rfl 45 _ _ rfl _ _ rfl rfl _ _ hzr info25i (by kernel_rfl) (by kernel_rfl) ?_))
  generalize ((((w2.alloc (.cells #[.int .u64 0, .int .u64 0, .int .u64 0, .int .u64 0, .int .u64 0, .int .u64 0, .int .u64 0, .int .u64 0, .int .u64 0, .int .u64 0, .int .u64 0, .int .u64 0, .int .u64 0, .int .u64 0, .int .u64 0, .int .u64 0, .int .u64 0, .int .u64 0, .int .u64 0, .int .u64 0, .int .u64 0, .int .u64 0, .int .u64 0, .int .u64 0] 43)).alloc (.cells #[.int .i64 0, .int .i64 0, .int .i64 0, .int .i64 0, .int .i64 0, .int .i64 0, .int .i64 0, .int .i64 0, .int .i64 0, .int .i64 0, .int .i64 0, .int .i64 0, .int .i64 0, .int .i64 0, .int .i64 0, .int .i64 0, .int .i64 0, .int .i64 0, .int .i64 0, .int .i64 0, .int .i64 0, .int .i64 0, .int .i64 0, .int .i64 0, .int .i64 0] 45)).setRow w2.heap.size (vec 24 rcN)).setRow (w2.heap.size + 1) rotV) = W3 at P0 ⊢
  generalize w2.heap.size + 1 = C at P0 ⊢
  generalize w2.heap.size = B at P0 ⊢
  clear hzc hzr hsz
  go_wp2_with fail
  go_loopw [5] (fun i wr => ∃ n : Nat, n ≤ 24 ∧ i = .int .i64 n ∧ Rp (perm f n) B C w wr) (fun i _ => 24 - (intOf i).toNat)
  case atStart => exact ⟨0, by omega, rfl, P0.out⟩
  case round =>
    clear P0
    obtain ⟨n, hn, rfl, hR⟩ := hrel
    by_cases hlt : n < 24
    · have g0 := hR.c.cell (i := n) hlt
      have c0 : (0 : Int) ≤ (n : Int) := by omega
      have d0 : (n : Int) < 24 := by omega
      have hs := hR.s
      have hr := hR.r
      have H := Lib.hid hR
      clear hR
      go_wp2_with fail
      refine wp_region_still_tail 5 (by kernel_rfl) (by kernel_rfl) ?_
      simp only [List.take_succ_cons, List.take_zero, List.drop_succ_cons, List.drop_zero]
      refine still_row rfl _ rfl rfl hs U (info25 _) ?_
      still_step
      still_step
      still_step
      refine still_row rfl _ rfl rfl hr UI info25i ?_
      refine wpStill_nil ?_
      go_wp2_with fail
      refine (refRound_any _ _ _).mono ?_
      rintro e w1 ⟨rfl, hb1⟩
      have H1 := H.out.below ((Below.refl wr.heap.size wr).drew.trans (show Below wr.heap.size wr.drew w1 from hb1))
      have hs1 := H1.s
      go_wp2_with (refine wpList_store_row rfl 23 _ _ rfl _ _ rfl rfl _ _ hs1 (info25 _) (same_size _ _ _) (vec_one _ _) ?_)
      go_outline
      go_roundw
      case rel =>
        have l1 := H1.l
        exact ⟨n + 1, by omega, by go_num, hs1.setRow _, H1.z.setFar (by omega) _, H1.c.setFar (by omega) _, H1.r.setFar (by omega) _, below_setRow H1.b (Nat.le_refl _) _, l1⟩
      case measure => simp [intOf]; omega
    · obtain rfl : n = 24 := by omega
      have hs := hR.s
      have hz := hR.z
      have hb := hR.b
      clear hR hlt hn
      go_wp2_with (first | (refine wpList_load_row rfl 23 _ rfl _ rfl _ _ _ _ hs U rfl (info25 _) ?_) | (refine wpList_store_row rfl 23 _ _ rfl _ _ rfl rfl _ _ hz (info25 _) (same_size _ _ _) (vec_one _ _) ?_))
      exact bodyPost_ret (results_cell_row Tryd.results12 _ _ _ _ _ _ _ rfl (hz.setRow _) U rfl (info25 _)) rfl ⟨rfl, below_setRow hb (by omega) _⟩
end Go.Proofs.YtfjbchmneojgaaaDoor
