/- The contract of moved: step 2 of a round. -/
import Derived.Test.YtfjbchmneojgaaaDoorChanges
namespace Go.Proofs.YtfjbchmneojgaaaDoor
open Go.RowKit

/-- The table of rotations, and that of the constants. -/
def rotN (i : Nat) : Nat := [0, 1, 62, 28, 27, 36, 44, 6, 55, 20, 3, 10, 43, 25, 39, 41, 45, 15, 21, 8, 18, 2, 61, 56, 14].getD i 0
theorem rotN_lt (i : Nat) : rotN i < 64 := by
  by_cases h : i < 25
  · have : ∀ j, j < 25 → rotN j < 64 := by decide
    exact this i h
  · unfold rotN; rw [List.getD_eq_getElem?_getD, List.getElem?_eq_none (by simp; omega)]; decide
def rcN (i : Nat) : BitVec 64 := BitVec.ofNat 64 ([0x1, 0x8082, 0x800000000000808a, 0x8000000080008000, 0x808b, 0x80000001, 0x8000000080008081, 0x8000000000008009, 0x8a, 0x88, 0x80008009, 0x8000000a, 0x8000808b, 0x800000000000008b, 0x8000000000008089, 0x8000000000008003, 0x8000000000008002, 0x8000000000000080, 0x800a, 0x800000008000000a, 0x8000000080008081, 0x8000000000008080, 0x80000001, 0x8000000080008008].getD i 0)
/-- The tables are in their places. -/
structure Tabs (w : World) : Prop where
  lt : 0 < w.heap.size ∧ 1 < w.heap.size
  rot : ∀ i, i < 25 → w.cell? ⟨1, i, none⟩ = some (.int .i64 (rotN i))
  rc : ∀ i, i < 24 → w.cell? ⟨0, i, none⟩ = some (.int .u64 (wd (rcN i)))
theorem Tabs.below {w w' : World} (h : Tabs w) (hb : Below w.heap.size w w') : Tabs w' :=
  ⟨⟨Nat.lt_of_lt_of_le h.lt.1 hb.size, Nat.lt_of_lt_of_le h.lt.2 hb.size⟩, fun i hi => (hb.cell (p := ⟨1, i, none⟩) h.lt.2).trans (h.rot i hi), fun i hi => (hb.cell (p := ⟨0, i, none⟩) h.lt.1).trans (h.rc i hi)⟩

/-- Where a word comes from, and where it goes. -/
def src (j : Nat) : Nat := (j % 5 + 3 * (j / 5)) % 5 + 5 * (j % 5)
def mvB (f d : Nat → BitVec 64) (j : Nat) : BitVec 64 := (f (src j) ^^^ d (src j % 5)).rotateLeft (rotN (src j))
def part (m : Nat) (g : Nat → BitVec 64) : Nat → BitVec 64 := fun j => if src j < m then g j else 0
theorem src_tgt : ∀ x, x < 5 → ∀ y, y < 5 → ∀ j, j < 25 → (src j = x + 5 * y ↔ j = y + 5 * ((2 * x + 3 * y) % 5)) := by decide
theorem src_lt : ∀ j, j < 25 → src j < 25 := by decide
theorem part_all (g : Nat → BitVec 64) : vec 25 (part 25 g) = vec 25 g := vec_congr fun i hi => by unfold part; rw [if_pos (src_lt i hi)]
theorem part_none (g : Nat → BitVec 64) : vec 25 (fun _ => 0) = vec 25 (part 0 g) := vec_congr fun i _ => by unfold part; rw [if_neg (by omega)]
theorem part_upd {x y : Nat} (hx : x < 5) (hy : y < 5) (f d : Nat → BitVec 64) :
    vec 25 (upd (part (x + 5 * y) (mvB f d)) (y + 5 * ((2 * x + 3 * y) % 5)) ((f (x + 5 * y) ^^^ d x).rotateLeft (rotN (x + 5 * y)))) = vec 25 (part (x + 5 * y + 1) (mvB f d)) := by
  refine vec_congr fun j hj => ?_
  have h := src_tgt x hx y hy j hj
  unfold upd part
  by_cases c : j = y + 5 * ((2 * x + 3 * y) % 5)
  · have e := h.2 c
    rw [if_pos c, if_pos (by omega)]
    unfold mvB
    rw [e, show (x + 5 * y) % 5 = x from by omega]
  · have e : ¬ src j = x + 5 * y := fun q => c (h.1 q)
    rw [if_neg c]
    by_cases l : src j < x + 5 * y
    · rw [if_pos l, if_pos (by omega)]
    · rw [if_neg l, if_neg (by omega)]

structure Mv (f d b : Nat → BitVec 64) (w0 w : World) : Prop where
  s : Row w w0.heap.size 23 (vec 25 f)
  d : Row w (w0.heap.size + 1) 58 (vec 5 d)
  r : Row w (w0.heap.size + 1 + 1) 23 (vec 25 (fun _ => 0))
  b : Row w (w0.heap.size + 1 + 1 + 1) 23 (vec 25 b)
  o : Below w0.heap.size w0 w
theorem Mv.step {f d : Nat → BitVec 64} {x y : Nat} {w0 w : World} (hx : x < 5) (hy : y < 5) (H : Mv f d (part (x + 5 * y) (mvB f d)) w0 w) :
    Mv f d (part (x + 1 + 5 * y) (mvB f d)) w0 (w.setCell ⟨w0.heap.size + 1 + 1 + 1, y + 5 * ((2 * x + 3 * y) % 5), none⟩ (.int .u64 (wd ((f (x + 5 * y) ^^^ d x).rotateLeft (rotN (x + 5 * y)))))).drew := by
  refine ⟨(H.s.far (by dsimp only; omega) _).drew, (H.d.far (by dsimp only; omega) _).drew, (H.r.far (by dsimp only; omega) _).drew, ?_, (H.o.setCell (by dsimp only; omega) _).drew⟩
  have := (H.b.set (y + 5 * ((2 * x + 3 * y) % 5)) ((f (x + 5 * y) ^^^ d x).rotateLeft (rotN (x + 5 * y)))).drew
  rw [part_upd hx hy, show x + 5 * y + 1 = x + 1 + 5 * y from by omega] at this
  exact this
theorem zero25 : (#[.int .u64 0, .int .u64 0, .int .u64 0, .int .u64 0, .int .u64 0, .int .u64 0, .int .u64 0, .int .u64 0, .int .u64 0, .int .u64 0, .int .u64 0, .int .u64 0, .int .u64 0, .int .u64 0, .int .u64 0, .int .u64 0, .int .u64 0, .int .u64 0, .int .u64 0, .int .u64 0, .int .u64 0, .int .u64 0, .int .u64 0, .int .u64 0, .int .u64 0] : Array Value) = vec 25 (fun _ => 0) := rfl

/-- The numbers of a round, in the walk's spellings. -/
theorem mv_nums (x y : Nat) (hx : x < 5) (hy : y < 5) :
    (IntKind.i64.wrap (2 * (x : Int)) = 2 * (x : Int)) ∧ (IntKind.i64.wrap (3 * (y : Int)) = 3 * (y : Int)) ∧ (IntKind.i64.wrap (2 * (x : Int) + 3 * (y : Int)) = 2 * (x : Int) + 3 * (y : Int)) ∧
    (2 * (x : Int) + 3 * (y : Int)).tmod 5 = (2 * (x : Int) + 3 * (y : Int)) % 5 ∧ IntKind.i64.wrap ((2 * (x : Int) + 3 * (y : Int)) % 5) = (2 * (x : Int) + 3 * (y : Int)) % 5 ∧
    IntKind.i64.wrap (5 * ((2 * (x : Int) + 3 * (y : Int)) % 5)) = 5 * ((2 * (x : Int) + 3 * (y : Int)) % 5) ∧
    IntKind.i64.wrap ((y : Int) + 5 * ((2 * (x : Int) + 3 * (y : Int)) % 5)) = (y : Int) + 5 * ((2 * (x : Int) + 3 * (y : Int)) % 5) ∧
    0 ≤ (y : Int) + 5 * ((2 * (x : Int) + 3 * (y : Int)) % 5) ∧ (y : Int) + 5 * ((2 * (x : Int) + 3 * (y : Int)) % 5) < 25 ∧
    ((y : Int) + 5 * ((2 * (x : Int) + 3 * (y : Int)) % 5)).toNat = y + 5 * ((2 * x + 3 * y) % 5) ∧
    0 ≤ (x : Int) + 5 * (y : Int) ∧ (x : Int) + 5 * (y : Int) < 25 ∧ ((x : Int) + 5 * (y : Int)).toNat = x + 5 * y ∧ 0 ≤ (x : Int) ∧ (x : Int) < 5 ∧ 0 ≤ (y : Int) ∧ (y : Int) < 5 := by
  have e : 2 * (x : Int) + 3 * (y : Int) = ((2 * x + 3 * y : Nat) : Int) := by omega
  refine ⟨IntWalk.i64_in _ ⟨by omega, by omega⟩, IntWalk.i64_in _ ⟨by omega, by omega⟩, IntWalk.i64_in _ ⟨by omega, by omega⟩, Int.tmod_eq_emod_of_nonneg (by omega), IntWalk.i64_in _ ⟨by omega, by omega⟩, IntWalk.i64_in _ ⟨by omega, by omega⟩, IntWalk.i64_in _ ⟨by omega, by omega⟩, by omega, by omega, (by rw [e]; omega), by omega, by omega, by omega, by omega, by omega, by omega, by omega⟩

set_option maxRecDepth 100000 in
set_option maxHeartbeats 4000000 in
theorem moved_any (f d : Nat → BitVec 64) (w : World) (hT : Tabs w) :
    Calls Tryd.prog 31 #[.agg (vec 25 f), .agg (vec 5 d)] w fun e w' => e = .returned (.agg (vec 25 (mvB f d))) ∧ Below w.heap.size w w' := by
  go_enter Tryd.func31, Tryd.ntmps31
  go_wp2
  go_loopw [9] (fun i wr => ∃ y : Nat, y ≤ 5 ∧ i = .int .i64 y ∧ Mv f d (part (5 * y) (mvB f d)) w wr) (fun i _ => 5 - (intOf i).toNat)
  case atStart =>
    refine ⟨0, by omega, rfl, ?_⟩
    rw [zero25]
    refine ⟨(((Row.new _ _ _).alloc _).alloc _).alloc _, ((Row.new1 _ _ _ (by simp)).alloc _).alloc _, (Row.new1 _ _ _ (by simp)).alloc _, ?_, by go_grown⟩
    rw [← part_none]; exact Row.new1 _ _ _ (by simp)
  case round =>
    obtain ⟨y, hy, rfl, hR⟩ := hrel
    by_cases hlt : y < 5
    · have H := Lib.hid hR
      clear hR
      have y5 : (y : Int) < 5 := by omega
      go_wp2_with fail
      go_loopw [12] (fun i wr2 => ∃ x : Nat, x ≤ 5 ∧ i = .int .i64 x ∧ Mv f d (part (x + 5 * y) (mvB f d)) w wr2) (fun i _ => 5 - (intOf i).toNat)
      case atStart => exact ⟨0, by omega, rfl, by rw [Nat.zero_add]; exact H.out⟩
      case round =>
        obtain ⟨x, hx, rfl, hR⟩ := hrel
        clear H
        by_cases hlx : x < 5
        · obtain ⟨m1, m2, m3, m4, m5, m6, m7, m8, m9, m10, m11, m12, m13, m14, m15, m16, m17⟩ := mv_nums x y hlx hlt
          have g0 := hR.s.cell (i := x + 5 * y) (by omega)
          have g1 := hR.d.cell (i := x) hlx
          have g2 := (hR.o.cell (p := ⟨1, x + 5 * y, none⟩) hT.lt.2).trans (hT.rot (x + 5 * y) (by omega))
          have z := hR.b.frozen (y + 5 * ((2 * x + 3 * y) % 5))
          have z' := hR.b.cell (i := y + 5 * ((2 * x + 3 * y) % 5)) (by omega)
          have xr := wd_xor (f (x + 5 * y)) (d x)
          have H := Lib.hid hR
          clear hR
          go_wp2_with fail
          go_still_tail 21, (by kernel_rfl)
          clear m1 m2 m3 m4 m5 m6 m7 m11 m12 m13 g0 g1 g2
          refine wpStill_step (fun K hK => ?_)
          go_simp
          refine ⟨_, rot_still _ _ _ (rotN_lt _), hK _ ?_⟩
          clear hK K
          repeat still_step
          refine wpStill_nil ?_
          go_wp2_with fail
          go_roundw
          case rel => exact ⟨x + 1, by omega, by go_num, H.out.step hlx hlt⟩
          case measure => simp [intOf]; omega
        · obtain rfl : x = 5 := by omega
          have H := Lib.hid hR
          clear hR hlx hx
          go_wp2_with fail
          go_roundw
          case rel => exact ⟨y + 1, by omega, by go_num, by rw [show 5 * (y + 1) = 5 + 5 * y from by omega]; exact H.out⟩
          case measure => simp [intOf]; omega
    · obtain rfl : y = 5 := by omega
      have hs := hR.b
      have hr := hR.r
      have hb := hR.o
      have U := Tryd.underlying23
      clear hR hlt hy
      go_wp2_with (first | (refine wpList_load_row rfl 23 _ rfl _ rfl _ _ _ _ hs U rfl (info25 _) ?_) | (refine wpList_store_row rfl 23 _ _ rfl _ _ rfl rfl _ _ hr (info25 _) (same_size _ _ _) (vec_one _ _) ?_))
      exact bodyPost_ret (results_cell_row Tryd.results31 _ _ _ _ _ _ _ rfl (hr.setRow _) U rfl (info25 _)) rfl ⟨by rw [part_all], below_setRow hb (by omega) _⟩
end Go.Proofs.YtfjbchmneojgaaaDoor
