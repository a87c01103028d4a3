/- The reference's round. -/
import Derived.Test.YtfjbchmneojgaaaDoorDiffers
import Derived.StillTailTactics
import Derived.Deep.RegionHeld3
namespace Go.Proofs.YtfjbchmneojgaaaDoor
open Go.RowKit

/-- The sums of the columns, k words added. -/
def smF (f : Nat → BitVec 64) : Nat → Nat → BitVec 64
  | 0 => fun _ => 0
  | k + 1 => upd (smF f k) (k % 5) (smF f k (k % 5) ^^^ f k)
theorem sm_all (f : Nat → BitVec 64) : vec 5 (smF f 25) = vec 5 (chC f) := vec_congr fun x hx => by
  match x, hx with
  | 0, _ => simp [smF, upd, chC]
  | 1, _ => simp [smF, upd, chC]
  | 2, _ => simp [smF, upd, chC]
  | 3, _ => simp [smF, upd, chC]
  | 4, _ => simp [smF, upd, chC]
def rotV : Array Value := ((List.range 25).map fun i => Value.int .i64 (rotN i)).toArray
theorem rotV_get {i : Nat} (h : i < 25) : rotV[i]? = some (.int .i64 (rotN i)) := by simp [rotV, h]

/-- The rows of the reference's round: the state, the rotations, the result, the sums. -/
structure Rf (f sums : Nat → BitVec 64) (w0 w : World) : Prop where
  s : Row w w0.heap.size 23 (vec 25 f)
  r : Row w (w0.heap.size + 1) 45 rotV
  z : Row w (w0.heap.size + 1 + 1) 23 (vec 25 (fun _ => 0))
  c : Row w (w0.heap.size + 1 + 1 + 1) 58 (vec 5 sums)
  b : Below w0.heap.size w0 w
  l : w0.heap.size + 3 < w.heap.size

theorem md_nums (k : Nat) : (k : Int).tmod 5 = (k : Int) % 5 ∧ IntKind.i64.wrap ((k : Int) % 5) = (k : Int) % 5 ∧ (0 : Int) ≤ (k : Int) % 5 ∧ (k : Int) % 5 < 5 ∧ ((k : Int) % 5).toNat = k % 5 := by
  have e : (k : Int).tmod 5 = (k : Int) % 5 := Int.tmod_eq_emod_of_nonneg (by omega)
  exact ⟨e, IntWalk.i64_in _ ⟨by omega, by omega⟩, by omega, by omega, by omega⟩

theorem Rf.one {f : Nat → BitVec 64} {k : Nat} {w0 w : World} (H : Rf f (smF f k) w0 w) :
    Rf f (smF f (k + 1)) w0 (w.setCell ⟨w0.heap.size + 1 + 1 + 1, k % 5, none⟩ (.int .u64 (wd (smF f k (k % 5) ^^^ f k)))).drew :=
  ⟨(H.s.far (by dsimp only; omega) _).drew, (H.r.far (by dsimp only; omega) _).drew, (H.z.far (by dsimp only; omega) _).drew, (H.c.set (k % 5) _).drew, (H.b.setCell (by dsimp only; omega) _).drew, by simpa using H.l⟩

/-- The state of the second step, k words done. -/
def tht (f : Nat → BitVec 64) (k : Nat) : Nat → BitVec 64 := fun j => if j < k then f j ^^^ chD f (j % 5) else f j
theorem tht_0 (f : Nat → BitVec 64) : tht f 0 = f := funext fun j => by unfold tht; rw [if_neg (by omega)]
theorem tht_k (f : Nat → BitVec 64) (k : Nat) : tht f k k = f k := by unfold tht; rw [if_neg (by omega)]
theorem tht_upd (f g : Nat → BitVec 64) (k : Nat) (hg : ∀ x, x < 5 → g x = chC f x) : upd (tht f k) k (f k ^^^ g ((k + 4) % 5) ^^^ (g ((k + 1) % 5)).rotateLeft 1) = tht f (k + 1) := by
  funext j
  unfold upd tht
  by_cases c : j = k
  · subst c
    rw [if_pos rfl, if_pos (by omega), hg _ (by omega), hg _ (by omega)]
    unfold chD
    rw [show (j % 5 + 4) % 5 = (j + 4) % 5 from by omega, show (j % 5 + 1) % 5 = (j + 1) % 5 from by omega, BitVec.xor_assoc]
  · rw [if_neg c]
    by_cases l : j < k
    · rw [if_pos l, if_pos (by omega)]
    · rw [if_neg l, if_neg (by omega)]
theorem Rf.two {f g : Nat → BitVec 64} {k m : Nat} {w0 w : World} (hg : ∀ x, x < 5 → g x = chC f x) (H : Rf (tht f k) g w0 w) :
    Rf (tht f (k + 1)) g w0 ((w.drewN m).setCell ⟨w0.heap.size, k, none⟩ (.int .u64 (wd (f k ^^^ g ((k + 4) % 5) ^^^ (g ((k + 1) % 5)).rotateLeft 1)))) := by
  have b : Below w0.heap.size w0 (w.drewN m) := H.b.trans ⟨rfl, rfl, rfl, Nat.le_refl _, fun _ _ => rfl⟩
  have s : Row (w.drewN m) w0.heap.size 23 (vec 25 (tht f k)) := H.s
  have r : Row (w.drewN m) (w0.heap.size + 1) 45 rotV := H.r
  have z : Row (w.drewN m) (w0.heap.size + 1 + 1) 23 (vec 25 (fun _ => 0)) := H.z
  have c : Row (w.drewN m) (w0.heap.size + 1 + 1 + 1) 58 (vec 5 g) := H.c
  have l : w0.heap.size + 3 < (w.drewN m).heap.size := H.l
  have s2 := s.set k (f k ^^^ g ((k + 4) % 5) ^^^ (g ((k + 1) % 5)).rotateLeft 1)
  rw [tht_upd f g k hg] at s2
  exact ⟨s2, r.far (by dsimp only; omega) _, z.far (by dsimp only; omega) _, c.far (by dsimp only; omega) _, b.setCell (Nat.le_refl _) _, by simpa using l⟩
theorem ad4 (k : Nat) (hk : k < 25) : IntKind.i64.wrap ((k : Int) + 4) = (k : Int) + 4 ∧ ((k : Int) + 4).tmod 5 = ((k : Int) + 4) % 5 ∧ IntKind.i64.wrap (((k : Int) + 4) % 5) = ((k : Int) + 4) % 5 ∧
    (0 : Int) ≤ ((k : Int) + 4) % 5 ∧ ((k : Int) + 4) % 5 < 5 ∧ (((k : Int) + 4) % 5).toNat = (k + 4) % 5 :=
  ⟨IntWalk.i64_in _ ⟨by omega, by omega⟩, Int.tmod_eq_emod_of_nonneg (by omega), IntWalk.i64_in _ ⟨by omega, by omega⟩, by omega, by omega, by omega⟩
theorem ad1 (k : Nat) (hk : k < 25) : IntKind.i64.wrap ((k : Int) + 1) = (k : Int) + 1 ∧ ((k : Int) + 1).tmod 5 = ((k : Int) + 1) % 5 ∧ IntKind.i64.wrap (((k : Int) + 1) % 5) = ((k : Int) + 1) % 5 ∧
    (0 : Int) ≤ ((k : Int) + 1) % 5 ∧ ((k : Int) + 1) % 5 < 5 ∧ (((k : Int) + 1) % 5).toNat = (k + 1) % 5 :=
  ⟨IntWalk.i64_in _ ⟨by omega, by omega⟩, Int.tmod_eq_emod_of_nonneg (by omega), IntWalk.i64_in _ ⟨by omega, by omega⟩, by omega, by omega, by omega⟩
theorem ad2 (k : Nat) (hk : k < 25) : IntKind.i64.wrap ((k : Int) + 2) = (k : Int) + 2 ∧ ((k : Int) + 2).tmod 5 = ((k : Int) + 2) % 5 ∧ IntKind.i64.wrap (((k : Int) + 2) % 5) = ((k : Int) + 2) % 5 ∧
    (0 : Int) ≤ ((k : Int) + 2) % 5 ∧ ((k : Int) + 2) % 5 < 5 ∧ (((k : Int) + 2) % 5).toNat = (k + 2) % 5 :=
  ⟨IntWalk.i64_in _ ⟨by omega, by omega⟩, Int.tmod_eq_emod_of_nonneg (by omega), IntWalk.i64_in _ ⟨by omega, by omega⟩, by omega, by omega, by omega⟩

/-- The rows behind the second step: the state, the rotations, the result, the row that is filled. -/
structure Rb (a b : Nat → BitVec 64) (Bk : Nat) (w0 w : World) : Prop where
  s : Row w w0.heap.size 23 (vec 25 a)
  r : Row w (w0.heap.size + 1) 45 rotV
  z : Row w (w0.heap.size + 1 + 1) 23 (vec 25 (fun _ => 0))
  b : Row w Bk 23 (vec 25 b)
  o : Below w0.heap.size w0 w
  l : w0.heap.size + 3 < Bk
theorem Rb.rc {a b : Nat → BitVec 64} {Bk : Nat} {w0 w : World} (h : Rb a b Bk w0 w) {i : Nat} (hi : i < 25) : w.cell? ⟨w0.heap.size + 1, i, none⟩ = some (.int .i64 (rotN i)) := by
  rw [cell_of_row w (w0.heap.size + 1) i _ 45 (0, 0) h.r, rotV_get hi]
/-- The order in which the third and the fourth step go through the words. -/
def rk (i : Nat) : Nat := 5 * (i % 5) + i / 5
def prt (m : Nat) (g : Nat → BitVec 64) : Nat → BitVec 64 := fun j => if rk (src j) < m then g j else 0
theorem prt_0 (g : Nat → BitVec 64) : vec 25 (fun _ => 0) = vec 25 (prt 0 g) := vec_congr fun i _ => by unfold prt; rw [if_neg (by omega)]
theorem rk_lt : ∀ j, j < 25 → rk (src j) < 25 := by decide
theorem prt_all (g : Nat → BitVec 64) : vec 25 (prt 25 g) = vec 25 g := vec_congr fun i hi => by unfold prt; rw [if_pos (rk_lt i hi)]
theorem rk_src : ∀ x, x < 5 → ∀ y, y < 5 → ∀ j, j < 25 → (rk (src j) = 5 * x + y ↔ j = y + 5 * ((2 * x + 3 * y) % 5)) := by decide
theorem src_of : ∀ x, x < 5 → ∀ y, y < 5 → src (y + 5 * ((2 * x + 3 * y) % 5)) = x + 5 * y := by decide
theorem prt_upd {x y : Nat} (hx : x < 5) (hy : y < 5) (f : Nat → BitVec 64) :
    vec 25 (upd (prt (5 * x + y) (mvB f (chD f))) (y + 5 * ((2 * x + 3 * y) % 5)) ((tht f 25 (x + 5 * y)).rotateLeft (rotN (x + 5 * y)))) = vec 25 (prt (5 * x + (y + 1)) (mvB f (chD f))) := by
  refine vec_congr fun j hj => ?_
  have h := rk_src x hx y hy j hj
  unfold upd prt
  by_cases c : j = y + 5 * ((2 * x + 3 * y) % 5)
  · have e := h.2 c
    have e2 := src_of x hx y hy
    rw [if_pos c, if_pos (by omega)]
    unfold mvB tht
    rw [c, e2, if_pos (by omega)]
  · have e : ¬ rk (src j) = 5 * x + y := fun q => c (h.1 q)
    rw [if_neg c]
    by_cases l : rk (src j) < 5 * x + y
    · rw [if_pos l, if_pos (by omega)]
    · rw [if_neg l, if_neg (by omega)]
theorem Rf.toRb {f g : Nat → BitVec 64} {w0 w : World} (H : Rf (tht f 25) g w0 w) (hz : Row (w.alloc (.cells #[.int .u64 0, .int .u64 0, .int .u64 0, .int .u64 0, .int .u64 0, .int .u64 0, .int .u64 0, .int .u64 0, .int .u64 0, .int .u64 0, .int .u64 0, .int .u64 0, .int .u64 0, .int .u64 0, .int .u64 0, .int .u64 0, .int .u64 0, .int .u64 0, .int .u64 0, .int .u64 0, .int .u64 0, .int .u64 0, .int .u64 0, .int .u64 0, .int .u64 0] 23)) w.heap.size 23 #[.int .u64 0, .int .u64 0, .int .u64 0, .int .u64 0, .int .u64 0, .int .u64 0, .int .u64 0, .int .u64 0, .int .u64 0, .int .u64 0, .int .u64 0, .int .u64 0, .int .u64 0, .int .u64 0, .int .u64 0, .int .u64 0, .int .u64 0, .int .u64 0, .int .u64 0, .int .u64 0, .int .u64 0, .int .u64 0, .int .u64 0, .int .u64 0, .int .u64 0]) :
    Rb (tht f 25) (prt (5 * 0) (mvB f (chD f))) w.heap.size w0 ((w.alloc (.cells #[.int .u64 0, .int .u64 0, .int .u64 0, .int .u64 0, .int .u64 0, .int .u64 0, .int .u64 0, .int .u64 0, .int .u64 0, .int .u64 0, .int .u64 0, .int .u64 0, .int .u64 0, .int .u64 0, .int .u64 0, .int .u64 0, .int .u64 0, .int .u64 0, .int .u64 0, .int .u64 0, .int .u64 0, .int .u64 0, .int .u64 0, .int .u64 0, .int .u64 0] 23)).setRow w.heap.size #[.int .u64 0, .int .u64 0, .int .u64 0, .int .u64 0, .int .u64 0, .int .u64 0, .int .u64 0, .int .u64 0, .int .u64 0, .int .u64 0, .int .u64 0, .int .u64 0, .int .u64 0, .int .u64 0, .int .u64 0, .int .u64 0, .int .u64 0, .int .u64 0, .int .u64 0, .int .u64 0, .int .u64 0, .int .u64 0, .int .u64 0, .int .u64 0, .int .u64 0]) := by
  have l := H.l
  refine ⟨(H.s.alloc _).setFar (by omega) _, (H.r.alloc _).setFar (by omega) _, (H.z.alloc _).setFar (by omega) _, ?_, below_setRow (H.b.alloc H.b.size _) (by omega) _, l⟩
  rw [← prt_0, ← zero25]
  exact hz.setRow _
theorem Rb.three {f : Nat → BitVec 64} {x y m Bk : Nat} {w0 w : World} (hx : x < 5) (hy : y < 5) (H : Rb (tht f 25) (prt (5 * x + y) (mvB f (chD f))) Bk w0 w) :
    Rb (tht f 25) (prt (5 * x + (y + 1)) (mvB f (chD f))) Bk w0 ((w.drewN m).setCell ⟨Bk, y + 5 * ((2 * x + 3 * y) % 5), none⟩ (.int .u64 (wd ((tht f 25 (x + 5 * y)).rotateLeft (rotN (x + 5 * y)))))) := by
  have l := H.l
  have b : Below w0.heap.size w0 (w.drewN m) := H.o.trans ⟨rfl, rfl, rfl, Nat.le_refl _, fun _ _ => rfl⟩
  have s : Row (w.drewN m) w0.heap.size 23 (vec 25 (tht f 25)) := H.s
  have r : Row (w.drewN m) (w0.heap.size + 1) 45 rotV := H.r
  have z : Row (w.drewN m) (w0.heap.size + 1 + 1) 23 (vec 25 (fun _ => 0)) := H.z
  have c : Row (w.drewN m) Bk 23 (vec 25 (prt (5 * x + y) (mvB f (chD f)))) := H.b
  have c2 := c.set (y + 5 * ((2 * x + 3 * y) % 5)) ((tht f 25 (x + 5 * y)).rotateLeft (rotN (x + 5 * y)))
  rw [prt_upd hx hy f] at c2
  exact ⟨s.far (by dsimp only; omega) _, r.far (by dsimp only; omega) _, z.far (by dsimp only; omega) _, c2, b.setCell (by dsimp only; omega) _, l⟩

theorem xy_nums (x y : Nat) (hx : x < 5) (hy : y < 5) : IntKind.i64.wrap (5 * (y : Int)) = 5 * (y : Int) ∧ IntKind.i64.wrap ((x : Int) + 5 * (y : Int)) = (x : Int) + 5 * (y : Int) :=
  ⟨IntWalk.i64_in _ ⟨by omega, by omega⟩, IntWalk.i64_in _ ⟨by omega, by omega⟩⟩

theorem sm_nums (x y : Nat) (hy : y < 5) (d : Nat) : IntKind.i64.wrap (((x : Int) + (d : Int)) % 5 + 5 * (y : Int)) = ((x : Int) + (d : Int)) % 5 + 5 * (y : Int) ∧
    (0 : Int) ≤ ((x : Int) + (d : Int)) % 5 + 5 * (y : Int) ∧ ((x : Int) + (d : Int)) % 5 + 5 * (y : Int) < 25 ∧ (((x : Int) + (d : Int)) % 5 + 5 * (y : Int)).toNat = (x + d) % 5 + 5 * y :=
  ⟨IntWalk.i64_in _ ⟨by omega, by omega⟩, by omega, by omega, by omega⟩
/-- The state of the fourth step, m words done. -/
def chx (m : Nat) (M a : Nat → BitVec 64) : Nat → BitVec 64 := fun j => if rk j < m then chi M j else a j
theorem chx_0 (M a : Nat → BitVec 64) : chx 0 M a = a := funext fun j => by unfold chx; rw [if_neg (by omega)]
theorem rk_25 : ∀ j, j < 25 → rk j < 25 := by decide
theorem chx_all (M a : Nat → BitVec 64) : vec 25 (chx 25 M a) = vec 25 (chi M) := vec_congr fun i hi => by unfold chx; rw [if_pos (rk_25 i hi)]
theorem rk_is : ∀ x, x < 5 → ∀ y, y < 5 → ∀ j, j < 25 → (rk j = 5 * x + y ↔ j = x + 5 * y) := by decide
theorem chx_upd {x y : Nat} (hx : x < 5) (hy : y < 5) (M a : Nat → BitVec 64) :
    vec 25 (upd (chx (5 * x + y) M a) (x + 5 * y) (M (x + 5 * y) ^^^ (~~~ (M ((x + 1) % 5 + 5 * y)) &&& M ((x + 2) % 5 + 5 * y)))) = vec 25 (chx (5 * x + (y + 1)) M a) := by
  refine vec_congr fun j hj => ?_
  have h := rk_is x hx y hy j hj
  unfold upd chx
  by_cases c : j = x + 5 * y
  · have e := h.2 c
    rw [if_pos c, if_pos (by omega)]
    unfold chi
    rw [c, show (x + 5 * y) / 5 * 5 + ((x + 5 * y) % 5 + 1) % 5 = (x + 1) % 5 + 5 * y from by omega, show (x + 5 * y) / 5 * 5 + ((x + 5 * y) % 5 + 2) % 5 = (x + 2) % 5 + 5 * y from by omega]
  · have e : ¬ rk j = 5 * x + y := fun q => c (h.1 q)
    rw [if_neg c]
    by_cases l : rk j < 5 * x + y
    · rw [if_pos l, if_pos (by omega)]
    · rw [if_neg l, if_neg (by omega)]
theorem Rb.toRc {f : Nat → BitVec 64} {Bk : Nat} {w0 w : World} (H : Rb (tht f 25) (prt (5 * 5) (mvB f (chD f))) Bk w0 w) : Rb (chx (5 * 0) (mvB f (chD f)) (tht f 25)) (mvB f (chD f)) Bk w0 w := by
  have b := H.b
  rw [show (5 * 5 : Nat) = 25 from rfl, prt_all] at b
  exact ⟨by rw [show (5 * 0 : Nat) = 0 from rfl, chx_0]; exact H.s, H.r, H.z, b, H.o, H.l⟩
theorem Rb.four {M a : Nat → BitVec 64} {x y Bk : Nat} {w0 w : World} (hx : x < 5) (hy : y < 5) (H : Rb (chx (5 * x + y) M a) M Bk w0 w) :
    Rb (chx (5 * x + (y + 1)) M a) M Bk w0 (w.setCell ⟨w0.heap.size, x + 5 * y, none⟩ (.int .u64 (wd (M (x + 5 * y) ^^^ (~~~ (M ((x + 1) % 5 + 5 * y)) &&& M ((x + 2) % 5 + 5 * y)))))).drew := by
  have l := H.l
  have s2 := H.s.set (x + 5 * y) (M (x + 5 * y) ^^^ (~~~ (M ((x + 1) % 5 + 5 * y)) &&& M ((x + 2) % 5 + 5 * y)))
  rw [chx_upd hx hy M a] at s2
  exact ⟨s2.drew, (H.r.far (by dsimp only; omega) _).drew, (H.z.far (by dsimp only; omega) _).drew, (H.b.far (by dsimp only; omega) _).drew, (H.o.setCell (Nat.le_refl _) _).drew, l⟩

theorem xy_in (x y : Nat) (hx : x < 5) (hy : y < 5) : (0 : Int) ≤ (x : Int) + 5 * (y : Int) ∧ (x : Int) + 5 * (y : Int) < 25 ∧ ((x : Int) + 5 * (y : Int)).toNat = x + 5 * y := ⟨by omega, by omega, by omega⟩
theorem ix_in (x y d : Nat) (hy : y < 5) : (x + d) % 5 + 5 * y < 25 := by omega

theorem Rb.fin {f M a : Nat → BitVec 64} {c : BitVec 64} {Bk : Nat} {w0 w : World} (H : Rb (chx (5 * 5) M a) M Bk w0 w) (h : mvB f (chD f) = M) :
    Rb (rdF f c) M Bk w0 (w.setCell ⟨w0.heap.size, 0, none⟩ (.int .u64 (wd (chi M 0 ^^^ c)))) := by
  have l := H.l
  have s := H.s
  rw [show (5 * 5 : Nat) = 25 from rfl, chx_all] at s
  have s2 := s.set 0 (chi M 0 ^^^ c)
  have e : upd (chi M) 0 (chi M 0 ^^^ c) = rdF f c := by unfold rdF; rw [h]
  rw [e] at s2
  exact ⟨s2, H.r.far (by dsimp only; omega) _, H.z.far (by dsimp only; omega) _, H.b.far (by dsimp only; omega) _, H.o.setCell (Nat.le_refl _) _, l⟩
theorem Rb.word0 {M a : Nat → BitVec 64} {Bk : Nat} {w0 w : World} (H : Rb (chx (5 * 5) M a) M Bk w0 w) : w.cell? ⟨w0.heap.size, 0, none⟩ = some (.int .u64 (wd (chi M 0))) := by
  have s := H.s
  rw [show (5 * 5 : Nat) = 25 from rfl, chx_all] at s
  exact s.cell (i := 0) (by omega)

theorem val4 (A B C : BitVec 64) : bits .xor .u64 (wd A) (bits .and .u64 (bits .xor .u64 IntKind.u64.max (wd B)) (wd C)) = wd (A ^^^ (~~~ B &&& C)) := by
  have e : bits .xor .u64 IntKind.u64.max (wd B) = wd (~~~ B) := by
    have h := wd_not B
    have e0 : (if IntKind.u64.signed = true then (-1 : Int) else IntKind.u64.max) = IntKind.u64.max := by decide
    rw [e0] at h
    exact h
  rw [e, wd_and, wd_xor]

set_option maxRecDepth 100000 in
set_option maxHeartbeats 4000000 in
theorem refRound_any (f : Nat → BitVec 64) (c : BitVec 64) (w : World) :
    Calls Tryd.prog 26 #[.agg (vec 25 f), .int .u64 (wd c), .agg rotV] w fun e w' => e = .returned (.agg (vec 25 (rdF f c))) ∧ Below w.heap.size w w' := by
  go_enter Tryd.func26, Tryd.ntmps26
  go_wp2_with fail
  go_loopw [8] (fun i wr => ∃ k : Nat, k ≤ 25 ∧ i = .int .i64 k ∧ Rf f (smF f k) w wr) (fun i _ => 25 - (intOf i).toNat)
  case atStart =>
    refine ⟨0, by omega, rfl, ?_⟩
    rw [zero25, zero5]
    exact ⟨(((Row.new _ _ _).alloc _).alloc _).alloc _, ((Row.new1 _ _ _ (by simp)).alloc _).alloc _, (Row.new1 _ _ _ (by simp)).alloc _, Row.new1 _ _ _ (by simp), by go_grown, by simp⟩
  case round =>
    obtain ⟨k, hk, rfl, hR⟩ := hrel
    by_cases hlt : k < 25
    · obtain ⟨m1, m2, m3, m4, m5⟩ := md_nums k
      have k0 : (0 : Int) ≤ (k : Int) := by omega
      have k1 : (k : Int) < 25 := by omega
      have g0 := hR.s.cell (i := k) hlt
      have g1 := hR.c.cell (i := k % 5) (by omega)
      have z := hR.c.frozen (k % 5)
      have xr := wd_xor (smF f k (k % 5)) (f k)
      have H := Lib.hid hR
      clear hR
      go_wp2_with fail
      go_still_tail 11, (by kernel_rfl)
      clear m1 m2 m3 m4 m5 k0 k1 g0
      go_wp2_with fail
      go_roundw
      case rel => exact ⟨k + 1, by omega, by go_num, H.out.one⟩
      case measure => simp [intOf]; omega
    · obtain rfl : k = 25 := by omega
      have hg : ∀ x, x < 5 → smF f 25 x = chC f x := vec_inj (sm_all f)
      generalize smF f 25 = g at hR hg
      rw [← tht_0 f] at hR
      have H0 := Lib.hid hR
      have HG := Lib.hid hg
      clear hR hg hlt hk
      go_wp2_with fail
      go_loopw [9] (fun i wr => ∃ k : Nat, k ≤ 25 ∧ i = .int .i64 k ∧ Rf (tht f k) g w wr) (fun i _ => 25 - (intOf i).toNat)
      case atStart => exact ⟨0, by omega, rfl, H0.out⟩
      case round =>
        clear H0
        obtain ⟨k, hk, rfl, hR⟩ := hrel
        by_cases hlt : k < 25
        · obtain ⟨p1, p2, p3, p4, p5, p6⟩ := ad4 k hlt
          obtain ⟨q1, q2, q3, q4, q5, q6⟩ := ad1 k hlt
          have k0 : (0 : Int) ≤ (k : Int) := by omega
          have k1 : (k : Int) < 25 := by omega
          have g0 := hR.s.cell (i := k) hlt
          rw [tht_k] at g0
          have g4 := hR.c.cell (i := (k + 4) % 5) (by omega)
          have g1 := hR.c.cell (i := (k + 1) % 5) (by omega)
          have z := hR.s.frozen k
          have xr := wd_xor (f k) (g ((k + 4) % 5))
          have xs := wd_xor (f k ^^^ g ((k + 4) % 5)) ((g ((k + 1) % 5)).rotateLeft 1)
          have RO := Lib.hid (fun W => (show Calls Tryd.prog 33 #[.int .u64 (wd (g ((k + 1) % 5))), .int .i64 1] W (fun e w' => e = .returned (.int .u64 (wd ((g ((k + 1) % 5)).rotateLeft 1))) ∧ ∃ n, w' = W.drewN n) from rotate_any _ 1 W (by decide)))
          have H := Lib.hid hR
          clear hR
          go_wp2_with fail
          refine wp_region_held_drew (S := fun W => W.cell? ⟨w.heap.size + 1 + 1 + 1, (k + 4) % 5, none⟩ = some (.int .u64 (wd (g ((k + 4) % 5)))) ∧ W.cell? ⟨w.heap.size + 1 + 1 + 1, (k + 1) % 5, none⟩ = some (.int .u64 (wd (g ((k + 1) % 5))))) (by kernel_rfl) ⟨g4, g1⟩ (fun hS => ?_)
          refine wpAnyH_take (i := 0) (oi := { dst := some 35, op := Op.move (Operand.tmp 9), type := 3, pos := "ref.go:33", after := #[], guard := none }) (v := ?_) rfl (by kernel_rfl) (by kernel_rfl) (by kernel_rfl) (fun _ _ _ h => h) (Or.inl ⟨by rfl, ?_⟩) (by assumption) ?_
          rotate_left
          · intro w hSw; (try dsimp only at hSw); go_simp <;> with_reducible rfl
          try simp only [Act.put, List.setIfInBounds_toArray, List.set_cons_zero, List.set_cons_succ]
          refine wpAnyH_take (i := 1) (oi := { dst := some 36, op := Op.move (Operand.tmp 9), type := 3, pos := "ref.go:33", after := #[], guard := none }) (v := ?_) rfl (by kernel_rfl) (by kernel_rfl) (by kernel_rfl) (fun _ _ _ h => h) (Or.inl ⟨by rfl, ?_⟩) (by assumption) ?_
          rotate_left
          · intro w hSw; (try dsimp only at hSw); go_simp <;> with_reducible rfl
          try simp only [Act.put, List.setIfInBounds_toArray, List.set_cons_zero, List.set_cons_succ]
          refine wpAnyH_take (i := 2) (oi := { dst := some 37, op := Op.indexAddr 23 (Operand.tmp 3) (Operand.tmp 36), type := 0, pos := "ref.go:33", after := #[{ on := 1, ground := Ground.data }], guard := none }) (v := ?_) rfl (by kernel_rfl) (by kernel_rfl) (by kernel_rfl) (fun _ _ _ h => h) (Or.inl ⟨by rfl, ?_⟩) (by assumption) ?_
          rotate_left
          · intro w hSw; (try dsimp only at hSw); go_simp <;> with_reducible rfl
          try simp only [Act.put, List.setIfInBounds_toArray, List.set_cons_zero, List.set_cons_succ]
          refine wpAnyH_take (i := 4) (oi := { dst := some 39, op := Op.move (Operand.tmp 9), type := 3, pos := "ref.go:33", after := #[], guard := none }) (v := ?_) rfl (by kernel_rfl) (by kernel_rfl) (by kernel_rfl) (fun _ _ _ h => h) (Or.inl ⟨by rfl, ?_⟩) (by assumption) ?_
          rotate_left
          · intro w hSw; (try dsimp only at hSw); go_simp <;> with_reducible rfl
          try simp only [Act.put, List.setIfInBounds_toArray, List.set_cons_zero, List.set_cons_succ]
          refine wpAnyH_take (i := 5) (oi := { dst := some 40, op := Op.binOp BinOp.add 3 (Operand.tmp 39) (Operand.const (Value.int IntKind.i64 4)) 3, type := 3, pos := "ref.go:33", after := #[{ on := 4, ground := Ground.data }], guard := none }) (v := ?_) rfl (by kernel_rfl) (by kernel_rfl) (by kernel_rfl) (fun _ _ _ h => h) (Or.inl ⟨by rfl, ?_⟩) (by assumption) ?_
          rotate_left
          · intro w hSw; (try dsimp only at hSw); go_simp <;> with_reducible rfl
          try simp only [Act.put, List.setIfInBounds_toArray, List.set_cons_zero, List.set_cons_succ]
          refine wpAnyH_take (i := 6) (oi := { dst := some 41, op := Op.binOp BinOp.rem 3 (Operand.tmp 40) (Operand.const (Value.int IntKind.i64 5)) 3, type := 3, pos := "ref.go:33", after := #[{ on := 5, ground := Ground.data }], guard := none }) (v := ?_) rfl (by kernel_rfl) (by kernel_rfl) (by kernel_rfl) (fun _ _ _ h => h) (Or.inl ⟨by rfl, ?_⟩) (by assumption) ?_
          rotate_left
          · intro w hSw; (try dsimp only at hSw); go_simp <;> with_reducible rfl
          try simp only [Act.put, List.setIfInBounds_toArray, List.set_cons_zero, List.set_cons_succ]
          refine wpAnyH_take (i := 7) (oi := { dst := some 42, op := Op.indexAddr 58 (Operand.tmp 7) (Operand.tmp 41), type := 0, pos := "ref.go:33", after := #[{ on := 6, ground := Ground.data }], guard := none }) (v := ?_) rfl (by kernel_rfl) (by kernel_rfl) (by kernel_rfl) (fun _ _ _ h => h) (Or.inl ⟨by rfl, ?_⟩) (by assumption) ?_
          rotate_left
          · intro w hSw; (try dsimp only at hSw); go_simp <;> with_reducible rfl
          try simp only [Act.put, List.setIfInBounds_toArray, List.set_cons_zero, List.set_cons_succ]
          refine wpAnyH_take (i := 8) (oi := { dst := some 43, op := Op.load 22 (Operand.tmp 42), type := 22, pos := "ref.go:33", after := #[{ on := 7, ground := Ground.data }], guard := none }) (v := ?_) rfl (by kernel_rfl) (by kernel_rfl) (by kernel_rfl) (fun _ _ _ h => h) (Or.inl ⟨by rfl, ?_⟩) (by assumption) ?_
          rotate_left
          · intro w hSw; (try dsimp only at hSw); go_simp <;> with_reducible rfl
          try simp only [Act.put, List.setIfInBounds_toArray, List.set_cons_zero, List.set_cons_succ]
          refine wpAnyH_take (i := 10) (oi := { dst := some 45, op := Op.move (Operand.tmp 9), type := 3, pos := "ref.go:33", after := #[], guard := none }) (v := ?_) rfl (by kernel_rfl) (by kernel_rfl) (by kernel_rfl) (fun _ _ _ h => h) (Or.inl ⟨by rfl, ?_⟩) (by assumption) ?_
          rotate_left
          · intro w hSw; (try dsimp only at hSw); go_simp <;> with_reducible rfl
          try simp only [Act.put, List.setIfInBounds_toArray, List.set_cons_zero, List.set_cons_succ]
          refine wpAnyH_take (i := 11) (oi := { dst := some 46, op := Op.binOp BinOp.add 3 (Operand.tmp 45) (Operand.const (Value.int IntKind.i64 1)) 3, type := 3, pos := "ref.go:33", after := #[{ on := 10, ground := Ground.data }], guard := none }) (v := ?_) rfl (by kernel_rfl) (by kernel_rfl) (by kernel_rfl) (fun _ _ _ h => h) (Or.inl ⟨by rfl, ?_⟩) (by assumption) ?_
          rotate_left
          · intro w hSw; (try dsimp only at hSw); go_simp <;> with_reducible rfl
          try simp only [Act.put, List.setIfInBounds_toArray, List.set_cons_zero, List.set_cons_succ]
          refine wpAnyH_take (i := 12) (oi := { dst := some 47, op := Op.binOp BinOp.rem 3 (Operand.tmp 46) (Operand.const (Value.int IntKind.i64 5)) 3, type := 3, pos := "ref.go:33", after := #[{ on := 11, ground := Ground.data }], guard := none }) (v := ?_) rfl (by kernel_rfl) (by kernel_rfl) (by kernel_rfl) (fun _ _ _ h => h) (Or.inl ⟨by rfl, ?_⟩) (by assumption) ?_
          rotate_left
          · intro w hSw; (try dsimp only at hSw); go_simp <;> with_reducible rfl
          try simp only [Act.put, List.setIfInBounds_toArray, List.set_cons_zero, List.set_cons_succ]
          refine wpAnyH_take (i := 13) (oi := { dst := some 48, op := Op.indexAddr 58 (Operand.tmp 7) (Operand.tmp 47), type := 0, pos := "ref.go:33", after := #[{ on := 12, ground := Ground.data }], guard := none }) (v := ?_) rfl (by kernel_rfl) (by kernel_rfl) (by kernel_rfl) (fun _ _ _ h => h) (Or.inl ⟨by rfl, ?_⟩) (by assumption) ?_
          rotate_left
          · intro w hSw; (try dsimp only at hSw); go_simp <;> with_reducible rfl
          try simp only [Act.put, List.setIfInBounds_toArray, List.set_cons_zero, List.set_cons_succ]
          refine wpAnyH_take (i := 14) (oi := { dst := some 49, op := Op.load 22 (Operand.tmp 48), type := 22, pos := "ref.go:33", after := #[{ on := 13, ground := Ground.data }], guard := none }) (v := ?_) rfl (by kernel_rfl) (by kernel_rfl) (by kernel_rfl) (fun _ _ _ h => h) (Or.inl ⟨by rfl, ?_⟩) (by assumption) ?_
          rotate_left
          · intro w hSw; (try dsimp only at hSw); go_simp <;> with_reducible rfl
          try simp only [Act.put, List.setIfInBounds_toArray, List.set_cons_zero, List.set_cons_succ]
          refine wpAnyH_ready (rs := [3, 15]) (by kernel_rfl) (by simp) ?_
          refine AllReadyH.cons (i := 3) (o := { dst := some 38, op := Op.load 22 (Operand.tmp 37), type := 22, pos := "ref.go:33", after := #[{ on := 2, ground := Ground.data }], guard := none }) rfl (fun K hK => ?_) ?_
          rw [if_pos (by rfl)]
          · go_simp
            refine Shut.out hK _ _ (show _ ∧ _ from ⟨g4, g1⟩) (fun _hS => ?_)
            clear hK K
            try simp only [Act.put, List.setIfInBounds_toArray, List.set_cons_zero, List.set_cons_succ]
            refine wpAnyH_take (i := 9) (oi := { dst := some 44, op := Op.binOp BinOp.xor 22 (Operand.tmp 38) (Operand.tmp 43) 22, type := 22, pos := "ref.go:33", after := #[{ on := 3, ground := Ground.data }, { on := 8, ground := Ground.data }], guard := none }) (v := ?_) rfl (by kernel_rfl) (by kernel_rfl) (by kernel_rfl) (fun _ _ _ h => h) (Or.inl ⟨by rfl, ?_⟩) (by assumption) ?_
            rotate_left
            · intro w hSw; (try dsimp only at hSw); go_simp <;> with_reducible rfl
            try simp only [Act.put, List.setIfInBounds_toArray, List.set_cons_zero, List.set_cons_succ]
            refine wpAnyH_ready (rs := [15]) (by kernel_rfl) (by simp) ?_
            refine AllReadyH.cons (i := 15) (o := { dst := some 50, op := Op.call { callee := Callee.value (Operand.func 33), args := #[Operand.tmp 49, Operand.const (Value.int IntKind.i64 1)], argTypes := #[22, 3] }, type := 22, pos := "ref.go:33", after := #[{ on := 14, ground := Ground.data }], guard := none }) rfl (fun K hK => ?_) ?_
            rw [if_pos (by rfl)]
            · go_simp
              refine (RO.out _).mono ?_
              rintro e w1 ⟨rfl, m, rfl⟩
              refine Shut.out hK _ _ (show _ ∧ _ from ⟨g4, g1⟩) (fun _hS => ?_)
              clear hK K
              try simp only [Act.put, List.setIfInBounds_toArray, List.set_cons_zero, List.set_cons_succ]
              refine wpAnyH_take (i := 16) (oi := { dst := some 51, op := Op.binOp BinOp.xor 22 (Operand.tmp 44) (Operand.tmp 50) 22, type := 22, pos := "ref.go:33", after := #[{ on := 9, ground := Ground.data }, { on := 15, ground := Ground.data }], guard := none }) (v := ?_) rfl (by kernel_rfl) (by kernel_rfl) (by kernel_rfl) (fun _ _ _ h => h) (Or.inl ⟨by rfl, ?_⟩) (by assumption) ?_
              rotate_left
              · intro w hSw; (try dsimp only at hSw); go_simp <;> with_reducible rfl
              try simp only [Act.put, List.setIfInBounds_toArray, List.set_cons_zero, List.set_cons_succ]
              refine wpAnyH_take (i := 17) (oi := { dst := some 52, op := Op.indexAddr 23 (Operand.tmp 3) (Operand.tmp 35), type := 0, pos := "ref.go:33", after := #[{ on := 0, ground := Ground.data }, { on := 0, ground := Ground.phase }, { on := 1, ground := Ground.phase }, { on := 2, ground := Ground.phase }, { on := 3, ground := Ground.phase }, { on := 4, ground := Ground.phase }, { on := 5, ground := Ground.phase }, { on := 6, ground := Ground.phase }, { on := 7, ground := Ground.phase }, { on := 8, ground := Ground.phase }, { on := 9, ground := Ground.phase }, { on := 10, ground := Ground.phase }, { on := 11, ground := Ground.phase }, { on := 12, ground := Ground.phase }, { on := 13, ground := Ground.phase }, { on := 14, ground := Ground.phase }, { on := 15, ground := Ground.phase }, { on := 16, ground := Ground.phase }], guard := none }) (v := ?_) rfl (by kernel_rfl) (by kernel_rfl) (by kernel_rfl) (fun _ _ _ h => h) (Or.inl ⟨by rfl, ?_⟩) (by assumption) ?_
              rotate_left
              · intro w hSw; (try dsimp only at hSw); go_simp <;> with_reducible rfl
              try simp only [Act.put, List.setIfInBounds_toArray, List.set_cons_zero, List.set_cons_succ]
              refine wpAnyH_ready (rs := [18]) (by kernel_rfl) (by simp) ?_
              refine AllReadyH.cons (i := 18) (o := { dst := none, op := Op.store 22 (Operand.tmp 52) (Operand.tmp 51), type := 0, pos := "ref.go:33", after := #[{ on := 17, ground := Ground.data }, { on := 16, ground := Ground.data }, { on := 15, ground := Ground.chain }, { on := 0, ground := Ground.phase }, { on := 1, ground := Ground.phase }, { on := 2, ground := Ground.phase }, { on := 3, ground := Ground.phase }, { on := 4, ground := Ground.phase }, { on := 5, ground := Ground.phase }, { on := 6, ground := Ground.phase }, { on := 7, ground := Ground.phase }, { on := 8, ground := Ground.phase }, { on := 9, ground := Ground.phase }, { on := 10, ground := Ground.phase }, { on := 11, ground := Ground.phase }, { on := 12, ground := Ground.phase }, { on := 13, ground := Ground.phase }, { on := 14, ground := Ground.phase }, { on := 15, ground := Ground.phase }, { on := 16, ground := Ground.phase }], guard := none }) rfl (fun K hK => ?_) ?_
              rw [if_pos (by rfl)]
              · go_simp
                refine Shut.out hK _ _ (show _ ∧ _ from ⟨(World.cell?_setCell_far _ _ _ _ (by dsimp only; omega)).trans g4, (World.cell?_setCell_far _ _ _ _ (by dsimp only; omega)).trans g1⟩) (fun _hS => ?_)
                clear hK K
                try simp only [Act.put]
                refine wpAnyH_done (by kernel_rfl) ?_ _
                go_wp2_with fail
                go_roundw
                case rel => (repeat apply Exists.intro); exact ⟨⟨k + 1, by omega, by go_num, H.out.two HG.out⟩, rfl⟩
                case measure => simp [intOf]; omega
              exact AllReadyH.nil
            exact AllReadyH.nil
          refine AllReadyH.cons (i := 15) (o := { dst := some 50, op := Op.call { callee := Callee.value (Operand.func 33), args := #[Operand.tmp 49, Operand.const (Value.int IntKind.i64 1)], argTypes := #[22, 3] }, type := 22, pos := "ref.go:33", after := #[{ on := 14, ground := Ground.data }], guard := none }) rfl (fun K hK => ?_) ?_
          rw [if_pos (by rfl)]
          · go_simp
            refine (RO.out _).mono ?_
            rintro e w1 ⟨rfl, m, rfl⟩
            refine Shut.out hK _ _ (show _ ∧ _ from ⟨g4, g1⟩) (fun _hS => ?_)
            clear hK K
            try simp only [Act.put, List.setIfInBounds_toArray, List.set_cons_zero, List.set_cons_succ]
            refine wpAnyH_ready (rs := [3]) (by kernel_rfl) (by simp) ?_
            refine AllReadyH.cons (i := 3) (o := { dst := some 38, op := Op.load 22 (Operand.tmp 37), type := 22, pos := "ref.go:33", after := #[{ on := 2, ground := Ground.data }], guard := none }) rfl (fun K hK => ?_) ?_
            rw [if_pos (by rfl)]
            · go_simp
              refine Shut.out hK _ _ (show _ ∧ _ from ⟨g4, g1⟩) (fun _hS => ?_)
              clear hK K
              try simp only [Act.put, List.setIfInBounds_toArray, List.set_cons_zero, List.set_cons_succ]
              refine wpAnyH_take (i := 9) (oi := { dst := some 44, op := Op.binOp BinOp.xor 22 (Operand.tmp 38) (Operand.tmp 43) 22, type := 22, pos := "ref.go:33", after := #[{ on := 3, ground := Ground.data }, { on := 8, ground := Ground.data }], guard := none }) (v := ?_) rfl (by kernel_rfl) (by kernel_rfl) (by kernel_rfl) (fun _ _ _ h => h) (Or.inl ⟨by rfl, ?_⟩) (by assumption) ?_
              rotate_left
              · intro w hSw; (try dsimp only at hSw); go_simp <;> with_reducible rfl
              try simp only [Act.put, List.setIfInBounds_toArray, List.set_cons_zero, List.set_cons_succ]
              refine wpAnyH_take (i := 16) (oi := { dst := some 51, op := Op.binOp BinOp.xor 22 (Operand.tmp 44) (Operand.tmp 50) 22, type := 22, pos := "ref.go:33", after := #[{ on := 9, ground := Ground.data }, { on := 15, ground := Ground.data }], guard := none }) (v := ?_) rfl (by kernel_rfl) (by kernel_rfl) (by kernel_rfl) (fun _ _ _ h => h) (Or.inl ⟨by rfl, ?_⟩) (by assumption) ?_
              rotate_left
              · intro w hSw; (try dsimp only at hSw); go_simp <;> with_reducible rfl
              try simp only [Act.put, List.setIfInBounds_toArray, List.set_cons_zero, List.set_cons_succ]
              refine wpAnyH_take (i := 17) (oi := { dst := some 52, op := Op.indexAddr 23 (Operand.tmp 3) (Operand.tmp 35), type := 0, pos := "ref.go:33", after := #[{ on := 0, ground := Ground.data }, { on := 0, ground := Ground.phase }, { on := 1, ground := Ground.phase }, { on := 2, ground := Ground.phase }, { on := 3, ground := Ground.phase }, { on := 4, ground := Ground.phase }, { on := 5, ground := Ground.phase }, { on := 6, ground := Ground.phase }, { on := 7, ground := Ground.phase }, { on := 8, ground := Ground.phase }, { on := 9, ground := Ground.phase }, { on := 10, ground := Ground.phase }, { on := 11, ground := Ground.phase }, { on := 12, ground := Ground.phase }, { on := 13, ground := Ground.phase }, { on := 14, ground := Ground.phase }, { on := 15, ground := Ground.phase }, { on := 16, ground := Ground.phase }], guard := none }) (v := ?_) rfl (by kernel_rfl) (by kernel_rfl) (by kernel_rfl) (fun _ _ _ h => h) (Or.inl ⟨by rfl, ?_⟩) (by assumption) ?_
              rotate_left
              · intro w hSw; (try dsimp only at hSw); go_simp <;> with_reducible rfl
              try simp only [Act.put, List.setIfInBounds_toArray, List.set_cons_zero, List.set_cons_succ]
              refine wpAnyH_ready (rs := [18]) (by kernel_rfl) (by simp) ?_
              refine AllReadyH.cons (i := 18) (o := { dst := none, op := Op.store 22 (Operand.tmp 52) (Operand.tmp 51), type := 0, pos := "ref.go:33", after := #[{ on := 17, ground := Ground.data }, { on := 16, ground := Ground.data }, { on := 15, ground := Ground.chain }, { on := 0, ground := Ground.phase }, { on := 1, ground := Ground.phase }, { on := 2, ground := Ground.phase }, { on := 3, ground := Ground.phase }, { on := 4, ground := Ground.phase }, { on := 5, ground := Ground.phase }, { on := 6, ground := Ground.phase }, { on := 7, ground := Ground.phase }, { on := 8, ground := Ground.phase }, { on := 9, ground := Ground.phase }, { on := 10, ground := Ground.phase }, { on := 11, ground := Ground.phase }, { on := 12, ground := Ground.phase }, { on := 13, ground := Ground.phase }, { on := 14, ground := Ground.phase }, { on := 15, ground := Ground.phase }, { on := 16, ground := Ground.phase }], guard := none }) rfl (fun K hK => ?_) ?_
              rw [if_pos (by rfl)]
              · go_simp
                refine Shut.out hK _ _ (show _ ∧ _ from ⟨(World.cell?_setCell_far _ _ _ _ (by dsimp only; omega)).trans g4, (World.cell?_setCell_far _ _ _ _ (by dsimp only; omega)).trans g1⟩) (fun _hS => ?_)
                clear hK K
                try simp only [Act.put]
                refine wpAnyH_done (by kernel_rfl) ?_ _
                go_wp2_with fail
                go_roundw
                case rel => (repeat apply Exists.intro); exact ⟨⟨k + 1, by omega, by go_num, H.out.two HG.out⟩, rfl⟩
                case measure => simp [intOf]; omega
              exact AllReadyH.nil
            exact AllReadyH.nil
          exact AllReadyH.nil
        · obtain rfl : k = 25 := by omega
          have e25 : vec 25 (tht f 25) = vec 25 (tht f 25) := rfl
          clear e25
          have H := Lib.hid hR
          clear hR hlt hk HG
          go_upto_region 10 with (fail)
          have hz : Row (wr.alloc (.cells #[.int .u64 0, .int .u64 0, .int .u64 0, .int .u64 0, .int .u64 0, .int .u64 0, .int .u64 0, .int .u64 0, .int .u64 0, .int .u64 0, .int .u64 0, .int .u64 0, .int .u64 0, .int .u64 0, .int .u64 0, .int .u64 0, .int .u64 0, .int .u64 0, .int .u64 0, .int .u64 0, .int .u64 0, .int .u64 0, .int .u64 0, .int .u64 0, .int .u64 0] 23)) wr.heap.size 23 #[.int .u64 0, .int .u64 0, .int .u64 0, .int .u64 0, .int .u64 0, .int .u64 0, .int .u64 0, .int .u64 0, .int .u64 0, .int .u64 0, .int .u64 0, .int .u64 0, .int .u64 0, .int .u64 0, .int .u64 0, .int .u64 0, .int .u64 0, .int .u64 0, .int .u64 0, .int .u64 0, .int .u64 0, .int .u64 0, .int .u64 0, .int .u64 0, .int .u64 0] := Row.new _ _ _
          have hi : (Tryd.prog.info? 23).map (·.size) = some (#[.int .u64 0, .int .u64 0, .int .u64 0, .int .u64 0, .int .u64 0, .int .u64 0, .int .u64 0, .int .u64 0, .int .u64 0, .int .u64 0, .int .u64 0, .int .u64 0, .int .u64 0, .int .u64 0, .int .u64 0, .int .u64 0, .int .u64 0, .int .u64 0, .int .u64 0, .int .u64 0, .int .u64 0, .int .u64 0, .int .u64 0, .int .u64 0, .int .u64 0] : Array Value).size := by kernel_rfl
          go_upto_region 11 with (refine wpList_store_row rfl 23 _ _ rfl _ _ rfl rfl _ _ hz hi rfl (by kernel_rfl) ?_)
          have W0 := H.out.toRb hz
          generalize ((wr.alloc (.cells #[.int .u64 0, .int .u64 0, .int .u64 0, .int .u64 0, .int .u64 0, .int .u64 0, .int .u64 0, .int .u64 0, .int .u64 0, .int .u64 0, .int .u64 0, .int .u64 0, .int .u64 0, .int .u64 0, .int .u64 0, .int .u64 0, .int .u64 0, .int .u64 0, .int .u64 0, .int .u64 0, .int .u64 0, .int .u64 0, .int .u64 0, .int .u64 0, .int .u64 0] 23)).setRow wr.heap.size #[.int .u64 0, .int .u64 0, .int .u64 0, .int .u64 0, .int .u64 0, .int .u64 0, .int .u64 0, .int .u64 0, .int .u64 0, .int .u64 0, .int .u64 0, .int .u64 0, .int .u64 0, .int .u64 0, .int .u64 0, .int .u64 0, .int .u64 0, .int .u64 0, .int .u64 0, .int .u64 0, .int .u64 0, .int .u64 0, .int .u64 0, .int .u64 0, .int .u64 0]) = W1 at W0 ⊢
          generalize wr.heap.size = Bk at W0 ⊢
          have W0 := Lib.hid W0
          clear H hz hi
          go_wp2_with fail
          go_loopw [11] (fun i wr => ∃ x : Nat, x ≤ 5 ∧ i = .int .i64 x ∧ Rb (tht f 25) (prt (5 * x) (mvB f (chD f))) Bk w wr) (fun i _ => 5 - (intOf i).toNat)
          case atStart => exact ⟨0, by omega, rfl, W0.out⟩
          case round =>
            clear W0
            obtain ⟨x, hx, rfl, hR⟩ := hrel
            by_cases hlt : x < 5
            · have x5 : (x : Int) < 5 := by omega
              have H := Lib.hid hR
              clear hR
              go_wp2_with fail
              go_loopw [12] (fun i wr2 => ∃ y : Nat, y ≤ 5 ∧ i = .int .i64 y ∧ Rb (tht f 25) (prt (5 * x + y) (mvB f (chD f))) Bk w wr2) (fun i _ => 5 - (intOf i).toNat)
              case atStart => exact ⟨0, by omega, rfl, H.out⟩
              case round =>
                clear H
                obtain ⟨y, hy, rfl, hR⟩ := hrel
                by_cases hly : y < 5
                · obtain ⟨m1, m2, m3, m4, m5, m6, m7, m8, m9, m10, m11, m12, m13, m14, m15, m16, m17⟩ := mv_nums x y hlt hly
                  obtain ⟨r1, r2⟩ := xy_nums x y hlt hly
                  have g0 := hR.s.cell (i := x + 5 * y) (by omega)
                  have g1 := hR.rc (i := x + 5 * y) (by omega)
                  have z := hR.b.frozen (y + 5 * ((2 * x + 3 * y) % 5))
                  have z' := hR.b.cell (i := y + 5 * ((2 * x + 3 * y) % 5)) (by omega)
                  have RO := Lib.hid (fun W => (show Calls Tryd.prog 33 #[.int .u64 (wd (tht f 25 (x + 5 * y))), .int .i64 (rotN (x + 5 * y))] W (fun e w' => e = .returned (.int .u64 (wd ((tht f 25 (x + 5 * y)).rotateLeft (rotN (x + 5 * y))))) ∧ ∃ n, w' = W.drewN n) from rotate_any _ _ W (rotN_lt _)))
                  have nb1 : Bk ≠ w.heap.size := by have := hR.l; omega
                  have nb2 : Bk ≠ w.heap.size + 1 := by have := hR.l; omega
                  have H := Lib.hid hR
                  clear hR
                  go_wp2_with fail
                  go_region_held3 (fun W => W.cell? ⟨w.heap.size, x + 5 * y, none⟩ = some (.int .u64 (wd (tht f 25 (x + 5 * y)))) ∧ W.cell? ⟨w.heap.size + 1, x + 5 * y, none⟩ = some (.int .i64 (rotN (x + 5 * y))))
                    (first | exact ⟨g0, g1⟩ | exact ⟨(World.cell?_setCell_far _ _ _ _ nb1).trans g0, (World.cell?_setCell_far _ _ _ _ nb2).trans g1⟩)
                    (first | (go_at_call 33; refine (RO.out _).mono ?_; rintro e w1 ⟨rfl, m, rfl⟩))
                  go_wp2_with fail
                  go_roundw
                  case rel => exact ⟨y + 1, by omega, by go_num, H.out.three hlt hly⟩
                  case measure => simp [intOf]; omega
                · obtain rfl : y = 5 := by omega
                  have H := Lib.hid hR
                  clear hR hly hy
                  go_wp2_with fail
                  go_roundw
                  case rel => exact ⟨x + 1, by omega, by go_num, by rw [show 5 * (x + 1) = 5 * x + 5 from by omega]; exact H.out⟩
                  case measure => simp [intOf]; omega
            · obtain rfl : x = 5 := by omega
              have H := Lib.hid hR
              clear hR hlt hx
              have W0 := Lib.hid H.out.toRc
              clear H
              generalize hM : mvB f (chD f) = M at W0
              have HM := Lib.hid hM
              clear hM
              go_wp2_with fail
              go_loopw [13] (fun i wr => ∃ x : Nat, x ≤ 5 ∧ i = .int .i64 x ∧ Rb (chx (5 * x) M (tht f 25)) M Bk w wr) (fun i _ => 5 - (intOf i).toNat)
              case atStart => exact ⟨0, by omega, rfl, W0.out⟩
              case round =>
                clear W0
                obtain ⟨x, hx, rfl, hR⟩ := hrel
                by_cases hlt : x < 5
                · have x5 : (x : Int) < 5 := by omega
                  have H := Lib.hid hR
                  clear hR
                  go_wp2_with fail
                  go_loopw [14] (fun i wr2 => ∃ y : Nat, y ≤ 5 ∧ i = .int .i64 y ∧ Rb (chx (5 * x + y) M (tht f 25)) M Bk w wr2) (fun i _ => 5 - (intOf i).toNat)
                  case atStart => exact ⟨0, by omega, rfl, H.out⟩
                  case round =>
                    clear H
                    obtain ⟨y, hy, rfl, hR⟩ := hrel
                    by_cases hly : y < 5
                    · have lx : x + 5 * y < 25 := by omega
                      have l25 : x < 25 := by omega
                      have g0 := hR.b.cell (i := x + 5 * y) lx
                      have g1 := hR.b.cell (i := (x + 1) % 5 + 5 * y) (ix_in x y 1 hly)
                      have g2 := hR.b.cell (i := (x + 2) % 5 + 5 * y) (ix_in x y 2 hly)
                      have z := hR.s.frozen (x + 5 * y)
                      have z' := hR.s.cell (i := x + 5 * y) lx
                      have H := Lib.hid hR
                      have y5 : (y : Int) < 5 := by omega
                      clear hR
                      go_wp2_with fail
                      obtain ⟨u1, u2, u3⟩ := xy_in x y hlt hly
                      obtain ⟨r1, r2⟩ := xy_nums x y hlt hly
                      obtain ⟨p1, p2, p3, p4, p5, p6⟩ := ad1 x l25
                      obtain ⟨q1, q2, q3, q4, q5, q6⟩ := ad2 x l25
                      obtain ⟨s1, s2, s3, s4⟩ : IntKind.i64.wrap (((x : Int) + 1) % 5 + 5 * (y : Int)) = ((x : Int) + 1) % 5 + 5 * (y : Int) ∧ (0 : Int) ≤ ((x : Int) + 1) % 5 + 5 * (y : Int) ∧ ((x : Int) + 1) % 5 + 5 * (y : Int) < 25 ∧ (((x : Int) + 1) % 5 + 5 * (y : Int)).toNat = (x + 1) % 5 + 5 * y := sm_nums x y hly 1
                      obtain ⟨t1, t2, t3, t4⟩ : IntKind.i64.wrap (((x : Int) + 2) % 5 + 5 * (y : Int)) = ((x : Int) + 2) % 5 + 5 * (y : Int) ∧ (0 : Int) ≤ ((x : Int) + 2) % 5 + 5 * (y : Int) ∧ ((x : Int) + 2) % 5 + 5 * (y : Int) < 25 ∧ (((x : Int) + 2) % 5 + 5 * (y : Int)).toNat = (x + 2) % 5 + 5 * y := sm_nums x y hly 2
                      go_still_tail 30, (by kernel_rfl)
                      clear r1 r2 p1 p2 p3 p4 p5 p6 q1 q2 q3 q4 q5 q6 s1 s2 s3 s4 t1 t2 t3 t4 g0 g1 g2
                      go_wp2_with fail
                      go_roundw
                      case rel =>
                        have q := H.out.four hlt hly
                        rw [← val4] at q
                        exact ⟨y + 1, by omega, by go_num, q⟩
                      case measure => simp [intOf]; omega
                    · obtain rfl : y = 5 := by omega
                      have H := Lib.hid hR
                      clear hR hly hy
                      go_wp2_with fail
                      go_roundw
                      case rel => exact ⟨x + 1, by omega, by go_num, by rw [show 5 * (x + 1) = 5 * x + 5 from by omega]; exact H.out⟩
                      case measure => simp [intOf]; omega
                · obtain rfl : x = 5 := by omega
                  have y0 := hR.word0
                  have z0 := hR.s.frozen 0
                  have q := hR.fin (c := c) HM.out
                  have xr := wd_xor (chi M 0) c
                  have U := Tryd.underlying23
                  clear hR hlt hx
                  go_wp2_with (first | (refine wpList_load_row rfl 23 _ rfl _ rfl _ _ _ _ q.s U rfl (info25 _) ?_) | (refine wpList_store_row rfl 23 _ _ rfl _ _ rfl rfl _ _ q.z (info25 _) (same_size _ _ _) (vec_one _ _) ?_))
                  exact bodyPost_ret (results_cell_row Tryd.results26 _ _ _ _ _ _ _ rfl (q.z.setRow _) U rfl (info25 _)) rfl ⟨rfl, below_setRow q.o (by omega) _⟩
end Go.Proofs.YtfjbchmneojgaaaDoor
