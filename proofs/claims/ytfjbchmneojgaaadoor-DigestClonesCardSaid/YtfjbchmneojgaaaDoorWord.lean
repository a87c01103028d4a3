/- Words of 64 bits as the program's numbers, and rows of words in memory. -/
import Derived.Test.YtfjbchmneojgaaaDoorRows
import Derived.WalkKit
import Derived.WalkSpells
import Derived.WalkLawsBesides
import Derived.Handy
import Derived.Laws.CopyOwn
import Derived.Lib.Hide
namespace Go.Proofs.YtfjbchmneojgaaaDoor
open Go.RowKit

/-- The number of a word. -/
def wd (x : BitVec 64) : Int := (x.toNat : Int)
theorem wd_bd (x : BitVec 64) : 0 ≤ wd x ∧ wd x < 18446744073709551616 := by unfold wd; have := x.isLt; omega
theorem wd_inj {x y : BitVec 64} (h : wd x = wd y) : x = y := by
  unfold wd at h; exact BitVec.eq_of_toNat_eq (by omega)
theorem wd_eq (x y : BitVec 64) : (wd x == wd y) = (x == y) := by
  rw [Bool.eq_iff_iff]; simp only [beq_iff_eq]; exact ⟨wd_inj, fun h => by rw [h]⟩
theorem wd_xor (x y : BitVec 64) : bits .xor .u64 (wd x) (wd y) = wd (x ^^^ y) := by
  unfold wd; rw [u64_xor_nat _ _ x.isLt y.isLt, BitVec.toNat_xor]
theorem wd_and (x y : BitVec 64) : bits .and .u64 (wd x) (wd y) = wd (x &&& y) := by
  unfold wd; rw [u64_and_nat _ _ x.isLt y.isLt, BitVec.toNat_and]
theorem wd_or (x y : BitVec 64) : bits .or .u64 (wd x) (wd y) = wd (x ||| y) := by
  unfold wd; rw [u64_or_nat _ _ x.isLt y.isLt, BitVec.toNat_or]
theorem wd_of {n : Int} (h0 : 0 ≤ n) (h1 : n < 18446744073709551616) : wd (BitVec.ofInt 64 n) = n := by
  unfold wd; rw [BitVec.toNat_ofInt]; omega

/-- A row of n words. -/
def vec (n : Nat) (f : Nat → BitVec 64) : Array Value := ((List.range n).map fun i => Value.int .u64 (wd (f i))).toArray
theorem vec_size (n : Nat) (f : Nat → BitVec 64) : (vec n f).size = n := by simp [vec]
theorem vec_get {n : Nat} (f : Nat → BitVec 64) {i : Nat} (h : i < n) : (vec n f)[i]? = some (.int .u64 (wd (f i))) := by
  simp [vec, h]
def upd (f : Nat → BitVec 64) (i : Nat) (v : BitVec 64) : Nat → BitVec 64 := fun j => if j = i then v else f j
theorem vec_set (n : Nat) (f : Nat → BitVec 64) (i : Nat) (v : BitVec 64) : (vec n f).setIfInBounds i (.int .u64 (wd v)) = vec n (upd f i v) := by
  apply Array.ext_getElem?
  intro j
  simp only [Array.getElem?_setIfInBounds, vec_size]
  by_cases h : i = j
  · subst h
    by_cases hn : i < n
    · rw [if_pos rfl, if_pos hn, vec_get (upd f i v) hn]; simp [upd]
    · rw [if_pos rfl, if_neg hn]; simp [hn, vec]
  · rw [if_neg h]
    by_cases hn : j < n
    · rw [vec_get _ hn, vec_get _ hn]; simp [upd, Ne.symm h]
    · simp [hn, vec]
theorem vec_congr {n : Nat} {f g : Nat → BitVec 64} (h : ∀ i, i < n → f i = g i) : vec n f = vec n g := by
  unfold vec
  congr 1
  apply List.map_congr_left
  intro i hi
  rw [h i (List.mem_range.1 hi)]
theorem vec_inj {n : Nat} {f g : Nat → BitVec 64} (h : vec n f = vec n g) : ∀ i, i < n → f i = g i := by
  intro i hi
  have a := vec_get f hi
  rw [h, vec_get g hi] at a
  simp at a
  exact (wd_inj a).symm

/-- Block g is this row, and none of it is frozen. -/
def Row (w : World) (g : Nat) (t : TypeId) (cs : Array Value) : Prop := w.heap[g]? = some (.cells cs t (0, 0))
theorem Row.lt {w : World} {g t : Nat} {cs : Array Value} (h : Row w g t cs) : g < w.heap.size := by
  rcases Nat.lt_or_ge g w.heap.size with l | l
  · exact l
  · unfold Row at h; rw [Array.getElem?_eq_none l] at h; cases h
theorem Row.cell {w : World} {g t : Nat} {n : Nat} {f : Nat → BitVec 64} (h : Row w g t (vec n f)) {i : Nat} (hi : i < n) : w.cell? ⟨g, i, none⟩ = some (.int .u64 (wd (f i))) := by
  rw [cell_of_row w g i _ t (0, 0) h, vec_get f hi]
theorem Row.frozen {w : World} {g t : Nat} {cs : Array Value} (h : Row w g t cs) (i : Nat) : w.frozen? ⟨g, i, none⟩ = false := frozen_of_row w g i cs t h
theorem Row.new (w : World) (t : TypeId) (cs : Array Value) : Row (w.alloc (.cells cs t)) w.heap.size t cs := heap_alloc_new w _
theorem Row.alloc {w : World} {g t : Nat} {cs : Array Value} (h : Row w g t cs) (o : Obj) : Row (w.alloc o) g t cs := (Below.heap_alloc w o g h.lt).trans h
theorem Row.drew {w : World} {g t : Nat} {cs : Array Value} (h : Row w g t cs) : Row w.drew g t cs := h
theorem Row.set {w : World} {g t : Nat} {n : Nat} {f : Nat → BitVec 64} (h : Row w g t (vec n f)) (i : Nat) (v : BitVec 64) : Row (w.setCell ⟨g, i, none⟩ (.int .u64 (wd v))) g t (vec n (upd f i v)) := by
  unfold Row at h ⊢
  rw [heap_setCell_same w g i _ t _ h, vec_set]
theorem Row.far {w : World} {g t : Nat} {cs : Array Value} (h : Row w g t cs) {p : Addr} (hp : g ≠ p.block) (u : Value) : Row (w.setCell p u) g t cs := (Below.heap_setCell w p u g hp).trans h
theorem Row.below {w w' : World} {g t B : Nat} {cs : Array Value} (h : Row w g t cs) (hb : Below B w w') (hg : g < B) : Row w' g t cs := (hb.block g hg).trans h
theorem vec_one (n : Nat) (f : Nat → BitVec 64) : (vec n f).all (·.oneCell') = true := by
  rw [Array.all_eq_true_iff_forall_mem]
  intro v hv
  simp only [vec, List.mem_toArray, List.mem_map] at hv
  obtain ⟨i, _, rfl⟩ := hv
  rfl
theorem Row.setRow {w : World} {g t : Nat} {old : Array Value} (h : Row w g t old) (cs : Array Value) : Row (w.setRow g cs) g t cs := setRow_heap w g old cs t (0, 0) h
theorem Row.setFar {w : World} {g t k : Nat} {cs : Array Value} (h : Row w g t cs) (hk : g ≠ k) (ds : Array Value) : Row (w.setRow k ds) g t cs := (setRow_other w k g ds hk).trans h
theorem Row.new1 (w : World) (t : TypeId) (cs : Array Value) {g : Nat} (h : g = w.heap.size) : Row (w.alloc (.cells cs t)) g t cs := by subst h; exact Row.new w t cs
theorem info25 (f : Nat → BitVec 64) : (Tryd.prog.info? 23).map (·.size) = some (vec 25 f).size := by rw [vec_size]; kernel_rfl
theorem info5 (f : Nat → BitVec 64) : (Tryd.prog.info? 58).map (·.size) = some (vec 5 f).size := by rw [vec_size]; kernel_rfl
theorem same_size (n : Nat) (f g : Nat → BitVec 64) : (vec n f).size = (vec n g).size := by rw [vec_size, vec_size]
end Go.Proofs.YtfjbchmneojgaaaDoor
