/- Trigger and State. -/
import Derived.Test.YtfgpmghaebdhpaaGreatDoorFE
namespace Go.Proofs.YtfgpmghaebdhpaaGreatDoor
open Go.RowKit Go.Shelf

/-- A box that holds a dating, and may be written. -/
structure Bx2 (w : World) (B : Nat) (f l : Int) : Prop where
  blk : w.heap[B]? = some (.cells #[.int .i64 f, .int .i64 l] 29 (0, 0))
theorem Bx2.lt {w : World} {B : Nat} {f l : Int} (h : Bx2 w B f l) : B < w.heap.size := (Array.getElem?_eq_some_iff.1 h.blk).1
theorem Bx2.c0 {w : World} {B : Nat} {f l : Int} (h : Bx2 w B f l) : w.cell? ⟨B, 0, none⟩ = some (.int .i64 f) := by simp [World.cell?, h.blk]
theorem Bx2.c1 {w : World} {B : Nat} {f l : Int} (h : Bx2 w B f l) : w.cell? ⟨B, 1, none⟩ = some (.int .i64 l) := by simp [World.cell?, h.blk]
theorem Bx2.below {w w' : World} {B : Nat} {f l : Int} (h : Bx2 w B f l) (hb : Below w.heap.size w w') : Bx2 w' B f l := ⟨(hb.block B h.lt).trans h.blk⟩
theorem Bx2.new (w : World) (f l : Int) : Bx2 (w.alloc (.cells #[.int .i64 f, .int .i64 l] 29)) w.heap.size f l := ⟨heap_alloc_new w _⟩
theorem Bx2.set {w : World} {B : Nat} {f l : Int} (h : Bx2 w B f l) (f2 l2 : Int) : Bx2 (w.setRow B #[.int .i64 f2, .int .i64 l2]) B f2 l2 := ⟨setRow_heap w B _ _ _ _ h.blk⟩
theorem szDat (a b : Value) : (Tryz.prog.info? 29).map (·.size) = some (#[a, b] : Array Value).size := (show (Tryz.prog.info? 29).map (·.size) = some 2 by kernel_rfl)
theorem one2 (i f : Int) : (#[Value.int .i64 i, .int .i64 f] : Array Value).all (·.oneCell') = true := by simp [Value.oneCell']
theorem size2 (a b a' b' : Value) : (#[a, b] : Array Value).size = (#[a', b'] : Array Value).size := by simp
theorem setRow_bel {w W : World} {B : Nat} (h : Below w.heap.size w W) (hB : w.heap.size ≤ B) (cs : Array Value) : Below w.heap.size w (W.setRow B cs) :=
  ⟨h.os, h.tape, h.output, by rw [setRow_size]; exact h.size, fun j hj => (setRow_other _ _ _ _ (by omega)).trans (h.block j hj)⟩

/-- What happened on a day, as it is known on another. -/
def hap (a d : Int) : (Int × Int) × Bool := if d < a then ((0, 0), false) else ((a, a), true)
def dv (r : (Int × Int) × Bool) : Value := .tuple #[.agg #[.int .i64 r.1.1, .int .i64 r.1.2], .bool r.2]

set_option maxHeartbeats 1000000 in
theorem happened_any (a d : Int) (w : World) : Calls Tryz.prog 20 #[.int .i64 a, .int .i64 d] w fun e w' => e = .returned (dv (hap a d)) ∧ Below w.heap.size w w' := by
  have X := Lib.hid (Bx2.new w 0 0)
  have KB := Lib.hid X.out.blk
  have B1 := Lib.hid ((Below.refl w.heap.size w).alloc (Nat.le_refl _) (.cells #[.int .i64 0, .int .i64 0] 29))
  by_cases h : d < a
  · have R := Lib.hid (show dv (hap a d) = .tuple #[.agg #[.int .i64 0, .int .i64 0], .bool false] by unfold hap; rw [if_pos h]; rfl)
    have B2 := Lib.hid (setRow_bel B1.out (Nat.le_refl _) #[.int .i64 0, .int .i64 0])
    obtain Y := X.out.set 0 0
    have r0 := Y.c0
    have r1 := Y.c1
    have HY := Lib.hid (And.intro r0 r1)
    clear r0 r1 Y
    go_enter Tryz.func20, Tryz.ntmps20
    go_wp2_with (refine wpList_store_row rfl 29 _ _ rfl _ _ rfl rfl _ _ KB.out (szDat _ _) (size2 _ _ _ _) (one2 _ _) ?_)
    obtain ⟨r0, r1⟩ := HY.out
    exact bodyPost_ret (v := .tuple #[.agg #[.int .i64 0, .int .i64 0], .bool false]) (by simp [results, Tryz.results20, go_sem, r0, r1]) rfl ⟨by rw [R.out], B2.out⟩
  · have R := Lib.hid (show dv (hap a d) = .tuple #[.agg #[.int .i64 a, .int .i64 a], .bool true] by unfold hap; rw [if_neg h]; rfl)
    have B2 := Lib.hid (setRow_bel B1.out (Nat.le_refl _) #[.int .i64 a, .int .i64 a])
    obtain Y := X.out.set a a
    have r0 := Y.c0
    have r1 := Y.c1
    have HY := Lib.hid (And.intro r0 r1)
    clear r0 r1 Y
    go_enter Tryz.func20, Tryz.ntmps20
    go_wp2_with (refine wpList_store_row rfl 29 _ _ rfl _ _ rfl rfl _ _ KB.out (szDat _ _) (size2 _ _ _ _) (one2 _ _) ?_)
    obtain ⟨r0, r1⟩ := HY.out
    exact bodyPost_ret (v := .tuple #[.agg #[.int .i64 a, .int .i64 a], .bool true]) (by simp [results, Tryz.results20, go_sem, r0, r1]) rfl ⟨by rw [R.out], B2.out⟩

set_option maxHeartbeats 1000000 in
theorem on_any (a d : Int) (w : World) : Calls Tryz.prog 27 #[.int .i64 a, .int .i64 d] w fun e w' => e = .returned (dv (hap a d)) ∧ Below w.heap.size w w' := by
  have X := Lib.hid (Bx2.new w 0 0)
  have KB := Lib.hid X.out.blk
  have B1 := Lib.hid ((Below.refl w.heap.size w).alloc (Nat.le_refl _) (.cells #[.int .i64 0, .int .i64 0] 29))
  by_cases h : d < a
  · have R := Lib.hid (show dv (hap a d) = .tuple #[.agg #[.int .i64 0, .int .i64 0], .bool false] by unfold hap; rw [if_pos h]; rfl)
    have B2 := Lib.hid (setRow_bel B1.out (Nat.le_refl _) #[.int .i64 0, .int .i64 0])
    obtain Y := X.out.set 0 0
    have r0 := Y.c0
    have r1 := Y.c1
    have HY := Lib.hid (And.intro r0 r1)
    clear r0 r1 Y
    go_enter Tryz.func27, Tryz.ntmps27
    go_wp2_with (refine wpList_store_row rfl 29 _ _ rfl _ _ rfl rfl _ _ KB.out (szDat _ _) (size2 _ _ _ _) (one2 _ _) ?_)
    obtain ⟨r0, r1⟩ := HY.out
    exact bodyPost_ret (v := .tuple #[.agg #[.int .i64 0, .int .i64 0], .bool false]) (by simp [results, Tryz.results27, go_sem, r0, r1]) rfl ⟨by rw [R.out], B2.out⟩
  · have R := Lib.hid (show dv (hap a d) = .tuple #[.agg #[.int .i64 a, .int .i64 a], .bool true] by unfold hap; rw [if_neg h]; rfl)
    have B2 := Lib.hid (setRow_bel B1.out (Nat.le_refl _) #[.int .i64 a, .int .i64 a])
    obtain Y := X.out.set a a
    have r0 := Y.c0
    have r1 := Y.c1
    have HY := Lib.hid (And.intro r0 r1)
    clear r0 r1 Y
    go_enter Tryz.func27, Tryz.ntmps27
    go_wp2_with (refine wpList_store_row rfl 29 _ _ rfl _ _ rfl rfl _ _ KB.out (szDat _ _) (size2 _ _ _ _) (one2 _ _) ?_)
    obtain ⟨r0, r1⟩ := HY.out
    exact bodyPost_ret (v := .tuple #[.agg #[.int .i64 a, .int .i64 a], .bool true]) (by simp [results, Tryz.results27, go_sem, r0, r1]) rfl ⟨by rw [R.out], B2.out⟩

/-- Whether a file is not opened yet, open or closed. -/
def stZ (x : Fl) (d : Int) : Int := if d < x.op then 0 else if d < x.cl then 1 else 2

set_option maxRecDepth 100000 in
set_option maxHeartbeats 2000000 in
theorem State_any (x : Fl) (d : Int) (w : World) : Calls Tryz.prog 13 #[x.val, .int .i64 d] w fun e w' => e = .returned (.int .i64 (stZ x d)) ∧ Below w.heap.size w w' := by
  obtain ⟨id, of, op, cl, cs, ti, pt, ns, p, c⟩ := x
  show Calls Tryz.prog 13 #[.agg #[.int .i64 id, .int .i64 of, .int .i64 op, .int .i64 cl, .string cs, .string ti, .int .i64 pt, .slice p ns.length c], .int .i64 d] w fun e w' => e = .returned (.int .i64 (if d < op then 0 else if d < cl then 1 else 2)) ∧ Below w.heap.size w w'
  have B1 := Lib.hid ((Below.refl w.heap.size w).alloc (Nat.le_refl _) (.cells #[.int .i64 id, .int .i64 of, .int .i64 op, .int .i64 cl, .string cs, .string ti, .int .i64 pt, .slice p ns.length c] 24))
  by_cases h : d < op
  · rw [if_pos h]
    have D : decide (d < op) = true := decide_eq_true h
    clear h
    go_enter Tryz.func13, Tryz.ntmps13
    go_wp2_with fail
    go_ret
    exact ⟨rfl, B1.out⟩
  · rw [if_neg h]
    have D : decide (d < op) = false := decide_eq_false h
    clear h
    by_cases g : d < cl
    · rw [if_pos g]
      have D2 : decide (d < cl) = true := decide_eq_true g
      clear g
      go_enter Tryz.func13, Tryz.ntmps13
      go_wp2_with fail
      go_ret
      exact ⟨rfl, B1.out⟩
    · rw [if_neg g]
      have D2 : decide (d < cl) = false := decide_eq_false g
      clear g
      go_enter Tryz.func13, Tryz.ntmps13
      go_wp2_with fail
      go_ret
      exact ⟨rfl, B1.out⟩

set_option maxRecDepth 100000 in
set_option maxHeartbeats 2000000 in
theorem rState_any (x : Fl) (d : Int) (w : World) : Calls Tryz.prog 14 #[x.val, .int .i64 d] w fun e w' => e = .returned (.int .i64 (stZ x d)) ∧ Below w.heap.size w w' := by
  obtain ⟨id, of, op, cl, cs, ti, pt, ns, p, c⟩ := x
  show Calls Tryz.prog 14 #[.agg #[.int .i64 id, .int .i64 of, .int .i64 op, .int .i64 cl, .string cs, .string ti, .int .i64 pt, .slice p ns.length c], .int .i64 d] w fun e w' => e = .returned (.int .i64 (if d < op then 0 else if d < cl then 1 else 2)) ∧ Below w.heap.size w w'
  have B1 := Lib.hid ((Below.refl w.heap.size w).alloc (Nat.le_refl _) (.cells #[.int .i64 id, .int .i64 of, .int .i64 op, .int .i64 cl, .string cs, .string ti, .int .i64 pt, .slice p ns.length c] 24))
  by_cases h : d < op
  · rw [if_pos h]
    have D : decide (d < op) = true := decide_eq_true h
    clear h
    go_enter Tryz.func14, Tryz.ntmps14
    go_wp2_with fail
    go_ret
    exact ⟨rfl, B1.out⟩
  · rw [if_neg h]
    have D : decide (d < op) = false := decide_eq_false h
    clear h
    by_cases g : d < cl
    · rw [if_pos g]
      have D2 : decide (d < cl) = true := decide_eq_true g
      clear g
      go_enter Tryz.func14, Tryz.ntmps14
      go_wp2_with fail
      go_ret
      exact ⟨rfl, B1.out⟩
    · rw [if_neg g]
      have D2 : decide (d < cl) = false := decide_eq_false g
      clear g
      go_enter Tryz.func14, Tryz.ntmps14
      go_wp2_with fail
      go_ret
      exact ⟨rfl, B1.out⟩
end Go.Proofs.YtfgpmghaebdhpaaGreatDoor
