/- Known; cmp.Compare, cmp.Or; which of two notes ends later. -/
import Derived.Test.YtfgpmghaebdhpaaGreatDoorFB
namespace Go.Proofs.YtfgpmghaebdhpaaGreatDoor
open Go.RowKit Go.Shelf

/-- A file, with the address of its notes. -/
structure Fl where
  id : Int
  of : Int
  op : Int
  cl : Int
  cs : ByteArray
  ti : ByteArray
  pt : Int
  ns : List Nt
  p : Option Addr
  c : Nat
def Fl.nv (x : Fl) : Value := .slice x.p x.ns.length x.c
def Fl.val (x : Fl) : Value := .agg #[.int .i64 x.id, .int .i64 x.of, .int .i64 x.op, .int .i64 x.cl, .string x.cs, .string x.ti, .int .i64 x.pt, x.nv]
set_option maxRecDepth 100000 in
set_option maxHeartbeats 4000000 in
theorem Known_any (x : Fl) (d : Int) (w : World) (hv : IsNt w x.nv x.ns) (hn : x.ns.length ≤ 1000) :
    Calls Tryz.prog 11 #[x.val, .int .i64 d] w fun e w' => ∃ u, e = .returned u ∧ IsNt w' u (x.ns.filter fun n => decide (n.r ≤ d)) ∧ Below w.heap.size w w' := by
  obtain ⟨id, of, op, cl, cs, ti, pt, ns, p, c⟩ := x
  replace hv : IsNt w (.slice p ns.length c) ns := hv
  replace hn : ns.length ≤ 1000 := hn
  show Calls Tryz.prog 11 #[.agg #[.int .i64 id, .int .i64 of, .int .i64 op, .int .i64 cl, .string cs, .string ti, .int .i64 pt, .slice p ns.length c], .int .i64 d] w fun e w' => ∃ u, e = .returned u ∧ IsNt w' u (ns.filter fun n => decide (n.r ≤ d)) ∧ Below w.heap.size w w'
  have B1 := (Below.refl w.heap.size w).alloc (Nat.le_refl _) (.cells #[.int .i64 id, .int .i64 of, .int .i64 op, .int .i64 cl, .string cs, .string ti, .int .i64 pt, .slice p ns.length c] 24)
  obtain ⟨w1, hw1⟩ : ∃ w1, w1 = w.alloc (.cells #[.int .i64 id, .int .i64 of, .int .i64 op, .int .i64 cl, .string cs, .string ti, .int .i64 pt, .slice p ns.length c] 24) := ⟨_, rfl⟩
  have s1 : w1.heap.size = w.heap.size + 1 := by rw [hw1]; simp
  rw [← hw1] at B1
  have B2 := Lib.hid (B1.alloc B1.size (.cells #[.int .i64 d] 3))
  have cd := nCell w1 #[.int .i64 d] 3 0
  have lt1 : w1.heap.size < (w1.alloc (.cells #[.int .i64 d] 3)).heap.size := by simp
  have SE := Lib.hid (selected_any 28 #[.pointer (some ⟨w1.heap.size, 0, none⟩)] (enters_of Tryz.func28 (by kernel_rfl) rfl) (fun n => decide (n.r ≤ d)) (.slice p ns.length c) ns (w1.alloc (.cells #[.int .i64 d] 3)) (hv.below B2.out) hn
    (fun V y hV => known1_any y d w1.heap.size V ((hV.cell (p := ⟨w1.heap.size, 0, none⟩) lt1).trans cd)))
  rw [s1, hw1] at SE
  rw [hw1] at B2
  clear cd lt1 B1 hv hn s1 hw1
  go_enter Tryz.func11, Tryz.ntmps11
  go_wp2_with fail
  refine SE.out.mono ?_; rintro e w2 ⟨u, rfl, hu, b2⟩
  have BB := Lib.hid (B2.out.trans (b2.mono B2.out.size))
  have HU := Lib.hid hu
  clear b2 hu SE
  go_wp2_with fail
  go_ret
  exact ⟨u, rfl, HU.out, BB.out⟩

/-- How two numbers compare. -/
def cmpZ (a b : Int) : Int := if a < b then -1 else if b < a then 1 else 0
set_option maxHeartbeats 1000000 in
theorem isNaN_any (a : Int) (w : World) : Calls Tryz.prog 33 #[.int .i64 a] w fun e w' => e = .returned (.bool false) ∧ w' = w := by
  go_enter Tryz.func33, Tryz.ntmps33
  go_wp2_with fail
  go_ret
  exact ⟨by simp, rfl⟩
end Go.Proofs.YtfgpmghaebdhpaaGreatDoor
