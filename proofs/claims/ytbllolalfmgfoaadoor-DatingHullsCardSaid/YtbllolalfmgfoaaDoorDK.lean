/- The walk of DatingRelates. -/
import Derived.Test.YtbllolalfmgfoaaDoorDJ
import Derived.Deep.RegionHeld3
namespace Go.Proofs.YtbllolalfmgfoaaDoor
open Go.RowKit Go.Shelf

/-- Two datings in boxes. -/
def Pair (w : World) (n : Nat) (a b c d : Int) : Prop := Box2 w n (.int .i64 a) (.int .i64 b) ∧ Box2 w (n + 1) (.int .i64 c) (.int .i64 d)
theorem Pair.below {w w' : World} {n : Nat} {a b c d : Int} (h : Pair w n a b c d) (hb : Below w.heap.size w w') : Pair w' n a b c d := ⟨h.1.below hb, h.2.below hb⟩
theorem Pair.new (w : World) (a b c d : Int) (t u : TypeId) : Pair ((w.alloc (.cells #[.int .i64 a, .int .i64 b] t)).alloc (.cells #[.int .i64 c, .int .i64 d] u)) w.heap.size a b c d := by
  refine ⟨(Box2.new w _ _ t).alloc _, ?_⟩
  have h := Box2.new (w.alloc (.cells #[.int .i64 a, .int .i64 b] t)) (.int .i64 c) (.int .i64 d) u
  simpa using h
theorem Pair.cells {w : World} {n : Nat} {a b c d : Int} (h : Pair w n a b c d) :
    w.cell? ⟨n, 0, none⟩ = some (.int .i64 a) ∧ w.cell? ⟨n, 1, none⟩ = some (.int .i64 b) ∧ w.cell? ⟨n + 1, 0, none⟩ = some (.int .i64 c) ∧ w.cell? ⟨n + 1, 1, none⟩ = some (.int .i64 d) :=
  ⟨h.1.2.1, h.1.2.2.1, h.2.2.1, h.2.2.2.1⟩

/-- A dating's box, in a world that the walk has reached. -/
abbrev Sx (w : World) (n : Nat) (a b : Int) (W : World) : Prop :=
  W.cell? ⟨n, 0, none⟩ = some (.int .i64 a) ∧ W.cell? ⟨n, 1, none⟩ = some (.int .i64 b) ∧ (n < W.heap.size ∧ Below w.heap.size w W)
theorem Sx.keep {w : World} {n : Nat} {a b : Int} {W : World} {f : FuncId} {args : Array Value} {v : Value} (hS : Sx w n a b W)
    (h : Calls Tryd.prog f args W fun e w' => e = .returned v ∧ Below W.heap.size W w') : Calls Tryd.prog f args W fun e w' => e = .returned v ∧ Sx w n a b w' :=
  h.mono fun _ _ ⟨he, hb⟩ => ⟨he, (hb.cell (p := ⟨n, 0, none⟩) hS.2.2.1).trans hS.1, (hb.cell (p := ⟨n, 1, none⟩) hS.2.2.1).trans hS.2.1, Nat.lt_of_lt_of_le hS.2.2.1 hb.size, hS.2.2.2.trans (hb.mono hS.2.2.2.size)⟩

set_option maxHeartbeats 4000000 in
theorem DatingRelates_any (a b c d : Int) (w : World) (hT : Tab w) :
    Calls Tryd.prog 3 #[.agg #[.int .i64 a, .int .i64 b], .agg #[.int .i64 c, .int .i64 d]] w fun e w' => e = .returned (.bool true) ∧ Below w.heap.size w w' := by
  have X0 := Pair.new w a b c d 23 23
  have g0 : Below w.heap.size w ((w.alloc (.cells #[.int .i64 a, .int .i64 b] 23)).alloc (.cells #[.int .i64 c, .int .i64 d] 23)) := ((Below.refl _ w).alloc (Nat.le_refl _) _).alloc (by simp) _
  have C0 := Lib.hid (awake_any _ (hT.below g0))
  have C1 := Lib.hid (fun V => Before_any a b c d V)
  have C2 := Lib.hid (fun V => rBefore_any a b c d V)
  have C3 := Lib.hid (fun V => Same_any a b c d V)
  have C4 := Lib.hid (fun V => rSame_any a b c d V)
  have C5 := Lib.hid (fun V => Check_any a b V)
  have C6 := Lib.hid (fun V => rCheck_any a b V)
  generalize befV (a, b) (c, d) = p at *
  generalize befE (a, b) (c, d) = q at *
  generalize samV (a, b) (c, d) = r at *
  generalize chk (a, b) = s at *
  clear hT
  go_enter Tryd.func3, Tryd.ntmps3
  go_wp2_with fail
  generalize (w.alloc (.cells #[.int .i64 a, .int .i64 b] 23)).alloc (.cells #[.int .i64 c, .int .i64 d] 23) = W at X0 g0 C0 ⊢
  refine C0.out.mono ?_; rintro e w1 ⟨rfl, b1⟩
  have X1 := X0.below b1
  have g1 := g0.trans (b1.mono g0.size)
  clear X0 g0 C0 b1
  obtain ⟨k0, k1, k2, k3⟩ := X1.cells
  have X1 := Lib.hid X1
  go_wp2_with fail
  refine (C1.out _).mono ?_; rintro e w2 ⟨rfl, b2⟩
  have X2 := X1.out.below b2
  have g2 := g1.trans (b2.mono g1.size)
  clear X1 g1 C1 b2 k0 k1 k2 k3
  obtain ⟨k0, k1, k2, k3⟩ := X2.cells
  have X2 := Lib.hid X2
  go_wp2_with fail
  refine (C2.out _).mono ?_; rintro e w3 ⟨rfl, b3⟩
  have X3 := X2.out.below b3
  have g3 := g2.trans (b3.mono g2.size)
  clear X2 g2 C2 b3 k0 k1 k2 k3
  obtain ⟨k0, k1, k2, k3⟩ := X3.cells
  have X3 := Lib.hid X3
  go_wp2_with fail
  refine (C3.out _).mono ?_; rintro e w4 ⟨rfl, b4⟩
  have X4 := X3.out.below b4
  have g4 := g3.trans (b4.mono g3.size)
  clear X3 g3 C3 b4 k0 k1 k2 k3
  obtain ⟨k0, k1, k2, k3⟩ := X4.cells
  have X4 := Lib.hid X4
  go_wp2_with fail
  refine (C4.out _).mono ?_; rintro e w5 ⟨rfl, b5⟩
  have X5 := X4.out.below b5
  have g5 := g4.trans (b5.mono g4.size)
  clear X4 g4 C4 b5 k0 k1 k2 k3
  obtain ⟨k0, k1, k2, k3⟩ := X5.cells
  have X5 := Lib.hid X5
  go_wp2_with fail
  have hS0 : Sx w w.heap.size a b w5.drew := ⟨k0, k1, X5.out.1.1, g5.drew⟩
  clear X5 g5 k0 k1 k2 k3
  go_region_held3 (fun W => W.cell? ⟨w.heap.size, 0, none⟩ = some (.int .i64 a) ∧ W.cell? ⟨w.heap.size, 1, none⟩ = some (.int .i64 b) ∧ (w.heap.size < W.heap.size ∧ Below w.heap.size w W))
    (first | assumption | exact hS0)
    (first | (go_at_call 16; refine (Sx.keep (by assumption) (C5.out _)).mono ?_; rintro e w6 ⟨rfl, hS6⟩) | (go_at_call 17; refine (Sx.keep (by assumption) (C6.out _)).mono ?_; rintro e w7 ⟨rfl, hS7⟩))
  go_wp2
  go_ret
  exact ⟨rfl, hS7.2.2.2⟩
end Go.Proofs.YtbllolalfmgfoaaDoor
