/- version and Class at the example. -/
import Derived.Test.YtfgpmghaebdhpaaGreatDoorFO
namespace Go.Proofs.YtfgpmghaebdhpaaGreatDoor
open Go.RowKit Go.Maps Go.Shelf

set_option maxHeartbeats 1000000 in
theorem has_ex (d : Int) (w : World) (h0 : 0 ≤ d) (h1 : d < 50) : Calls Tryz.prog 39 #[.agg #[.int .i64 0, .int .i64 50], .int .i64 d] w fun e w' => e = .returned (.bool true) ∧ Below w.heap.size w w' := by
  have D0 : decide (0 ≤ d) = true := decide_eq_true h0
  have D1 : decide (d < 50) = true := decide_eq_true h1
  go_enter Tryz.func39, Tryz.ntmps39
  go_wp2_with fail
  go_ret
  exact ⟨rfl, (Below.refl _ w).alloc (Nat.le_refl _) _⟩
set_option maxRecDepth 100000 in
set_option maxHeartbeats 2000000 in
theorem version1_ex (d : Int) (p : Option Addr) (b : Nat) (w : World) (hb : w.cell? ⟨b, 0, none⟩ = some (.int .i64 d)) (h0 : 0 ≤ d) (h1 : d < 50) :
    Calls Tryz.prog 38 #[.agg #[.int .i64 1, .int .i64 0, .int .i64 50, .slice p 1 1, .slice none 0 0], .pointer (some ⟨b, 0, none⟩)] w fun e w' => e = .returned (.bool true) ∧ Below w.heap.size w w' := by
  have B1 := Lib.hid ((Below.refl w.heap.size w).alloc (Nat.le_refl _) (.cells #[.int .i64 1, .int .i64 0, .int .i64 50, .slice p 1 1, .slice none 0 0] 54))
  have lt := nLt hb
  have HA := Lib.hid (has_ex d (w.alloc (.cells #[.int .i64 1, .int .i64 0, .int .i64 50, .slice p 1 1, .slice none 0 0] 54)) h0 h1)
  clear h0 h1
  go_enter Tryz.func38, Tryz.ntmps38
  go_wp2_with fail
  refine HA.out.mono ?_
  rintro e w2 ⟨rfl, b2⟩
  have B2 := Lib.hid (B1.out.trans (b2.mono B1.out.size))
  clear b2 HA
  go_wp2_with fail
  go_ret
  exact ⟨rfl, B2.out⟩
set_option maxRecDepth 100000 in
set_option maxHeartbeats 4000000 in
theorem idxP_ex (d : Int) (G : Nat) (p : Option Addr) (b : Nat) (w : World) (hv : P1 w G p) (hb : w.cell? ⟨b, 0, none⟩ = some (.int .i64 d)) (h0 : 0 ≤ d) (h1 : d < 50) :
    Calls Tryz.prog 37 #[.slice (some ⟨G, 0, none⟩) 1 1, .func (.func 38) #[] #[.pointer (some ⟨b, 0, none⟩)]] w fun e w' => e = .returned (.int .i64 0) ∧ Below w.heap.size w w' := by
  have V1 := Lib.hid (version1_ex d p b w hb h0 h1)
  obtain ⟨_, c0, c1, c2, c3, c4, _⟩ := hv
  clear h0 h1 hb
  go_enter Tryz.func37, Tryz.ntmps37
  go_wp2_with fail
  go_loopw [5, 8] (fun _ i wr => i = .int .i64 0 ∧ wr = w) (fun _ _ _ => 0)
  case atStart => exact ⟨rfl, rfl⟩
  case round =>
    obtain ⟨rfl, rfl⟩ := hrel
    go_wp2_with fail
    refine V1.out.mono ?_
    rintro e w2 ⟨rfl, b2⟩
    have B2 := Lib.hid b2
    clear b2 V1
    go_wp2_with fail
    go_ret
    exact ⟨rfl, B2.out⟩
set_option maxHeartbeats 2000000 in
theorem version_ex (d : Int) (G : Nat) (p : Option Addr) (w : World) (hv : P1 w G p) (h : decide (0 ≤ d ∧ d < 50) = true) :
    Calls Tryz.prog 32 #[.slice (some ⟨G, 0, none⟩) 1 1, .int .i64 d] w fun e w' => e = .returned (.int .i64 0) ∧ Below w.heap.size w w' := by
  have hd := of_decide_eq_true h
  have B1 := Lib.hid ((Below.refl w.heap.size w).alloc (Nat.le_refl _) (.cells #[.int .i64 d] 3))
  have IX := Lib.hid (idxP_ex d G p w.heap.size _ (hv.below B1.out) (nCell w #[.int .i64 d] 3 0) hd.1 hd.2)
  clear hv hd h
  go_enter Tryz.func32, Tryz.ntmps32
  go_wp2_with fail
  refine IX.out.mono ?_
  rintro e w2 ⟨rfl, b2⟩
  have B2 := Lib.hid (B1.out.trans (b2.mono B1.out.size))
  clear b2 IX
  go_wp2_with fail
  go_ret
  exact ⟨rfl, B2.out⟩
/-- The box of a file whose class has the code 1, opened on day 5. -/
abbrev Sc (w : World) (n : Nat) (W : World) : Prop :=
  W.cell? ⟨n, 2, none⟩ = some (.int .i64 5) ∧ W.cell? ⟨n, 4, none⟩ = some (.string ⟨#[49]⟩) ∧ (n < w.heap.size ∧ Below w.heap.size w W)
theorem Sc.keep {w : World} {n : Nat} {W : World} {f : FuncId} {args : Array Value} {v : Value} (hS : Sc w n W)
    (h : Calls Tryz.prog f args W fun e w' => e = .returned v ∧ Below W.heap.size W w') : Calls Tryz.prog f args W fun e w' => e = .returned v ∧ Sc w n w' := by
  refine h.mono fun _ _ ⟨he, hb⟩ => ⟨he, ?_⟩
  obtain ⟨a, b, e, g⟩ := hS
  have e' := Nat.lt_of_lt_of_le e g.size
  exact ⟨(hb.cell (p := ⟨n, 2, none⟩) e').trans a, (hb.cell (p := ⟨n, 4, none⟩) e').trans b, e, g.trans (hb.mono g.size)⟩
set_option maxRecDepth 100000 in
set_option maxHeartbeats 8000000 in
theorem Class_ex (G : Nat) (p : Option Addr) (v : Value) (q : Option Addr) (n c : Nat) (w : World) (hw : Lw w) (hv : P1 w G p) (hq : v = .slice q n c) :
    Calls Tryz.prog 19 #[.slice (some ⟨G, 0, none⟩) 1 1, .agg #[.int .i64 1, .int .i64 1, .int .i64 5, .int .i64 30, .string ⟨#[49]⟩, .string ⟨#[84]⟩, .int .i64 0, v], .int .i64 9] w fun e w' => e = .returned (.tuple #[.string ⟨#[49]⟩, .int .i64 0]) ∧ Below w.heap.size w w' := by
  subst hq
  have B1 := (Below.refl w.heap.size w).alloc (Nat.le_refl _) (.cells #[.int .i64 1, .int .i64 1, .int .i64 5, .int .i64 30, .string ⟨#[49]⟩, .string ⟨#[84]⟩, .int .i64 0, .slice q n c] 24)
  have C1 := nCell w #[.int .i64 1, .int .i64 1, .int .i64 5, .int .i64 30, .string ⟨#[49]⟩, .string ⟨#[84]⟩, .int .i64 0, .slice q n c] 24
  obtain ⟨w1, hw1⟩ : ∃ w1, w1 = w.alloc (.cells #[.int .i64 1, .int .i64 1, .int .i64 5, .int .i64 30, .string ⟨#[49]⟩, .string ⟨#[84]⟩, .int .i64 0, .slice q n c] 24) := ⟨_, rfl⟩
  rw [← hw1] at B1 C1
  have HP := Lib.hid (fun V (hV : Below w1.heap.size w1 V) => (hv.below B1).below hV)
  have HL := Lib.hid (fun V (hV : Below w1.heap.size w1 V) => (hw.below B1 hw.n0).below hV (Nat.le_trans hw.n0 B1.size))
  have S0 := Lib.hid (show Sc w1 w.heap.size w1.drew from ⟨C1 2, C1 4, nLt (C1 2), (Below.refl _ _).drew⟩)
  have BA := Lib.hid B1
  have HW := Lib.hid hw1
  clear B1 C1 hw1 hw hv
  go_enter Tryz.func19, Tryz.ntmps19
  go_upto_region 1 with (fail)
  have hw := HW.out
  rw [← hw]
  clear hw HW
  have hS0 := S0.out
  go_region_held3 (fun W => W.cell? ⟨w.heap.size, 2, none⟩ = some (.int .i64 5) ∧ W.cell? ⟨w.heap.size, 4, none⟩ = some (.string ⟨#[49]⟩) ∧ (w.heap.size < w1.heap.size ∧ Below w1.heap.size w1 W))
    (first | assumption | exact hS0)
    (first | (go_at_call 32; refine (Sc.keep (by assumption) (version_ex _ G p _ (HP.out _ (show Sc w1 w.heap.size _ by assumption).2.2.2) (by decide))).mono ?_; rintro e w6 ⟨rfl, hS6⟩) | (go_at_call 31; refine (Sc.keep (by assumption) (Follow_ex G p _ (HL.out _ (show Sc w1 w.heap.size _ by assumption).2.2.2) (HP.out _ (show Sc w1 w.heap.size _ by assumption).2.2.2))).mono ?_; rintro e w7 ⟨rfl, hS7⟩))
  go_wp2
  go_ret2
  exact ⟨rfl, BA.out.trans (hS7.2.2.2.mono BA.out.size)⟩
end Go.Proofs.YtfgpmghaebdhpaaGreatDoor
