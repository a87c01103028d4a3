/- The example's list of versions: Check, checkWay, Has, way, Follow, version, Class. -/
import Derived.Test.YtfgpmghaebdhpaaGreatDoorFN
namespace Go.Proofs.YtfgpmghaebdhpaaGreatDoor
open Go.RowKit Go.Maps Go.Shelf

set_option maxRecDepth 100000 in
set_option maxHeartbeats 4000000 in
theorem Check_ex (G : Nat) (p : Option Addr) (w : World) (hw : Lw w) (hv : P1 w G p) :
    Calls Tryz.prog 40 #[.slice (some ⟨G, 0, none⟩) 1 1] w fun e w' => e = .returned (.tuple #[.int .i64 (-1), .int .i64 0]) ∧ Below w.heap.size w w' := by
  have FA := Lib.hid (fault_ex G p w hw hv)
  clear hw hv
  go_enter Tryz.func40, Tryz.ntmps40
  go_wp2_with fail
  go_loopw [11] (fun i wr => (i = .int .i64 0 ∧ wr = w) ∨ (i = .int .i64 1 ∧ Hid (Below w.heap.size w wr))) (fun i _ => 1 - (intOf i).toNat)
  case atStart => exact Or.inl ⟨rfl, rfl⟩
  case round =>
    rcases hrel with ⟨rfl, rfl⟩ | ⟨rfl, BL⟩
    · go_wp2_with fail
      refine FA.out.mono ?_
      rintro e w2 ⟨rfl, b2⟩
      have B2 := Lib.hid b2
      clear b2 FA
      go_wp2_with fail
      go_roundw
      case rel => exact Or.inr ⟨by go_num, B2⟩
      case measure => simp [intOf]
    · go_wp2_with fail
      go_ret2
      exact ⟨rfl, BL.out⟩
set_option maxRecDepth 100000 in
set_option maxHeartbeats 4000000 in
theorem checkWay_ex (G : Nat) (p : Option Addr) (w : World) (hw : Lw w) (hv : P1 w G p) :
    Calls Tryz.prog 34 #[.slice (some ⟨G, 0, none⟩) 1 1, .int .i64 1, .int .i64 1] w fun e w' => e = .returned (.int .i64 0) ∧ Below w.heap.size w w' := by
  have FA := Lib.hid (Check_ex G p w hw hv)
  clear hw hv
  go_enter Tryz.func34, Tryz.ntmps34
  go_wp2_with fail
  refine FA.out.mono ?_
  rintro e w2 ⟨rfl, b2⟩
  have B2 := Lib.hid b2
  clear b2 FA
  go_wp2_with fail
  go_ret
  exact ⟨rfl, B2.out⟩
set_option maxRecDepth 100000 in
set_option maxHeartbeats 4000000 in
theorem Has_ex (p : Option Addr) (w : World) (hv : IsCl w (.slice p 1 1) [cEx]) :
    Calls Tryz.prog 35 #[.agg #[.int .i64 1, .int .i64 0, .int .i64 50, .slice p 1 1, .slice none 0 0], .string ⟨#[49]⟩] w fun e w' => e = .returned (.bool true) ∧ Below w.heap.size w w' := by
  have B1 := (Below.refl w.heap.size w).alloc (Nat.le_refl _) (.cells #[.int .i64 1, .int .i64 0, .int .i64 50, .slice p 1 1, .slice none 0 0] 54)
  have s1 : (w.alloc (.cells #[.int .i64 1, .int .i64 0, .int .i64 50, .slice p 1 1, .slice none 0 0] 54)).heap.size = w.heap.size + 1 := by simp
  have B2 := B1.alloc B1.size (.cells #[.string ⟨#[49]⟩] 9)
  have C2 := nCell (w.alloc (.cells #[.int .i64 1, .int .i64 0, .int .i64 50, .slice p 1 1, .slice none 0 0] 54)) #[.string ⟨#[49]⟩] 9 0
  rw [s1] at C2
  have lt := nLt C2
  have K1 := Lib.hid (containsC_any 42 #[.pointer (some ⟨w.heap.size + 1, 0, none⟩)] (enters_of Tryz.func42 (by kernel_rfl) rfl) (fun x => x.co.1.toList == t1.1.toList) (.slice p 1 1) [cEx] _ (hv.below B2) (by simp) (fun V x _ hV => has1_any x t1 (w.heap.size + 1) V ((hV.cell (p := ⟨w.heap.size + 1, 0, none⟩) lt).trans C2)))
  rw [any2 (by exact beq_self_eq_true t1.1.toList)] at K1
  have BA := Lib.hid B2
  clear B1 s1 B2 C2 lt hv
  go_enter Tryz.func35, Tryz.ntmps35
  go_wp2_with fail
  refine K1.out.mono ?_
  rintro e w2 ⟨rfl, b2⟩
  have B3 := Lib.hid (BA.out.trans (b2.mono BA.out.size))
  clear b2 K1
  go_wp2_with fail
  go_ret
  exact ⟨rfl, B3.out⟩
set_option maxHeartbeats 2000000 in
theorem way_ex (l : Value) (w : World) :
    Calls Tryz.prog 36 #[l, .int .i64 1, .int .i64 1] w fun e w' => e = .returned (.func (.func 44) #[] #[.pointer (some ⟨w.heap.size, 0, none⟩)]) ∧ w' = w.alloc (.cells #[.slice none 0 0] 79) := by
  go_enter Tryz.func36, Tryz.ntmps36
  go_wp2_with fail
  go_loop [12] (fun i => i = .int .i64 0) (fun _ => 0)
  case atStart => rfl
  case round =>
    subst hrel
    go_wp2_with fail
    go_ret
    exact ⟨rfl, rfl⟩
set_option maxHeartbeats 2000000 in
theorem way1_ex (s : ByteArray) (b : Nat) (w : World) (hb : w.cell? ⟨b, 0, none⟩ = some (.slice none 0 0)) :
    Calls Tryz.prog 44 #[.string s, .pointer (some ⟨b, 0, none⟩)] w fun e w' => e = .returned (.string s) ∧ w' = w := by
  go_enter Tryz.func44, Tryz.ntmps44
  go_wp2_with fail
  go_loop [0, 8] (fun s0 i => s0 = .string s ∧ i = .int .i64 0) (fun _ _ => 0)
  case atStart => exact ⟨rfl, rfl⟩
  case round =>
    obtain ⟨rfl, rfl⟩ := hrel
    go_wp2_with fail
    go_ret
    exact ⟨rfl, rfl⟩
set_option maxRecDepth 100000 in
set_option maxHeartbeats 4000000 in
theorem Follow_ex (G : Nat) (p : Option Addr) (w : World) (hw : Lw w) (hv : P1 w G p) :
    Calls Tryz.prog 31 #[.slice (some ⟨G, 0, none⟩) 1 1, .int .i64 1, .int .i64 1, .string ⟨#[49]⟩] w fun e w' => e = .returned (.tuple #[.string ⟨#[49]⟩, .int .i64 0]) ∧ Below w.heap.size w w' := by
  have CW := Lib.hid (checkWay_ex G p w hw hv)
  have HV := Lib.hid hv
  clear hw hv
  go_enter Tryz.func31, Tryz.ntmps31
  go_wp2_with fail
  refine CW.out.mono ?_
  rintro e w2 ⟨rfl, b2⟩
  have B2 := Lib.hid b2
  obtain ⟨_, c0, c1, c2, c3, c4, cl⟩ := HV.out.below b2
  have HA := Lib.hid (Has_ex p w2 cl)
  clear b2 CW cl
  go_wp2_with fail
  refine HA.out.mono ?_
  rintro e w3 ⟨rfl, b3⟩
  have B3 := Lib.hid (B2.out.trans (b3.mono B2.out.size))
  have WY := Lib.hid (way_ex (.slice (some ⟨G, 0, none⟩) 1 1) w3)
  clear b3 HA c0 c1 c2 c3 c4
  go_wp2_with fail
  refine WY.out.mono ?_
  rintro e w4 ⟨rfl, h4⟩
  have B4 := Lib.hid (show Below w.heap.size w w4 by rw [h4]; exact B3.out.alloc B3.out.size _)
  have W1 := Lib.hid (way1_ex ⟨#[49]⟩ w3.heap.size w4 (by rw [h4]; exact nCell w3 _ _ 0))
  clear h4 WY
  go_wp2_with fail
  refine W1.out.mono ?_
  rintro e w5 ⟨rfl, rfl⟩
  clear W1
  go_wp2_with fail
  go_ret2
  exact ⟨rfl, B4.out⟩
end Go.Proofs.YtfgpmghaebdhpaaGreatDoor
