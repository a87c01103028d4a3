/- awake: the walk. -/
import Derived.Test.YtnjnjcgbdhiigaaGreatDoorCX
namespace Go.Proofs.YtnjnjcgbdhiigaaGreatDoor
open Go.RowKit Go.Shelf

set_option maxRecDepth 100000 in
set_option maxHeartbeats 4000000 in
theorem awake_any (w : World) (hw : Lw w) : Calls Tryz.prog 7 #[] w fun e w' => e = .returned (.bool true) ∧ Below w.heap.size w w' := by
  have HW := Lib.hid hw
  have PX := Lib.hid (parseEx w hw)
  clear hw
  go_enter Tryz.func7, Tryz.ntmps7
  go_wp2_with fail
  refine PX.out.mono ?_; rintro e w1 ⟨v, rfl, iv, b1⟩
  have B1 := Lib.hid b1
  have W1 := HW.out.below b1 HW.out.n0
  have HI := Lib.hid iv
  have QX := Lib.hid (parentEx w1 W1)
  clear b1 PX W1 iv
  go_wp2_with fail
  refine QX.out.mono ?_; rintro e w2 ⟨rfl, b2⟩
  have I2 := Lib.hid (HI.out.below b2)
  have B2 := Lib.hid (B1.out.trans (b2.mono B1.out.size))
  have CX := Lib.hid (compareEx w2 (HW.out.below B2.out HW.out.n0))
  clear b2 QX B1 HI
  go_wp2_with fail
  refine CX.out.mono ?_; rintro e w3 ⟨rfl, b3⟩
  have I3 := Lib.hid (I2.out.below b3)
  have B3 := Lib.hid (B2.out.trans (b3.mono B2.out.size))
  have A3 := Lib.hid (show Below w3.heap.size w3 (w3.alloc (.cells #[.string ⟨#[51, 46, 49]⟩, .string ⟨#[51, 46, 51]⟩] 9)) from (Below.refl _ _).alloc (Nat.le_refl _) _)
  have B3a := Lib.hid (B3.out.trans (A3.out.mono B3.out.size))
  have FX := Lib.hid (freeEx _ _ (HW.out.below B3a.out HW.out.n0) (isT_ex w3))
  clear b3 CX B2 I2
  go_wp2_with fail
  refine FX.out.mono ?_; rintro e w4 ⟨rfl, b4⟩
  have I4 := Lib.hid ((I3.out.below A3.out).below b4)
  have B4 := Lib.hid (B3a.out.trans (b4.mono B3a.out.size))
  obtain ⟨g, off, c, hv, r⟩ := I4.out
  subst hv
  have EX := Lib.hid (equalEx _ w4 I4.out)
  clear b4 FX B3 B3a A3 I3 r
  have B4a := Lib.hid (B4.out.alloc B4.out.size (.cells #[.int .i64 3, .int .i64 12, .int .i64 1] 3))
  go_wp2_with fail
  refine EX.out.mono ?_; rintro e w5 ⟨rfl, b5⟩
  have B5 := Lib.hid (B4a.out.trans (b5.mono (by have := B4.out.size; omega)))
  have NX := Lib.hid (naturalEx w5)
  clear b5 EX B4 B4a I4
  go_wp2_with fail
  refine NX.out.mono ?_; rintro e w6 ⟨rfl, b6⟩
  have B6 := Lib.hid (B5.out.trans (b6.mono B5.out.size))
  have VX := Lib.hid (withinEx w6 (HW.out.below B6.out HW.out.n0))
  clear b6 NX B5
  go_wp2_with fail
  refine VX.out.mono ?_; rintro e w7 ⟨rfl, b7⟩
  have B7 := Lib.hid (B6.out.trans (b7.mono B6.out.size))
  have MX := Lib.hid (nameEx w7 (HW.out.below B7.out HW.out.n0))
  clear b7 VX B6
  go_wp2_with fail
  refine MX.out.mono ?_; rintro e w8 ⟨rfl, b8⟩
  have B8 := Lib.hid (B7.out.trans (b8.mono B7.out.size))
  clear b8 MX B7
  go_wp2_with fail
  go_ret
  exact ⟨rfl, B8.out⟩
end Go.Proofs.YtnjnjcgbdhiigaaGreatDoor
