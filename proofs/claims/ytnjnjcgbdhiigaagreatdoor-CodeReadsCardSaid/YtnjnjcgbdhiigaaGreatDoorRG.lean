/- CodeReads. -/
import Derived.Test.YtnjnjcgbdhiigaaGreatDoorRF
import Derived.Test.YtnjnjcgbdhiigaaGreatDoorAid2
namespace Go.Proofs.YtnjnjcgbdhiigaaGreatDoor
open Go.RowKit Go.Shelf

set_option maxHeartbeats 16000000 in
theorem reads_any (s : ByteArray) (v : Value) (zs : List Int) (w : World) (hw : Lw w) (hv : IsZ w v zs) (hr : ∀ z ∈ zs, -9223372036854775808 ≤ z ∧ z ≤ 9223372036854775807) :
    Calls Tryz.prog 3 #[.string s, v] w fun e w' => e = .returned (.bool true) ∧ Below w.heap.size w w' := by
  have AW := Lib.hid (awake_any w hw)
  have HW := Lib.hid hw
  have HV := Lib.hid hv
  have HR := Lib.hid hr
  clear hw hr
  obtain ⟨p, c, rfl, _, _⟩ := hv
  obtain ⟨n, hn⟩ : ∃ n, n = zs.length := ⟨_, rfl⟩
  rw [← hn] at HV ⊢
  have HN := Lib.hid hn
  clear hn
  by_cases ls : 100 < s.size
  · have d : decide (100 < (s.size : Int)) = true := by simpa using (by omega : (100 : Int) < (s.size : Int))
    clear ls
    go_enter Tryz.func3, Tryz.ntmps3
    go_wp2_with fail
    refine AW.out.mono ?_; rintro e w1 ⟨rfl, b1⟩
    have B1 := Lib.hid b1
    clear b1
    go_wp2_with fail
    go_ret
    exact ⟨rfl, B1.out⟩
  have ds : decide (100 < (s.size : Int)) = false := by simpa using (by omega : (s.size : Int) ≤ 100)
  by_cases ll : 12 < n
  · have d : decide (12 < (n : Int)) = true := by simpa using (by omega : (12 : Int) < (n : Int))
    clear ls ll
    go_enter Tryz.func3, Tryz.ntmps3
    go_wp2_with fail
    refine AW.out.mono ?_; rintro e w1 ⟨rfl, b1⟩
    have B1 := Lib.hid b1
    clear b1
    go_wp2_with fail
    go_ret
    exact ⟨rfl, B1.out⟩
  have dl : decide (12 < (n : Int)) = false := by simpa using (by omega : (n : Int) ≤ 12)
  obtain ⟨xs, rfl⟩ : ∃ x : Txt, x.1 = s := ⟨⟨s, by omega⟩, rfl⟩
  clear ls ll
  obtain ⟨ev, ps, hl, P1, P2⟩ := parse_same xs
  obtain ⟨t, g, F1, F2⟩ := format_same zs HR.out
  obtain ⟨u, o, R1, R2⟩ := parent_same xs
  have P1 := Lib.hid P1
  have P2 := Lib.hid P2
  have F1 := Lib.hid F1
  have F2 := Lib.hid F2
  have R1 := Lib.hid R1
  have R2 := Lib.hid R2
  have HL := Lib.hid hl
  clear hl
  go_enter Tryz.func3, Tryz.ntmps3
  go_wp2_with fail
  refine AW.out.mono ?_; rintro e w1 ⟨rfl, b1⟩
  have B1 := Lib.hid b1
  clear b1 AW
  go_wp2_with fail
  refine (P1.out w1 (HW.out.below B1.out HW.out.n0)).mono ?_; rintro e w2 ⟨v2, rfl, i2, b2⟩
  have B2 := Lib.hid (B1.out.trans (b2.mono B1.out.size))
  obtain ⟨g2, c2, rfl, _, _⟩ := id i2
  have I2 := Lib.hid i2
  clear b2 P1 i2 B1
  go_wp2_with fail
  refine (P2.out w2).mono ?_; rintro e w3 ⟨v3, rfl, i3, b3⟩
  have B3 := Lib.hid (B2.out.trans (b3.mono B2.out.size))
  have J3 := Lib.hid (I2.out.below b3)
  obtain ⟨g3, c3, rfl, _, _⟩ := id i3
  have I3 := Lib.hid i3
  clear b3 P2 i3 B2 I2
  go_wp2_with fail
  refine (F1.out w3 _ (HW.out.below B3.out HW.out.n0) (HV.out.below B3.out)).mono ?_; rintro e w4 ⟨rfl, b4⟩
  have B4 := Lib.hid (B3.out.trans (b4.mono B3.out.size))
  have J4 := Lib.hid (J3.out.below b4)
  have I4 := Lib.hid (I3.out.below b4)
  clear b4 F1 B3 I3 J3
  go_wp2_with fail
  refine (F2.out w4 _ (HV.out.below B4.out)).mono ?_; rintro e w5 ⟨rfl, b5⟩
  have B5 := Lib.hid (B4.out.trans (b5.mono B4.out.size))
  have J5 := Lib.hid (J4.out.below b5)
  have I5 := Lib.hid (I4.out.below b5)
  clear b5 F2 B4 I4 J4
  go_wp2_with fail
  refine (R1.out w5 (HW.out.below B5.out HW.out.n0)).mono ?_; rintro e w6 ⟨rfl, b6⟩
  have B6 := Lib.hid (B5.out.trans (b6.mono B5.out.size))
  have J6 := Lib.hid (J5.out.below b6)
  have I6 := Lib.hid (I5.out.below b6)
  clear b6 R1 B5 I5 J5
  go_wp2_with fail
  refine (R2.out w6).mono ?_; rintro e w7 ⟨rfl, b7⟩
  have B7 := Lib.hid (B6.out.trans (b7.mono B6.out.size))
  have SM := Lib.hid (sameInts_any _ _ ps w7 (J6.out.below b7) (I6.out.below b7) (by have := HL.out; omega))
  clear b7 R2 B6 I6 J6
  go_wp2_with fail
  refine SM.out.mono ?_; rintro e w8 ⟨rfl, b8⟩
  have B8 := Lib.hid (B7.out.trans (b8.mono B7.out.size))
  clear b8 SM
  go_wp2_with fail
  go_ret
  exact ⟨rfl, B8.out⟩
end Go.Proofs.YtnjnjcgbdhiigaaGreatDoor
