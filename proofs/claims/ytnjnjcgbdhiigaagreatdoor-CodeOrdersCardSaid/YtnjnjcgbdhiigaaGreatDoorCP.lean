/- The natural order: cut, parts compared. -/
import Derived.Test.YtnjnjcgbdhiigaaGreatDoorCO
namespace Go.Proofs.YtnjnjcgbdhiigaaGreatDoor
open Go.RowKit Go.Shelf

set_option maxHeartbeats 1000000 in
theorem isDigit_any (c : UInt8) (w : World) : Calls Tryz.prog 82 #[.int .u8 c.toNat] w fun e w' => e = .returned (.bool (dg c)) ∧ w = w' := by
  rw [dg_iff]
  by_cases a : (48 : Int) ≤ (c.toNat : Int)
  · by_cases b : (c.toNat : Int) ≤ 57
    · rw [decide_eq_true (by omega)]
      go_enter Tryz.func82, Tryz.ntmps82
      go_wp2
      go_ret
      exact ⟨by first | rfl | simp, rfl⟩
    · rw [decide_eq_false (by omega)]
      go_enter Tryz.func82, Tryz.ntmps82
      go_wp2
      go_ret
      exact ⟨by first | rfl | simp, rfl⟩
  · rw [decide_eq_false (by omega)]
    go_enter Tryz.func82, Tryz.ntmps82
    go_wp2
    go_ret
    exact ⟨by first | rfl | simp, rfl⟩

theorem drop_sz (s : ByteArray) : (⟨(s.data.toList.dropWhile dg).toArray⟩ : ByteArray).size = (s.data.toList.dropWhile dg).length := by
  show (s.data.toList.dropWhile dg).toArray.size = _
  simp
set_option maxHeartbeats 2000000 in
theorem cut_any (s : ByteArray) (hs : s.size ≤ 1000) (w : World) :
    Calls Tryz.prog 81 #[.string s] w fun e w' => e = .returned (.tuple #[.string (s.extract 0 (cutN s.data.toList)), .string (s.extract (cutN s.data.toList) s.size)]) ∧ Below w.heap.size w w' := by
  have TL := Lib.hid (trimL_any s hs w)
  have dl := dropWhile_le dg s.data.toList
  have ds := drop_sz s
  rw [len_sz] at dl
  have CN : cutN s.data.toList = if s.size - (s.data.toList.dropWhile dg).length = 0 ∧ s.data.toList ≠ [] then 1 else s.size - (s.data.toList.dropWhile dg).length := by unfold cutN; rw [len_sz]
  obtain ⟨t, ht⟩ : ∃ t : ByteArray, t = ⟨(s.data.toList.dropWhile dg).toArray⟩ := ⟨_, rfl⟩
  rw [← ht] at TL ds
  rw [← ds] at dl CN
  obtain ⟨k, hk⟩ : ∃ k, k = cutN s.data.toList := ⟨_, rfl⟩
  rw [← hk] at CN ⊢
  have kle : k ≤ s.size := by rw [hk, ← len_sz]; exact cutN_le _
  clear hk ht ds
  obtain ⟨m, hm⟩ : ∃ m, m = t.size := ⟨_, rfl⟩
  by_cases h0 : s.size = 0
  · have e0 : s.toList = [] := by rw [ByteArray.toList_eq]; exact List.length_eq_zero_iff.1 (by rw [len_sz]; exact h0)
    have e1 : s.toList.isEmpty = true := by rw [e0]; rfl
    have z1 : ((s.size : Int) - (t.size : Int) == 0) = true := by simp; omega
    have E := Lib.hid (show (s.size : Int) - (t.size : Int) = ((k : Nat) : Int) by omega)
    clear CN h0 e0
    go_enter Tryz.func81, Tryz.ntmps81
    go_wp2_with fail
    refine TL.out.mono ?_; rintro e w1 ⟨rfl, b1⟩
    have B1 := Lib.hid b1
    clear b1
    go_wp2_with fail
    rw [E.out]
    clear z1 e1 hm dl
    have k1 : (0 : Int) ≤ (k : Int) := by omega
    have k2 : (k : Int) ≤ (s.size : Int) := by omega
    go_quiet (fail)
    go_wp2
    go_ret2
    exact ⟨rfl, B1.out.trans (below_drewN _ _ |>.mono B1.out.size)⟩
  · have c1 := nempty (by omega : 0 < s.size)
    have c2 : (!s.toList.isEmpty) = true := by simpa using c1
    have c2' : s.toList.isEmpty = false := by simpa using c1
    have sn : s.data.toList ≠ [] := fun e => by have := congrArg List.length e; rw [len_sz, List.length_nil] at this; omega
    by_cases h1 : s.size = t.size
    · have k1 : k = 1 := by rw [CN, if_pos ⟨by omega, sn⟩]
      subst k1
      have z1 : ((s.size : Int) - (t.size : Int) == 0) = true := by simp; omega
      clear CN sn
      have k2 : (1 : Int) ≤ (s.size : Int) := by omega
      have K2 := Lib.hid k2
      clear h1 k2
      go_enter Tryz.func81, Tryz.ntmps81
      go_wp2_with fail
      refine TL.out.mono ?_; rintro e w1 ⟨rfl, b1⟩
      have B1 := Lib.hid b1
      clear b1
      go_wp2_with fail
      clear c1 c2 c2' z1 dl hm
      have k2 := K2.out
      go_quiet (fail)
      go_wp2
      go_ret2
      exact ⟨rfl, B1.out.trans (below_drewN _ _ |>.mono B1.out.size)⟩
    · have k1 : k = s.size - t.size := by rw [CN, if_neg (fun h => by omega)]
      have z1 : ((s.size : Int) - (t.size : Int) == 0) = false := by simp; omega
      have E := Lib.hid (show (s.size : Int) - (t.size : Int) = ((k : Nat) : Int) by omega)
      clear CN sn k1
      go_enter Tryz.func81, Tryz.ntmps81
      go_wp2_with fail
      refine TL.out.mono ?_; rintro e w1 ⟨rfl, b1⟩
      have B1 := Lib.hid b1
      clear b1
      go_wp2_with fail
      rw [E.out]
      clear c1 c2 c2' z1 dl hm
      have k1 : (0 : Int) ≤ (k : Int) := by omega
      have k2 : (k : Int) ≤ (s.size : Int) := by omega
      go_quiet (fail)
      go_wp2
      go_ret2
      exact ⟨rfl, B1.out.trans (below_drewN _ _ |>.mono B1.out.size)⟩
end Go.Proofs.YtnjnjcgbdhiigaaGreatDoor
