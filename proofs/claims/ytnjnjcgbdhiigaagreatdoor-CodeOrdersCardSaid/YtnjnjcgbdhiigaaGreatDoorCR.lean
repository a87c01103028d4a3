/- The natural order: parts compared. -/
import Derived.Test.YtnjnjcgbdhiigaaGreatDoorCQ
namespace Go.Proofs.YtnjnjcgbdhiigaaGreatDoor
open Go.RowKit Go.Shelf

theorem empt {s : ByteArray} (h : s.size = 0) : s.toList = [] := by rw [ByteArray.toList_eq]; exact List.length_eq_zero_iff.1 (by rw [len_sz]; exact h)
theorem headD_sz {s : ByteArray} (h : 0 < s.size) : s.data.toList.headD 0 = s[0] := by rw [List.headD_eq_head?_getD, head_sz h]; rfl
theorem isDigit_same (c : UInt8) (w : World) : Calls Tryz.prog 82 #[.int .u8 c.toNat] w fun e w' => e = .returned (.bool (dg c)) ∧ w' = w := (isDigit_any c w).mono fun _ _ ⟨h, g⟩ => ⟨h, g.symm⟩
set_option maxHeartbeats 2000000 in
theorem cmpP_any (p q : ByteArray) (hp : p.size ≤ 1000) (hq : q.size ≤ 1000) (w : World) :
    Calls Tryz.prog 64 #[.string p, .string q] w fun e w' => e = .returned (.int .i64 (cmpP p.data.toList q.data.toList)) ∧ Below w.heap.size w w' := by
  have CI := Lib.hid (fun V => cmp_any (p.size : Int) (q.size : Int) V)
  have E0 : ∀ s : ByteArray, s.data.toList = [] ↔ s.size = 0 := fun s => by rw [← List.length_eq_zero_iff, len_sz]
  by_cases h0 : p.size = 0
  · have R : cmpP p.data.toList q.data.toList = cmpI (p.size : Int) (q.size : Int) := by unfold cmpP; rw [if_pos (Or.inl ((E0 p).2 h0)), len_sz, len_sz]
    have e1 := empt h0
    have e2 : p.toList.isEmpty = true := by rw [e1]; rfl
    rw [R]
    clear R E0 h0
    generalize cmpI (p.size : Int) (q.size : Int) = x at *
    go_enter Tryz.func64, Tryz.ntmps64
    go_wp2_with fail
    refine (CI.out _).mono ?_; rintro e w1 ⟨rfl, h⟩; obtain rfl : w = w1 := h.symm
    go_wp2_with fail
    go_ret
    exact ⟨rfl, Below.refl _ _⟩
  have p1 := nempty (by omega : 0 < p.size)
  have p2 : (!p.toList.isEmpty) = true := by simpa using p1
  have p3 : p.toList.isEmpty = false := by simpa using p1
  by_cases g0 : q.size = 0
  · have R : cmpP p.data.toList q.data.toList = cmpI (p.size : Int) (q.size : Int) := by unfold cmpP; rw [if_pos (Or.inr ((E0 q).2 g0)), len_sz, len_sz]
    have e1 := empt g0
    have e2 : q.toList.isEmpty = true := by rw [e1]; rfl
    rw [R]
    clear R E0 h0 g0
    generalize cmpI (p.size : Int) (q.size : Int) = x at *
    go_enter Tryz.func64, Tryz.ntmps64
    go_wp2_with fail
    refine (CI.out _).mono ?_; rintro e w1 ⟨rfl, h⟩; obtain rfl : w = w1 := h.symm
    go_wp2_with fail
    go_ret
    exact ⟨rfl, Below.refl _ _⟩
  have q1 := nempty (by omega : 0 < q.size)
  have q2 : (!q.toList.isEmpty) = true := by simpa using q1
  have q3 : q.toList.isEmpty = false := by simpa using q1
  have l1 : 0 < p.size := by omega
  have l2 : 0 < q.size := by omega
  have R : cmpP p.data.toList q.data.toList = if dg p[0] = true ∧ dg q[0] = true then cmpNum p.data.toList q.data.toList else if dg p[0] = true then -1 else if dg q[0] = true then 1 else Lib.compareBytes p.data.toList q.data.toList := by
    unfold cmpP dh
    rw [if_neg (fun h => by rw [E0, E0] at h; omega), headD_sz l1, headD_sz l2]
  have CN := Lib.hid (fun V => cmpNum_any p q hp hq V)
  have CS := Lib.hid (fun V => Any.strings_Compare Tryz.lays106 p q V)
  rw [R]
  clear R E0 h0 g0 CI
  cases d1 : dg p[0] <;> cases d2 : dg q[0]
  · rw [if_neg (by simp), if_neg (by simp), if_neg (by simp)]
    clear CN
    generalize Lib.compareBytes p.data.toList q.data.toList = x at *
    go_enter Tryz.func64, Tryz.ntmps64
    go_wp2_with fail
    go_quiet ((go_at_call 82; exact Calls.quiet_of_same (isDigit_same _ _)))
    go_wp2_with fail
    refine (CS.out _).mono ?_; rintro e w1 ⟨rfl, rfl⟩
    go_wp2_with fail
    go_ret
    exact ⟨rfl, below_drewN _ _⟩
  · rw [if_neg (by simp), if_neg (by simp), if_pos rfl]
    clear CN CS
    go_enter Tryz.func64, Tryz.ntmps64
    go_wp2_with fail
    go_quiet ((go_at_call 82; exact Calls.quiet_of_same (isDigit_same _ _)))
    go_wp2_with fail
    go_ret
    exact ⟨rfl, below_drewN _ _⟩
  · rw [if_neg (by simp), if_pos rfl]
    clear CN CS
    go_enter Tryz.func64, Tryz.ntmps64
    go_wp2_with fail
    go_quiet ((go_at_call 82; exact Calls.quiet_of_same (isDigit_same _ _)))
    go_wp2_with fail
    go_ret
    exact ⟨rfl, below_drewN _ _⟩
  · rw [if_pos ⟨rfl, rfl⟩]
    clear CS
    generalize cmpNum p.data.toList q.data.toList = x at *
    go_enter Tryz.func64, Tryz.ntmps64
    go_wp2_with fail
    go_quiet ((go_at_call 82; exact Calls.quiet_of_same (isDigit_same _ _)))
    go_wp2_with fail
    refine (CN.out _).mono ?_; rintro e w1 ⟨rfl, b1⟩
    have B1 := Lib.hid ((below_drewN _ _).trans (b1.mono (Nat.le_of_eq rfl)))
    go_wp2_with fail
    go_ret
    exact ⟨rfl, B1.out⟩
end Go.Proofs.YtnjnjcgbdhiigaaGreatDoor
