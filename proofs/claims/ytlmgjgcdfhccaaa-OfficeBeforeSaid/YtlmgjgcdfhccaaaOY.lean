/- awake. -/
import Derived.Test.YtlmgjgcdfhccaaaOX
namespace Go.Proofs.Ytlmgjgcdfhccaaa
open Go.RowKit Go.Maps Go.Shelf

theorem len_ex (a b : Option Addr) : (exO a b).length ≤ 1000 := by show 4 ≤ 1000; decide
theorem num_ex (a b : Option Addr) : NumO (exO a b) := by
  intro o ho
  have ho : o = ⟨1, xA, 0, 100, [2, 3], a, 2⟩ ∨ o = ⟨2, xB, 100, 200, [4], b, 1⟩ ∨ o = ⟨3, xC, 100, 1048576, [], none, 0⟩ ∨ o = ⟨4, xD, 200, 1048576, [], none, 0⟩ := by simpa [exO] using ho
  rcases ho with rfl | rfl | rfl | rfl <;> (refine ⟨?_, ?_, ?_, ?_, ?_⟩ <;> simp [W64])
theorem CV.one {os : List Of} {id day : Int} {L M : List Int} (h : CV os id day L) (g : CV os id day M) : L = M := by
  rcases h with ⟨h1, i, h2, h3⟩ | ⟨h1, h2⟩
  · rcases g with ⟨_, j, g2, g3⟩ | ⟨g1, _⟩
    · rw [h2] at g2; cases g2; exact h3.one g3
    · rcases g1 with g1 | g1
      · exact absurd h1 g1
      · rw [h2] at g1; cases g1
  · rcases g with ⟨g1, j, g2, _⟩ | ⟨_, g2⟩
    · rcases h1 with h1 | h1
      · exact absurd g1 h1
      · rw [h1] at g2; cases g2
    · rw [h2, g2]
theorem hrF_eq {os : List Of} {id day : Int} {L : List Int} (h : CV os id day L) : hrF os id day = hrT os day L := by
  unfold hrF
  rw [(chF_spec os id day).one h]
theorem ch3 (a b : Option Addr) (d : Int) (h : hasB 100 1048576 d = true) : Ch (exO a b) d 2 [3] := .stop (o := ⟨3, xC, 100, 1048576, [], none, 0⟩) rfl (Or.inl h)
theorem cvx1 (a b : Option Addr) : CV (exO a b) 1 150 [1, 2] :=
  Or.inl ⟨by rw [ck_ex], 0, by kernel_rfl, .step (o := ⟨1, xA, 0, 100, [2, 3], a, 2⟩) (j := 1) rfl (by kernel_rfl) rfl (by kernel_rfl) (.stop (o := ⟨2, xB, 100, 200, [4], b, 1⟩) rfl (Or.inl (by kernel_rfl)))⟩
theorem ch4 (a b : Option Addr) : Ch (exO a b) 250 3 [4] := .stop (o := ⟨4, xD, 200, 1048576, [], none, 0⟩) rfl (Or.inl (by decide))
theorem ch2 (a b : Option Addr) : Ch (exO a b) 250 1 [2, 4] := .step (o := ⟨2, xB, 100, 200, [4], b, 1⟩) (j := 3) rfl (by kernel_rfl) rfl (by kernel_rfl) (ch4 a b)
theorem ch1 (a b : Option Addr) : Ch (exO a b) 250 0 [1, 2, 4] := .step (o := ⟨1, xA, 0, 100, [2, 3], a, 2⟩) (j := 1) rfl (by kernel_rfl) rfl (by kernel_rfl) (ch2 a b)
theorem cv1 (a b : Option Addr) : CV (exO a b) 1 250 [1, 2, 4] := Or.inl ⟨by rw [ck_ex], 0, by kernel_rfl, ch1 a b⟩
theorem cv2 (a b : Option Addr) : CV (exO a b) 2 250 [2, 4] := Or.inl ⟨by rw [ck_ex], 1, by kernel_rfl, ch2 a b⟩
theorem cv3 (a b : Option Addr) : CV (exO a b) 3 250 [3] := Or.inl ⟨by rw [ck_ex], 2, by kernel_rfl, ch3 a b 250 (by decide)⟩
theorem cv4 (a b : Option Addr) : CV (exO a b) 4 250 [4] := Or.inl ⟨by rw [ck_ex], 3, by kernel_rfl, ch4 a b⟩
theorem hrx (a b : Option Addr) : hrT (exO a b) 250 [1, 2, 4] = (4, true) := by kernel_rfl
theorem dut_ex (a b : Option Addr) : dutL (exO a b) 4 250 = [1, 2, 4] := by
  unfold dutL
  rw [if_pos ⟨by rw [ck_ex], by rw [show ixO (exO a b) 4 = some 3 by kernel_rfl]; simp⟩]
  have d1 : isD (exO a b) 4 250 ⟨1, xA, 0, 100, [2, 3], a, 2⟩ = true := by unfold isD; rw [hrF_eq (cv1 a b), hrx]; rfl
  have d2 : isD (exO a b) 4 250 ⟨2, xB, 100, 200, [4], b, 1⟩ = true := by unfold isD; rw [hrF_eq (cv2 a b), show hrT (exO a b) 250 [2, 4] = (4, true) by kernel_rfl]; rfl
  have d3 : isD (exO a b) 4 250 ⟨3, xC, 100, 1048576, [], none, 0⟩ = false := by unfold isD; rw [hrF_eq (cv3 a b), show hrT (exO a b) 250 [3] = (3, true) by kernel_rfl]; rfl
  have d4 : isD (exO a b) 4 250 ⟨4, xD, 200, 1048576, [], none, 0⟩ = true := by unfold isD; rw [hrF_eq (cv4 a b), show hrT (exO a b) 250 [4] = (4, true) by kernel_rfl]; rfl
  generalize isD (exO a b) 4 250 = D at d1 d2 d3 d4
  simp [exO, d1, d2, d3, d4]
theorem mem4 {a b : Option Addr} {o : Of} (ho : o ∈ exO a b) : o = ⟨1, xA, 0, 100, [2, 3], a, 2⟩ ∨ o = ⟨2, xB, 100, 200, [4], b, 1⟩ ∨ o = ⟨3, xC, 100, 1048576, [], none, 0⟩ ∨ o = ⟨4, xD, 200, 1048576, [], none, 0⟩ := by simpa [exO] using ho
theorem rv_ex (a b : Option Addr) : RV (exO a b) 1 [1, 2, 3, 4] := by
  refine Or.inl ⟨by rw [ck_ex], by rw [show ixO (exO a b) 1 = some 0 by kernel_rfl]; simp, by decide, fun x => ⟨fun h => ?_, fun h => ?_⟩⟩
  · have r1 : Rc (exO a b) 1 1 := .refl
    have r2 : Rc (exO a b) 1 2 := r1.step ⟨0, _, by kernel_rfl, rfl, by simp⟩
    have r3 : Rc (exO a b) 1 3 := r1.step ⟨0, _, by kernel_rfl, rfl, by simp⟩
    have r4 : Rc (exO a b) 1 4 := r2.step ⟨1, _, by kernel_rfl, rfl, by simp⟩
    have h : x = 1 ∨ x = 2 ∨ x = 3 ∨ x = 4 := by simpa using h
    rcases h with rfl | rfl | rfl | rfl
    · exact r1
    · exact r2
    · exact r3
    · exact r4
  · cases h with
    | refl => decide
    | step _ e =>
      obtain ⟨j, o, _, ho, hz⟩ := e
      rcases mem4 (List.mem_of_getElem? ho) with rfl | rfl | rfl | rfl
      · have : x = 2 ∨ x = 3 := by simpa using hz
        rcases this with rfl | rfl <;> decide
      · have : x = 4 := by simpa using hz
        subst this; decide
      · simp at hz
      · simp at hz
theorem equal_any (v u : Value) (xs ys : List Int) (w : World) (hv : IsZ w v xs) (hu : IsZ w u ys) (hx : 0 < xs.length) (hy : 0 < ys.length) (bx : xs.length ≤ 1000000) (by_ : ys.length ≤ 1000000) :
    Calls Try.prog 27 #[v, u] w fun e w' => e = .returned (.bool (xs == ys)) ∧ Below w.heap.size w w' := by
  obtain ⟨p, c, rfl, hc, h1⟩ := hv
  obtain ⟨q, d, rfl, hd, h2⟩ := hu
  obtain ⟨g, off, rfl, _, c1⟩ := h1 hx
  obtain ⟨g2, off2, rfl, _, c2⟩ := h2 hy
  refine (Any.slices_Equal_int Try.lays111 g off xs.length c g2 off2 ys.length d xs ys w (Nat.le_refl _) (Nat.le_refl _) (by omega) (by omega) (fun j hj => by rw [c1 j hj]; simp [hj]) (fun j hj => by rw [c2 j hj]; simp [hj])).mono ?_
  rintro e w' ⟨rfl, k, rfl⟩
  rw [List.take_of_length_le (Nat.le_refl _), List.take_of_length_le (Nat.le_refl _)]
  exact ⟨rfl, below_drewN _ _⟩
theorem isZ_new (w : World) (ys : List Int) : IsZ (w.alloc (.cells (ys.map encZ).toArray 3)) (.slice (some ⟨w.heap.size, 0, none⟩) ys.length ys.length) ys := by
  refine ⟨_, _, rfl, Nat.le_refl _, fun _ => ⟨_, _, rfl, by simp, fun j hj => ?_⟩⟩
  rw [Nat.zero_add, cell_new]
  simp [hj, encZ]
theorem equalEx (v : Value) (ys : List Int) (w : World) (hv : IsZ w v ys) (hy : 0 < ys.length) (by_ : ys.length ≤ 1000000) :
    Calls Try.prog 27 #[v, .slice (some ⟨w.heap.size, 0, none⟩) ys.length ys.length] (w.alloc (.cells (ys.map encZ).toArray 3)) fun e w' => e = .returned (.bool true) ∧ Below w.heap.size w w' := by
  have B := (Below.refl w.heap.size w).alloc (Nat.le_refl _) (.cells (ys.map encZ).toArray 3)
  refine (equal_any v _ ys ys _ (hv.below B) (isZ_new w ys) hy hy by_ by_).mono ?_
  rintro e w' ⟨rfl, b⟩
  exact ⟨by rw [beq_self_eq_true], B.trans (b.mono B.size)⟩
set_option maxRecDepth 100000 in
set_option maxHeartbeats 8000000 in
theorem awake_any (w : World) (hw : Lw w) : Calls Try.prog 9 #[] w fun e w' => e = .returned (.bool true) ∧ Below w.heap.size w w' := by
  have HW := Lib.hid hw
  have EX := Lib.hid (example_any w)
  clear hw
  go_enter Try.func9, Try.ntmps9
  go_wp2_with fail
  refine EX.out.mono ?_; rintro e w1 ⟨v, a, b, rfl, iv, b1⟩
  have B1 := Lib.hid b1
  have HV := Lib.hid iv
  have CK := Check_any v _ w1 (HW.out.below b1) iv (len_ex a b) (num_ex a b)
  rw [ck_ex] at CK
  replace CK := Lib.hid CK
  clear b1 EX iv
  go_wp2_with fail
  refine CK.out.mono ?_; rintro e w2 ⟨rfl, b2⟩
  have B12 := Lib.hid b2
  have B2 := Lib.hid (B1.out.trans (b2.mono B1.out.size))
  have HR := Heir_any v _ 1 250 w2 (HW.out.below B2.out) (HV.out.below b2) (len_ex a b) (num_ex a b) (by simp [W64]) (cv1 a b)
  rw [hrx] at HR
  replace HR := Lib.hid HR
  clear b2 CK
  go_wp2_with fail
  refine HR.out.mono ?_; rintro e w3 ⟨rfl, b3⟩
  have B3 := Lib.hid (B2.out.trans (b3.mono B2.out.size))
  have B13 := Lib.hid (B12.out.trans (b3.mono B12.out.size))
  have CH := Lib.hid (Chain_any v _ 1 150 w3 (HW.out.below B3.out) (HV.out.below B13.out) (len_ex a b) (num_ex a b) (by simp [W64]) (cvx1 a b))
  clear b3 HR B2 B12
  go_wp2_with fail
  refine CH.out.mono ?_; rintro e w4 ⟨u4, rfl, z4, b4⟩
  have B4 := Lib.hid (B3.out.trans (b4.mono B3.out.size))
  have B14 := Lib.hid (B13.out.trans (b4.mono B13.out.size))
  have EQ := Lib.hid (equalEx u4 [1, 2] w4 z4 (by decide) (by decide))
  clear b4 CH B3 B13 z4
  go_wp2_with fail
  refine EQ.out.mono ?_; rintro e w5 ⟨rfl, b5⟩
  have B5 := Lib.hid (B4.out.trans (b5.mono B4.out.size))
  have B15 := Lib.hid (B14.out.trans (b5.mono B14.out.size))
  have RC := Lib.hid (Reach_any v _ 1 w5 (HW.out.below B5.out) (HV.out.below B15.out) (len_ex a b) (num_ex a b) (by simp [W64]))
  clear b5 EQ B4 B14
  go_wp2_with fail
  refine RC.out.mono ?_; rintro e w6 ⟨u6, l6, rfl, r6, z6, b6⟩
  obtain rfl := r6.uniq (rv_ex a b)
  have B6 := Lib.hid (B5.out.trans (b6.mono B5.out.size))
  have B16 := Lib.hid (B15.out.trans (b6.mono B15.out.size))
  have EQ := Lib.hid (equalEx u6 [1, 2, 3, 4] w6 z6 (by decide) (by decide))
  clear b6 RC B5 B15 z6 r6
  go_wp2_with fail
  refine EQ.out.mono ?_; rintro e w7 ⟨rfl, b7⟩
  have B7 := Lib.hid (B6.out.trans (b7.mono B6.out.size))
  have B17 := Lib.hid (B16.out.trans (b7.mono B16.out.size))
  have DU := Duties_any v _ 4 250 w7 (HW.out.below B7.out) (HV.out.below B17.out) (len_ex a b) (num_ex a b) (by simp [W64])
  rw [dut_ex] at DU
  replace DU := Lib.hid DU
  clear b7 EQ B6 B16
  go_wp2_with fail
  refine DU.out.mono ?_; rintro e w8 ⟨u8, rfl, z8, b8⟩
  have B8 := Lib.hid (B7.out.trans (b8.mono B7.out.size))
  have EQ := Lib.hid (equalEx u8 [1, 2, 4] w8 z8 (by decide) (by decide))
  clear b8 DU B7 B17 z8
  go_wp2_with fail
  refine EQ.out.mono ?_; rintro e w9 ⟨rfl, b9⟩
  have B9 := Lib.hid (B8.out.trans (b9.mono B8.out.size))
  clear b9 EQ B8
  go_wp2_with fail
  go_ret
  exact ⟨rfl, B9.out⟩
end Go.Proofs.Ytlmgjgcdfhccaaa
