/- The reference's Duties. -/
import Derived.Test.YtlmgjgcdfhccaaaOR
namespace Go.Proofs.Ytlmgjgcdfhccaaa
open Go.RowKit Go.Maps Go.Shelf

set_option maxRecDepth 100000 in
set_option maxHeartbeats 8000000 in
theorem rDuties_any (v : Value) (os : List Of) (id day : Int) (w : World) (hv : IsO w v os) (hn : os.length ≤ 1000) (hr : NumO os) :
    Calls Try.prog 19 #[v, .int .i64 id, .int .i64 day] w fun e w' => ∃ u, e = .returned u ∧ IsZ w' u (dutL os id day) ∧ Below w.heap.size w w' := by
  have W0b := (Below.refl w.heap.size w).alloc (Nat.le_refl _) (.cells #[] 3)
  have G0 := Lib.hid (rGood_any v os _ (hv.below W0b) hn hr)
  have FD := Lib.hid (fun (V : World) (hb : Below w.heap.size w V) => rFind_any v os id V (hv.below hb) hn)
  have HE := Lib.hid (fun (x : Int) (V : World) (hb : Below w.heap.size w V) => show Calls Try.prog 12 #[v, .int .i64 x, .int .i64 day] V fun e w' => e = .returned (.tuple #[.int .i64 (hrF os x day).1, .bool (hrF os x day).2]) ∧ Below V.heap.size V w' from rHeir_any v os x day V (hv.below hb) hn hr (chF_spec os x day))
  have B0 := Lib.hid W0b
  have O0 := Lib.hid (own_emptyZ w)
  by_cases g : (ckV os).2 = 0
  rotate_left
  · have hl := Lib.hid (show dutL os id day = [] from if_neg (fun h => g h.1))
    rw [hl.out]
    have g1 : ((ckV os).2 == 0) = false := by simpa using g
    rw [g1] at G0
    clear hv hn hr g g1 W0b
    go_enter Try.func19, Try.ntmps19
    go_wp2_with fail
    refine G0.out.mono ?_; rintro e w1 ⟨rfl, b1⟩
    have B1 := Lib.hid (B0.out.trans (b1.mono B0.out.size))
    have Z := Lib.hid (own_isZ (zs := []) (own_below O0.out b1))
    clear b1
    go_wp2_with fail
    go_ret
    exact ⟨_, rfl, Z.out, B1.out⟩
  have g1 : ((ckV os).2 == 0) = true := by simpa using g
  rw [g1] at G0
  cases h : ixO os id with
  | none =>
    have hl := Lib.hid (show dutL os id day = [] from if_neg (fun k => k.2 h))
    rw [hl.out]
    have hi : ixZ os id = -1 := by unfold ixZ; rw [h]
    rw [hi] at FD
    clear hv hn hr g g1 W0b h hi
    go_enter Try.func19, Try.ntmps19
    go_wp2_with fail
    refine G0.out.mono ?_; rintro e w1 ⟨rfl, b1⟩
    have B1 := Lib.hid (B0.out.trans (b1.mono B0.out.size))
    have Z := Lib.hid (own_isZ (zs := []) (own_below O0.out b1))
    have F1 := Lib.hid (FD.out w1 B1.out)
    clear b1 FD
    go_wp2_with fail
    refine F1.out.mono ?_; rintro e w2 ⟨rfl, rfl⟩
    go_wp2_with fail
    go_ret
    exact ⟨_, rfl, Z.out, B1.out⟩
  | some i0 =>
    have hl := Lib.hid (show dutL os id day = ((os.take os.length).filter (isD os id day)).map (·.id) by
      rw [List.take_length]; exact if_pos ⟨g, by rw [h]; simp⟩)
    have hi : ixZ os id = (i0 : Int) := by unfold ixZ; rw [h]
    rw [hi] at FD
    have D0 : decide ((i0 : Int) < 0) = false := by simp
    rw [hl.out]
    obtain ⟨p, c, rfl, hcap, hp⟩ := hv
    obtain ⟨n, hnn⟩ : ∃ n, n = os.length := ⟨_, rfl⟩
    rw [← hnn] at hcap hn HE G0 FD ⊢
    have HN := Lib.hid hnn
    have HP := Lib.hid hp
    obtain ⟨ai, hii, hz0, hz1, hz2⟩ := info_parts (P := Try.prog) (e := 3) (z := .int .i64 0) (size := 1) (bytes := 8) (by kernel_rfl)
    have US : Try.prog.underlying 28 = some (.slice 3) := by kernel_rfl
    clear hr g g1 h hp hnn hl hi W0b
    go_enter Try.func19, Try.ntmps19
    go_wp2_with fail
    refine G0.out.mono ?_; rintro e w1 ⟨rfl, b1⟩
    have B1 := Lib.hid (B0.out.trans (b1.mono B0.out.size))
    have O1 := Lib.hid (own_below O0.out b1)
    have F1 := Lib.hid (FD.out w1 B1.out)
    clear b1 FD O0 G0 B0
    go_wp2_with fail
    refine F1.out.mono ?_; rintro e w2 ⟨rfl, hw2⟩
    obtain rfl : w1 = w2 := hw2.symm
    clear F1
    go_wp2_with fail
    go_loopw [7, 8] (fun s9 si wr => ∃ k : Nat, k ≤ n ∧ si = .int .i64 k ∧ Hid (DuL os id day w.heap.size w k s9 wr)) (fun _ si _ => n - (intOf si).toNat)
    case atStart => exact ⟨0, Nat.zero_le _, rfl, O1.out, B1.out⟩
    case round =>
      obtain ⟨k, hk, rfl, hrel⟩ := hrel
      have OW := Lib.hid hrel.out.own
      have BL := Lib.hid hrel.out.bel
      clear hrel
      by_cases hlt : k < n
      · obtain ⟨o, ho⟩ : ∃ o, os[k]? = some o := ⟨_, List.getElem?_eq_getElem (by rw [← HN.out]; exact hlt)⟩
        obtain ⟨g, off, rfl, hcell⟩ := HP.out (by rw [← HN.out]; omega)
        have OA := Lib.hid ((hcell k o ho).below BL.out)
        have FS := Lib.hid (filter_snoc ho (isD os id day))
        have H1 := Lib.hid (HE.out o.id wr BL.out)
        obtain ⟨x, hx⟩ : ∃ x, x = hrF os o.id day := ⟨_, rfl⟩
        have DD := Lib.hid (show isD os id day o = decide (x = (id, true)) by unfold isD; rw [hx])
        rw [← hx] at H1
        have c0 := OA.out.c0
        obtain ⟨id1, hid1⟩ : ∃ i, i = o.id := ⟨_, rfl⟩
        rw [← hid1] at H1 c0 FS
        obtain ⟨x1, x2⟩ := x
        replace H1 : Hid (Calls Try.prog 12 #[.slice (some ⟨g, off, none⟩) n c, .int .i64 id1, .int .i64 day] wr fun e w' => e = .returned (.tuple #[.int .i64 x1, .bool x2]) ∧ Below wr.heap.size wr w') := H1
        have HI := Lib.hid hid1
        clear hx hcell ho hid1
        go_wp2_with fail
        refine H1.out.mono ?_; rintro e w2 ⟨rfl, b2⟩
        have B2 := Lib.hid (BL.out.trans (b2.mono BL.out.size))
        have O2 := Lib.hid (own_below OW.out b2)
        have y2 : w2.cell? ⟨g, off + k * 5, none⟩ = some (.int .i64 id1) := by rw [HI.out]; exact (OA.out.below b2).c0
        clear b2 H1 OW c0 OA
        by_cases hd : (x1, x2) = (id, true)
        · obtain ⟨rfl, rfl⟩ := Prod.mk.inj hd
          have FS1 := Lib.hid (show ((os.take (k + 1)).filter (isD os x1 day)).map (·.id) = ((os.take k).filter (isD os x1 day)).map (·.id) ++ [id1] by rw [FS.out, DD.out]; simp)
          have LEN := Lib.hid (dut_len (os := os) (id := x1) (day := day) k)
          obtain ⟨pre, hpre⟩ : ∃ pre, pre = ((os.take k).filter (isD os x1 day)).map (·.id) := ⟨_, rfl⟩
          rw [← hpre] at O2 FS1 LEN
          have NB := Lib.hid (show os.length ≤ 1000 by rw [← HN.out]; exact hn)
          have OA := Lib.hid (O2.out.alloc (.cells #[.int .i64 id1] 3))
          have BA := Lib.hid (B2.out.alloc B2.out.size (.cells #[.int .i64 id1] 3))
          have SZ := Lib.hid (show w.heap.size ≤ (w2.alloc (.cells #[.int .i64 id1] 3)).heap.size by have := B2.out.size; simp; omega)
          clear hpre hd FS DD
          go_wp2_with (at_builtin; refine wpList_append_own _ rfl _ _ 28 rfl w.heap.size 3 ai (.int .i64 0) 1 8 US hii hz0 hz1 hz2 rfl (by decide) _ _ _ rfl OA.out ⟨w2.heap.size, 0, none⟩ 1 1 [.int .i64 id1] rfl rfl (cell_one_new _ _ _) (by simp [Value.oneCell']) (by have := LEN.out; have := NB.out; unfold maxLen; omega) (by have := LEN.out; have := NB.out; omega) SZ.out ?_)
          intro v5 w5 own5 g5 _
          have B5 := Lib.hid (BA.out.grown g5 BA.out.size (fun k hk => own_from OA.out k hk))
          have O5 := Lib.hid (show w5.ownsRow w.heap.size 3 1 v5 (((os.take (k + 1)).filter (isD os x1 day)).map (·.id)).length ((((os.take (k + 1)).filter (isD os x1 day)).map (·.id)).map encZ) by rw [FS1.out]; simpa [encZ] using own5)
          clear own5 g5
          go_wp2_with fail
          go_roundw
          case rel => exact ⟨k + 1, by omega, by go_num, O5.out, B5.out⟩
          case measure => simp [intOf]; omega
        · have FS1 := Lib.hid (show ((os.take (k + 1)).filter (isD os id day)).map (·.id) = ((os.take k).filter (isD os id day)).map (·.id) by rw [FS.out, DD.out, decide_eq_false hd]; simp)
          have O5 := Lib.hid (show w2.ownsRow w.heap.size 3 1 u7 (((os.take (k + 1)).filter (isD os id day)).map (·.id)).length ((((os.take (k + 1)).filter (isD os id day)).map (·.id)).map encZ) by rw [FS1.out]; exact O2.out)
          clear FS DD O2
          cases x2 with
          | false =>
            clear hd
            go_wp2_with fail
            go_roundw
            case rel => exact ⟨k + 1, by omega, by go_num, O5.out, B2.out⟩
            case measure => simp [intOf]; omega
          | true =>
            have D : (x1 == id) = false := by
              rw [beq_eq_false_iff_ne]; intro e; exact hd (by rw [e])
            clear hd
            go_wp2_with fail
            go_roundw
            case rel => exact ⟨k + 1, by omega, by go_num, O5.out, B2.out⟩
            case measure => simp [intOf]; omega
      · obtain rfl : k = n := by omega
        have Z := Lib.hid (own_isZ OW.out)
        clear OW
        go_wp2_with fail
        go_ret
        exact ⟨_, rfl, Z.out, BL.out⟩
end Go.Proofs.Ytlmgjgcdfhccaaa
