/- The reference's Changes. -/
import Derived.Test.YtekigilhmdphnaaVJ
namespace Go.Proofs.Ytekigilhmdphnaa
open Go.RowKit Go.Shelf

theorem rOwn2 (w : World) : (w.alloc (.cells #[] 33)).ownsRow w.heap.size 33 2 (.slice (some ⟨w.heap.size, 0, none⟩) 0 0) 0 (cellsS []) :=
  ⟨rfl, .inr ⟨w.heap.size, 0, #[], rfl, Nat.le_refl _, heap_alloc_new w _, Nat.le_refl _, by unfold maxLen; omega, rfl, rfl⟩⟩

set_option maxRecDepth 10000 in
set_option maxHeartbeats 1000000 in
theorem rChanges_good (p q : Option Addr) (n c m c2 : Nat) (P Q : Nat → Pc) (w : World) (hA : IsP w p n c P) (hB : IsP w q m c2 Q) (gA : Gd (toL P n)) (gB : Gd (toL Q m)) (hn : n + m ≤ 400) :
    Calls Try.prog 26 #[.slice p n c, .slice q m c2] w (GoodS (chF (toL P n) (toL Q m)) (2 * (n + m) + 1) w) := by
  obtain ⟨i0, hi, hz0, hz1, hz2⟩ := info_parts (P := Try.prog) (e := 33) (z := .agg #[.int .i64 0, .int .i64 0]) (size := 2) (bytes := 16) (by kernel_rfl)
  have US : Try.prog.underlying 39 = some (.slice 33) := by kernel_rfl
  have c1 := rCheck_any p n c P w hA
  rw [ck_of_gd gA (by omega)] at c1
  have C1 := Lib.hid c1
  have C2 := Lib.hid (fun V (hV : IsP V q m c2 Q) => (ck_of_gd gB (by omega) : ckV Q m = 0) ▸ rCheck_any q m c2 Q V hV)
  have HA := Lib.hid hA
  have HB := Lib.hid hB
  have NA := Lib.hid (fun V d (hV : IsP V p n c P) => next_any p n c P d V (by omega) hV)
  have NB := Lib.hid (fun V d (hV : IsP V q m c2 Q) => next_any q m c2 Q d V (by omega) hV)
  have FA := Lib.hid (fun V d (hV : IsP V p n c P) => rAt_F p n c P d V hV gA)
  have FB := Lib.hid (fun V d (hV : IsP V q m c2 Q) => rAt_F q m c2 Q d V hV gB)
  have NX := Lib.hid (fun (day : Int) (h : day < 1048576) => nxt_two P Q n m h)
  have OK := Lib.hid (chF_ok (toL P n) (toL Q m))
  have EL := allE_len (toL P n) (toL Q m)
  rw [toL_length, toL_length] at EL
  have ST := Lib.hid ((chF_ok (toL P n) (toL Q m)).start' gA gB)
  have DN := Lib.hid (fun R day (h : RefS (chF (toL P n) (toL Q m)) (allE (toL P n) (toL Q m)) R day) => h.done (chF_ok _ _) gA gB)
  have EL := Lib.hid EL
  clear c1 hA hB gA gB
  unfold ClR at FA FB
  obtain ⟨A, hA⟩ : ∃ A, A = toL P n := ⟨_, rfl⟩
  obtain ⟨B, hB⟩ : ∃ B, B = toL Q m := ⟨_, rfl⟩
  rw [← hA] at FA NX OK EL ST DN ⊢
  rw [← hB] at FB NX OK EL ST DN ⊢
  clear hA hB
  go_enter Try.func26, Try.ntmps26
  go_wp2_with fail
  refine C1.out.mono ?_; rintro e w1 ⟨rfl, b1⟩
  have HA1 := Lib.hid (HA.out.below b1)
  have HB1 := Lib.hid (HB.out.below b1)
  have B1 := Lib.hid b1
  clear b1 C1 HA HB
  go_wp2_with fail
  refine (C2.out _ HB1.out).mono ?_; rintro e w2 ⟨rfl, b2⟩
  have HA2 := Lib.hid (HA1.out.below b2)
  have HB2 := Lib.hid (HB1.out.below b2)
  have B2 := Lib.hid (B1.out.trans (b2.mono B1.out.size))
  clear b2 C2 HA1 HB1 B1
  go_wp2_with fail
  have A0 := Lib.hid ((Below.refl w2.heap.size w2).alloc (Nat.le_refl _) (.cells #[] 47))
  have O0 := Lib.hid (rOwn0 w2)
  go_loopg [7, 8] 1048576 (fun gg s7 s8 wr => ∃ (day : Int) (R : List Pc), 0 ≤ day ∧ (1048576 - day).toNat ≤ gg ∧ s8 = .int .i64 day ∧ Aside (RefS (chF A B) (allE A B) R day) ∧ Aside (wr.ownsRow w2.heap.size 47 3 s7 R.length (cellsP R)) ∧ Aside (Below w2.heap.size w2 wr))
  case atStart => exact ⟨0, [], by omega, by omega, rfl, ST.out, O0.out, A0.out⟩
  case round =>
    obtain ⟨day, R, hd0, hg, rfl, RS, OW, BW⟩ := hrel
    by_cases hlt : day < 1048576
    · have NXd := Lib.hid (NX.out day hlt)
      have A1 := Lib.hid (NA.out wr day (HA2.out.below BW.out))
      have LN := RS.out.len
      rw [EL.out] at LN
      have LN := Lib.hid (show R.length ≤ 100000 by omega)
      go_wp2_with fail
      refine A1.out.mono ?_; rintro e w3 ⟨rfl, b3⟩
      have W3 := Lib.hid (BW.out.trans (b3.mono BW.out.size))
      have A2 := Lib.hid (NB.out w3 day (HB2.out.below W3.out))
      have O3 := Lib.hid (OW.out.kept (row := none) (gb_below b3) (by cases hv : u7.ownBlock <;> simp))
      clear b3 A1 BW OW
      go_wp2_with fail
      refine A2.out.mono ?_; rintro e w4 ⟨rfl, b4⟩
      have W4 := Lib.hid (W3.out.trans (b4.mono W3.out.size))
      have O4 := Lib.hid (O3.out.kept (row := none) (gb_below b4) (by cases hv : u7.ownBlock <;> simp))
      have A3 := Lib.hid (FA.out w4 day (HA2.out.below W4.out))
      clear b4 A2 W3 O3
      go_upto_region 10 with (fail)
      generalize min (nxtP P day n) (nxtP Q day m) = e at *
      generalize nxtP P day n = x1 at *
      generalize nxtP Q day m = x2 at *
      go_wp2_with fail
      refine A3.out.mono ?_; rintro e5 w5 ⟨rfl, b5⟩
      have W5 := Lib.hid (W4.out.trans (b5.mono W4.out.size))
      have O5 := Lib.hid (O4.out.kept (row := none) (gb_below b5) (by cases hv : u7.ownBlock <;> simp))
      have A4 := Lib.hid (FB.out w5 day (HB2.out.below W5.out))
      clear b5 A3 W4 O4
      go_wp2_with fail
      refine A4.out.mono ?_; rintro e6 w6 ⟨rfl, b6⟩
      have W6 := Lib.hid (W5.out.trans (b6.mono W5.out.size))
      have O6 := Lib.hid (O5.out.kept (row := none) (gb_below b6) (by cases hv : u7.ownBlock <;> simp))
      have HV := Lib.hid (show chF A B day = (0, ((atF A day).2 != (atF B day).2) || ((atF A day).1 != (atF B day).1)) from rfl)
      clear b6 A4 W5 O5
      generalize (atF A day).1 = xa at *
      generalize (atF A day).2 = ya at *
      generalize (atF B day).1 = xb at *
      generalize (atF B day).2 = yb at *
      by_cases cx : xa = xb
      · subst cx
        cases ya <;> cases yb
        · have hv : (chF A B day).2 = false := by rw [HV.out]; simp
          have R5 := Lib.hid (RS.out.skip OK.out NXd.out hv)
          clear hv RS
          go_wp2_with fail
          go_roundg (1048576 - e).toNat
          case measure => have := NXd.out.gt; have := NXd.out.le; omega
          case rel => exact ⟨e, _, R5.out.lo, by omega, rfl, R5.out, O6.out, W6.out⟩
        · have hv : (chF A B day).2 = true ∧ (chF A B day).1 = 0 := by rw [HV.out]; simp
          have R5 := RS.out.put OK.out NXd.out hv.1
          rw [hv.2] at R5
          have R5 := Lib.hid R5
          have PC := Lib.hid (put_any w2.heap.size u7 R ⟨day, e, 0⟩ w6 W6.out.size LN.out O6.out)
          clear hv RS
          go_wp2_with fail
          refine PC.out.mono ?_; rintro e7 w7 ⟨v7, rfl, o7, n7⟩
          have O7 := Lib.hid o7
          have W7 := Lib.hid (W6.out.trans (n7.below W6.out.size (own_base O6.out)))
          clear o7 n7 PC O6 W6
          go_wp2_with fail
          go_roundg (1048576 - e).toNat
          case measure => have := NXd.out.gt; have := NXd.out.le; omega
          case rel => exact ⟨e, _, R5.out.lo, by omega, rfl, R5.out, O7.out, W7.out⟩
        · have hv : (chF A B day).2 = true ∧ (chF A B day).1 = 0 := by rw [HV.out]; simp
          have R5 := RS.out.put OK.out NXd.out hv.1
          rw [hv.2] at R5
          have R5 := Lib.hid R5
          have PC := Lib.hid (put_any w2.heap.size u7 R ⟨day, e, 0⟩ w6 W6.out.size LN.out O6.out)
          clear hv RS
          go_wp2_with fail
          refine PC.out.mono ?_; rintro e7 w7 ⟨v7, rfl, o7, n7⟩
          have O7 := Lib.hid o7
          have W7 := Lib.hid (W6.out.trans (n7.below W6.out.size (own_base O6.out)))
          clear o7 n7 PC O6 W6
          go_wp2_with fail
          go_roundg (1048576 - e).toNat
          case measure => have := NXd.out.gt; have := NXd.out.le; omega
          case rel => exact ⟨e, _, R5.out.lo, by omega, rfl, R5.out, O7.out, W7.out⟩
        · have hv : (chF A B day).2 = false := by rw [HV.out]; simp
          have R5 := Lib.hid (RS.out.skip OK.out NXd.out hv)
          clear hv RS
          go_wp2_with fail
          go_roundg (1048576 - e).toNat
          case measure => have := NXd.out.gt; have := NXd.out.le; omega
          case rel => exact ⟨e, _, R5.out.lo, by omega, rfl, R5.out, O6.out, W6.out⟩
      · have NE : (xa == xb) = false := by simpa using cx
        have NE2 : (xa != xb) = true := by simpa using cx
        have hv : (chF A B day).2 = true ∧ (chF A B day).1 = 0 := by rw [HV.out]; simp [NE2]
        have R5 := RS.out.put OK.out NXd.out hv.1
        rw [hv.2] at R5
        have R5 := Lib.hid R5
        have PC := Lib.hid (put_any w2.heap.size u7 R ⟨day, e, 0⟩ w6 W6.out.size LN.out O6.out)
        clear hv RS
        go_wp2_with fail
        refine PC.out.mono ?_; rintro e7 w7 ⟨v7, rfl, o7, n7⟩
        have O7 := Lib.hid o7
        have W7 := Lib.hid (W6.out.trans (n7.below W6.out.size (own_base O6.out)))
        clear o7 n7 PC O6 W6
        go_wp2_with fail
        go_roundg (1048576 - e).toNat
        case measure => have := NXd.out.gt; have := NXd.out.le; omega
        case rel => exact ⟨e, _, R5.out.lo, by omega, rfl, R5.out, O7.out, W7.out⟩
    · generalize wr = ws at *
      obtain ⟨g1, g2⟩ := DN.out R day RS.out (by omega)
      have G1 := Lib.hid g1
      have G2 := Lib.hid g2
      have LN := RS.out.len
      rw [EL.out] at LN
      have LN := Lib.hid (show R.length ≤ 2 * (n + m) + 1 by omega)
      have hl : ¬ (1024 : Int) < (R.length : Int) := by have := LN.out; omega
      obtain ⟨p3, c3, Q3, rfl, i3, e3⟩ := own_lres OW.out
      have H3 := Lib.hid i3
      have E3 := Lib.hid e3
      have NL : R.length ≤ 801 := by have := LN.out; omega
      obtain ⟨l, hl2⟩ : ∃ l, l = R.length := ⟨_, rfl⟩
      rw [← hl2] at H3 E3 NL hl ⊢
      have HLL := Lib.hid hl2
      have W3 := Lib.hid BW.out
      clear g1 g2 OW BW i3 e3 hl2
      go_upto_region 18 with (fail)
      have O4 := Lib.hid (rOwn2 ws)
      have W4 := Lib.hid ((Below.refl ws.heap.size ws).alloc (Nat.le_refl _) (.cells #[] 33))
      generalize hwx : ws.alloc (.cells #[] 33) = wx at *
      have hwx := Lib.hid hwx
      go_wp2_with fail
      go_loopg [14, 15] l (fun gg s14 s15 wy => ∃ k : Nat, k ≤ l ∧ l - k ≤ gg ∧ s15 = .int .i64 k ∧ Aside (wy.ownsRow ws.heap.size 33 2 s14 k (cellsS (toL Q3 k))) ∧ Aside (Below ws.heap.size ws wy))
      case atStart => exact ⟨0, Nat.zero_le _, by omega, rfl, O4.out, W4.out⟩
      case round =>
        obtain ⟨k, hk, hg, rfl, OW, BW⟩ := hrel
        by_cases hlt : k < l
        · have hltz : (k : Int) < (l : Int) := by omega
          have hz0' : (0 : Int) ≤ (k : Int) := by omega
          obtain ⟨b, off, rfl, hp⟩ := (H3.out.below BW.out).row (by omega)
          obtain ⟨k0, k1, k2⟩ := hp.2 k hlt
          have TS := Lib.hid (show cellsS (toL Q3 (k + 1)) = cellsS (toL Q3 k) ++ cellsS [Q3 k] by rw [toL_succ, cellsS_append])
          clear hp
          generalize Q3 k = x at *
          generalize cellsS (toL Q3 k) = S at *
          have WA := Lib.hid (BW.out.alloc BW.out.size (.cells #[.int .i64 x.f, .int .i64 x.u] 33))
          have OA := Lib.hid (OW.out.alloc (.cells #[.int .i64 x.f, .int .i64 x.u] 33))
          have NB := Lib.hid (news2 (w := wr.alloc (.cells #[.int .i64 x.f, .int .i64 x.u] 33)) (g := wr.heap.size) (y := x) (by simp) (by simp))
          clear OW BW
          have S1 := Lib.hid (show k + 1 ≤ maxLen by unfold maxLen; omega)
          have S2 := Lib.hid (show (k + 1) * 16 ≤ 140737488355328 by omega)
          go_wp2_with (at_builtin; refine wpList_append_own_block rfl (.tmp 72) (.tmp 78) 39 rfl ws.heap.size 33 i0 (.agg #[.int .i64 0, .int .i64 0]) 2 16 US hi hz0 hz1 hz2 rfl (by decide) _ k S rfl OA.out ⟨wr.heap.size, 0, none⟩ 1 1 (cellsS [x]) rfl rfl NB.out (cellsS_one _) S1.out S2.out WA.out.size Nat.one_pos ?_; intro v5 w5 own5 g5 _)
          have O5 := Lib.hid (show w5.ownsRow ws.heap.size 33 2 v5 (k + 1) (cellsS (toL Q3 (k + 1))) by rw [TS.out]; exact own5)
          have W5 := Lib.hid (WA.out.grown g5 WA.out.size (own_base OA.out))
          clear own5 g5 WA OA NB S1 S2 k0 k1 k2
          go_wp2_with fail
          go_roundg (l - (k + 1))
          case measure => omega
          case rel => exact ⟨k + 1, by omega, by omega, by go_num, O5.out, W5.out⟩
        · obtain rfl : k = l := by omega
          have hltz : ¬ (k : Int) < (k : Int) := by omega
          have OF := Lib.hid (show wr.ownsRow ws.heap.size 33 2 u14 R.length (cellsS R) by have := OW.out; rw [E3.out] at this; rw [← HLL.out]; exact this)
          have BF := Lib.hid (B2.out.trans ((W3.out.trans (BW.out.mono W3.out.size)).mono B2.out.size))
          clear OW BW
          go_wp2_with fail
          go_ret2
          exact ⟨_, R, rfl, own_sres OF.out, G1.out, G2.out, LN.out, BF.out⟩
end Go.Proofs.Ytekigilhmdphnaa
