/- The reference's Over and Changes. -/
import Derived.Test.YtekigilhmdphnaaVI
namespace Go.Proofs.Ytekigilhmdphnaa
open Go.RowKit Go.Shelf

theorem rAt_F (p : Option Addr) (n c : Nat) (P : Nat → Pc) (d : Int) (w : World) (h : IsP w p n c P) (g : Gd (toL P n)) : Calls Try.prog 13 #[.slice p n c, .int .i64 d] w (ClR (atF (toL P n) d) w) :=
  (rAt_is p n c P d w h).mono fun e w' hr => by
    obtain ⟨x, y, rfl, hv, hb⟩ := hr.val
    obtain ⟨rfl, rfl⟩ := hv.eq g
    exact ⟨rfl, hb⟩
theorem rOwn0 (w : World) : (w.alloc (.cells #[] 47)).ownsRow w.heap.size 47 3 (.slice (some ⟨w.heap.size, 0, none⟩) 0 0) 0 (cellsP []) :=
  ⟨rfl, .inr ⟨w.heap.size, 0, #[], rfl, Nat.le_refl _, heap_alloc_new w _, Nat.le_refl _, by unfold maxLen; omega, rfl, rfl⟩⟩

set_option maxRecDepth 10000 in
set_option maxHeartbeats 400000 in
theorem rOver_good (p q : Option Addr) (n c m c2 : Nat) (P Q : Nat → Pc) (w : World) (hA : IsP w p n c P) (hB : IsP w q m c2 Q) (gA : Gd (toL P n)) (gB : Gd (toL Q m)) (hn : n + m ≤ 400) :
    Calls Try.prog 28 #[.slice p n c, .slice q m c2] w (GoodL (ovF (toL P n) (toL Q m)) (2 * (n + m) + 1) w) := by
  have c1 := rCheck_any p n c P w hA
  rw [ck_of_gd gA (by omega)] at c1
  have C1 := Lib.hid c1
  have C2 := Lib.hid (fun V (hV : IsP V q m c2 Q) => (ck_of_gd gB (by omega) : ckV Q m = 0) ▸ rCheck_any q m c2 Q V hV)
  have HA := Lib.hid hA
  have HB := Lib.hid hB
  have NA := Lib.hid (fun V d (hV : IsP V p n c P) => next_any p n c P d V (by omega) hV)
  have NB := Lib.hid (fun V d (hV : IsP V q m c2 Q) => next_any q m c2 Q d V (by omega) hV)
  have FA := Lib.hid (fun V d (hV : IsP V p n c P) => rAt_F p n c P d V hV gA)
  have FB := Lib.hid (fun V d (hV : IsP V q m c2 Q) => rAt_F q m c2 Q d V hV gB)
  have NX := Lib.hid (fun (day : Int) (h : day < 1048576) => nxt_two P Q n m h)
  have OK := Lib.hid (ovF_ok (toL P n) (toL Q m))
  have EL := allE_len (toL P n) (toL Q m)
  rw [toL_length, toL_length] at EL
  have ST := Lib.hid ((ovF_ok (toL P n) (toL Q m)).start' gA gB)
  have DN := Lib.hid (fun R day (h : RefS (ovF (toL P n) (toL Q m)) (allE (toL P n) (toL Q m)) R day) => h.done (ovF_ok _ _) gA gB)
  have EL := Lib.hid EL
  clear c1 hA hB gA gB
  unfold ClR at FA FB
  obtain ⟨A, hA⟩ : ∃ A, A = toL P n := ⟨_, rfl⟩
  obtain ⟨B, hB⟩ : ∃ B, B = toL Q m := ⟨_, rfl⟩
  rw [← hA] at FA NX OK EL ST DN ⊢
  rw [← hB] at FB NX OK EL ST DN ⊢
  clear hA hB
  go_enter Try.func28, Try.ntmps28
  go_wp2_with fail
  refine C1.out.mono ?_; rintro e w1 ⟨rfl, b1⟩
  have HA1 := Lib.hid (HA.out.below b1)
  have HB1 := Lib.hid (HB.out.below b1)
  have B1 := Lib.hid b1
  clear b1 C1 HA HB
  go_wp2_with fail
  refine (C2.out _ HB1.out).mono ?_; rintro e w2 ⟨rfl, b2⟩
  have HA2 := Lib.hid (HA1.out.below b2)
  have HB2 := Lib.hid (HB1.out.below b2)
  have B2 := Lib.hid (B1.out.trans (b2.mono B1.out.size))
  clear b2 C2 HA1 HB1 B1
  go_wp2_with fail
  have A0 := Lib.hid ((Below.refl w2.heap.size w2).alloc (Nat.le_refl _) (.cells #[] 47))
  have O0 := Lib.hid (rOwn0 w2)
  go_loopg [7, 8] 1048576 (fun gg s7 s8 wr => ∃ (day : Int) (R : List Pc), 0 ≤ day ∧ (1048576 - day).toNat ≤ gg ∧ s8 = .int .i64 day ∧ Aside (RefS (ovF A B) (allE A B) R day) ∧ Aside (wr.ownsRow w2.heap.size 47 3 s7 R.length (cellsP R)) ∧ Aside (Below w2.heap.size w2 wr))
  case atStart => exact ⟨0, [], by omega, by omega, rfl, ST.out, O0.out, A0.out⟩
  case round =>
    obtain ⟨day, R, hd0, hg, rfl, RS, OW, BW⟩ := hrel
    by_cases hlt : day < 1048576
    · have NXd := Lib.hid (NX.out day hlt)
      have A1 := Lib.hid (NA.out wr day (HA2.out.below BW.out))
      have LN := RS.out.len
      rw [EL.out] at LN
      have LN := Lib.hid (show R.length ≤ 100000 by omega)
      go_wp2_with fail
      refine A1.out.mono ?_; rintro e w3 ⟨rfl, b3⟩
      have W3 := Lib.hid (BW.out.trans (b3.mono BW.out.size))
      have A2 := Lib.hid (NB.out w3 day (HB2.out.below W3.out))
      have O3 := Lib.hid (OW.out.kept (row := none) (gb_below b3) (by cases hv : u7.ownBlock <;> simp))
      clear b3 A1 BW OW
      go_wp2_with fail
      refine A2.out.mono ?_; rintro e w4 ⟨rfl, b4⟩
      have W4 := Lib.hid (W3.out.trans (b4.mono W3.out.size))
      have O4 := Lib.hid (O3.out.kept (row := none) (gb_below b4) (by cases hv : u7.ownBlock <;> simp))
      have A3 := Lib.hid (FA.out w4 day (HA2.out.below W4.out))
      clear b4 A2 W3 O3
      go_upto_region 10 with (fail)
      generalize min (nxtP P day n) (nxtP Q day m) = e at *
      generalize nxtP P day n = x1 at *
      generalize nxtP Q day m = x2 at *
      go_wp2_with fail
      refine A3.out.mono ?_; rintro e5 w5 ⟨rfl, b5⟩
      have W5 := Lib.hid (W4.out.trans (b5.mono W4.out.size))
      have O5 := Lib.hid (O4.out.kept (row := none) (gb_below b5) (by cases hv : u7.ownBlock <;> simp))
      have A4 := Lib.hid (FB.out w5 day (HB2.out.below W5.out))
      clear b5 A3 W4 O4
      go_wp2_with fail
      refine A4.out.mono ?_; rintro e6 w6 ⟨rfl, b6⟩
      have W6 := Lib.hid (W5.out.trans (b6.mono W5.out.size))
      have O6 := Lib.hid (O5.out.kept (row := none) (gb_below b6) (by cases hv : u7.ownBlock <;> simp))
      have HV := Lib.hid (show ovF A B day = (if (atF B day).2 = true then ((atF B day).1, true) else ((atF A day).1, (atF A day).2)) from rfl)
      clear b6 A4 W5 O5
      generalize (atF A day).1 = xa at *
      generalize (atF A day).2 = ya at *
      generalize (atF B day).1 = xb at *
      generalize (atF B day).2 = yb at *
      cases yb with
      | true =>
        have hv : ((ovF A B) day).2 = true ∧ ((ovF A B) day).1 = xb := by rw [HV.out]; simp
        have R5 := RS.out.put OK.out NXd.out hv.1
        rw [hv.2] at R5
        have R5 := Lib.hid R5
        have PC := Lib.hid (put_any w2.heap.size u7 R ⟨day, e, xb⟩ w6 W6.out.size LN.out O6.out)
        clear hv RS
        go_wp2_with fail
        refine PC.out.mono ?_; rintro e7 w7 ⟨v7, rfl, o7, n7⟩
        have O7 := Lib.hid o7
        have W7 := Lib.hid (W6.out.trans (n7.below W6.out.size (own_base O6.out)))
        clear o7 n7 PC O6 W6
        go_wp2_with fail
        go_roundg (1048576 - e).toNat
        case measure => have := NXd.out.gt; have := NXd.out.le; omega
        case rel => exact ⟨e, _, R5.out.lo, by omega, rfl, R5.out, O7.out, W7.out⟩
      | false =>
        cases ya with
        | true =>
          have hv : ((ovF A B) day).2 = true ∧ ((ovF A B) day).1 = xa := by rw [HV.out]; simp
          have R5 := RS.out.put OK.out NXd.out hv.1
          rw [hv.2] at R5
          have R5 := Lib.hid R5
          have PC := Lib.hid (put_any w2.heap.size u7 R ⟨day, e, xa⟩ w6 W6.out.size LN.out O6.out)
          clear hv RS
          go_wp2_with fail
          refine PC.out.mono ?_; rintro e7 w7 ⟨v7, rfl, o7, n7⟩
          have O7 := Lib.hid o7
          have W7 := Lib.hid (W6.out.trans (n7.below W6.out.size (own_base O6.out)))
          clear o7 n7 PC O6 W6
          go_wp2_with fail
          go_roundg (1048576 - e).toNat
          case measure => have := NXd.out.gt; have := NXd.out.le; omega
          case rel => exact ⟨e, _, R5.out.lo, by omega, rfl, R5.out, O7.out, W7.out⟩
        | false =>
          have hv : ((ovF A B) day).2 = false := by rw [HV.out]; simp
          have R5 := Lib.hid (RS.out.skip OK.out NXd.out hv)
          clear hv RS
          go_wp2_with fail
          go_roundg (1048576 - e).toNat
          case measure => have := NXd.out.gt; have := NXd.out.le; omega
          case rel => exact ⟨e, _, R5.out.lo, by omega, rfl, R5.out, O6.out, W6.out⟩
    · obtain ⟨g1, g2⟩ := DN.out R day RS.out (by omega)
      have G1 := Lib.hid g1
      have G2 := Lib.hid g2
      have LN := RS.out.len
      rw [EL.out] at LN
      have LN := Lib.hid (show R.length ≤ 2 * (n + m) + 1 by omega)
      have LR := Lib.hid (own_lres OW.out)
      have BF := Lib.hid (B2.out.trans (BW.out.mono B2.out.size))
      obtain ⟨p3, c3, Q3, rfl, i3, e3⟩ := LR.out
      have hl : ¬ (1024 : Int) < (R.length : Int) := by have := LN.out; omega
      clear g1 g2 OW BW i3 e3
      go_wp2_with fail
      go_ret2
      exact ⟨_, R, rfl, LR.out, G1.out, G2.out, LN.out, BF.out⟩
end Go.Proofs.Ytekigilhmdphnaa
