/- The reference's hull of a list of datings. -/
import Derived.Test.YtbllolalfmgfoaaDoorDQ
import Derived.StillTailTactics
namespace Go.Proofs.YtbllolalfmgfoaaDoor
open Go.RowKit Go.Shelf

theorem rHull_empty (s : Value) (hs : s = .slice none 0 0 ∨ ∃ a c, s = .slice (some a) 0 c) (w : World) :
    Calls Tryd.prog 23 #[s] w (DatE 0 0 9 w) := by
  have X := Box2.new w (.int .i64 0) (.int .i64 0) 23
  have g0 := (Below.refl w.heap.size w).alloc (Nat.le_refl _) (.cells #[.int .i64 0, .int .i64 0] 23)
  generalize hW : w.alloc (.cells #[.int .i64 0, .int .i64 0] 23) = W at X g0
  have Z := Lib.hid (X.set (.int .i64 0) (.int .i64 0))
  have gE := (g0.setCell (p := ⟨w.heap.size, 0, none⟩) (by simp) (.int .i64 0)).setCell (p := ⟨w.heap.size, 1, none⟩) (by simp) (.int .i64 0)
  obtain ⟨y0, y1, y2, y3, y4⟩ := X
  rcases hs with rfl | ⟨a, c, rfl⟩
  all_goals
    go_enter Tryd.func23, Tryd.ntmps23
    go_wp2
    obtain ⟨_, r1, r2, _⟩ := Z.out
    generalize (W.setCell ⟨w.heap.size, 0, none⟩ (.int .i64 0)).setCell ⟨w.heap.size, 1, none⟩ (.int .i64 0) = w4 at r1 r2 gE ⊢
    exact bodyPost_ret (v := .tuple #[.agg #[.int .i64 0, .int .i64 0], .int .i64 9]) (by simp [results, Tryd.results23, go_sem, r1, r2]) rfl ⟨rfl, gE⟩

theorem rHull_large (b off n c : Nat) (w : World) (hn : 1024 < n) (_hm : n ≤ 9223372036854775807) :
    Calls Tryd.prog 23 #[.slice (some ⟨b, off, none⟩) n c] w (DatE 0 0 8 w) := by
  have X := Box2.new w (.int .i64 0) (.int .i64 0) 23
  have g0 := (Below.refl w.heap.size w).alloc (Nat.le_refl _) (.cells #[.int .i64 0, .int .i64 0] 23)
  generalize hW : w.alloc (.cells #[.int .i64 0, .int .i64 0] 23) = W at X g0
  have Z := Lib.hid (X.set (.int .i64 0) (.int .i64 0))
  have gE := (g0.setCell (p := ⟨w.heap.size, 0, none⟩) (by simp) (.int .i64 0)).setCell (p := ⟨w.heap.size, 1, none⟩) (by simp) (.int .i64 0)
  obtain ⟨y0, y1, y2, y3, y4⟩ := X
  have e1 : ¬ (n : Int) = 0 := by omega
  have e2 : (1024 : Int) < (n : Int) := by omega
  go_enter Tryd.func23, Tryd.ntmps23
  go_wp2
  obtain ⟨_, r1, r2, _⟩ := Z.out
  generalize (W.setCell ⟨w.heap.size, 0, none⟩ (.int .i64 0)).setCell ⟨w.heap.size, 1, none⟩ (.int .i64 0) = w4 at r1 r2 gE ⊢
  exact bodyPost_ret (v := .tuple #[.agg #[.int .i64 0, .int .i64 0], .int .i64 8]) (by simp [results, Tryd.results23, go_sem, r1, r2]) rfl ⟨rfl, gE⟩

/-- What the reference's Hull gives for a list that is neither empty nor too long. -/
def HullR (D : Nat → Int × Int) (n : Nat) (w : World) (e : Ending) (w' : World) : Prop :=
  (allGd D n = true ∧ DatE (hF D n) (hL D n) 0 w e w') ∨ (allGd D n = false ∧ DatE 0 0 1 w e w')

set_option maxRecDepth 100000 in
set_option maxHeartbeats 4000000 in
theorem rHull_some (b off n c : Nat) (D : Nat → Int × Int) (w : World) (hn : n ≤ 1024) (h0 : 0 < n) (hD : Dats w b off n D) :
    Calls Tryd.prog 23 #[.slice (some ⟨b, off, none⟩) n c] w (HullR D n w) := by
  have X := Box2.new w (.int .i64 0) (.int .i64 0) 23
  have g0 := (Below.refl w.heap.size w).alloc (Nat.le_refl _) (.cells #[.int .i64 0, .int .i64 0] 23)
  generalize hW : w.alloc (.cells #[.int .i64 0, .int .i64 0] 23) = W at X g0
  have e1 : ¬ (n : Int) = 0 := by omega
  have e2 : ¬ (1024 : Int) < (n : Int) := by omega
  have e3 : (0 : Int) < (n : Int) := by omega
  have HD := Lib.hid hD
  obtain ⟨d0, d1⟩ := (HD.out.below g0).2 0 h0
  have f0 : W.cell? ⟨b, off, none⟩ = some (.int .i64 (D 0).1) := by simpa using d0
  have f1 : W.cell? ⟨b, off + 1, none⟩ = some (.int .i64 (D 0).2) := by simpa using d1
  have N := Lib.hid (Box2.new W (.int .i64 (D 0).1) (.int .i64 (D 0).2) 23)
  have X2 := Lib.hid (X.alloc (.cells #[.int .i64 (D 0).1, .int .i64 (D 0).2] 23))
  have g2 := g0.alloc g0.size (.cells #[.int .i64 (D 0).1, .int .i64 (D 0).2] 23)
  have lh : w.heap.size < W.heap.size := X.1
  clear hD d0 d1 X
  change Aside _ at lh
  go_enter Tryd.func23, Tryd.ntmps23
  go_wp2_with fail
  generalize hW1 : W.alloc (.cells #[.int .i64 (D 0).1, .int .i64 (D 0).2] 23) = W1 at N X2 g2 ⊢
  clear f0 f1 hW hW1
  go_loopg [5] n (fun gg s5 wr => ∃ kk : Nat, kk ≤ n ∧ n - kk ≤ gg ∧ s5 = .int .i64 kk ∧ Aside (Below w.heap.size w wr ∧ Box2 wr W.heap.size (.int .i64 (hF D kk)) (.int .i64 (hL D kk)) ∧ Box2 wr w.heap.size (.int .i64 0) (.int .i64 0)) ∧ Aside (∀ j, j < kk → gd (D j) = true))
  case atStart => exact ⟨0, Nat.zero_le _, by omega, rfl, ⟨g2, N.out, X2.out⟩, fun j hj => absurd hj (Nat.not_lt_zero _)⟩
  case round =>
    obtain ⟨kk, hkk, hg, rfl, R, A⟩ := hrel
    obtain ⟨BW, BH, BR⟩ := R.out
    by_cases hlt : kk < n
    · have hltz : (kk : Int) < (n : Int) := by omega
      have hz0 : (0 : Int) ≤ (kk : Int) := by omega
      have hDr := HD.out.below BW
      obtain ⟨l1, l2⟩ := hDr.2 kk hlt
      have hcall := Lib.hid (rGood_any (D kk).1 (D kk).2 wr)
      have HDr := Lib.hid hDr
      have S0 := Lib.hid (And.intro BW (And.intro BH BR))
      clear hDr BW BH BR R N X2
      cases hq : gd (D kk)
      · have hq' : gd ((D kk).1, (D kk).2) = false := hq
        rw [hq'] at hcall
        have Q := Lib.hid hq
        clear hq hq'
        go_wp2_with fail
        refine hcall.out.mono ?_; rintro e w2 ⟨rfl, b2⟩
        have g3 := S0.out.1.trans (b2.mono S0.out.1.size)
        have BR := S0.out.2.2.below b2
        have Z := Lib.hid (BR.set (.int .i64 0) (.int .i64 0))
        have gE := (g3.setCell (p := ⟨w.heap.size, 0, none⟩) (by simp) (.int .i64 0)).setCell (p := ⟨w.heap.size, 1, none⟩) (by simp) (.int .i64 0)
        obtain ⟨n0, n1, n2, n3, n4⟩ := BR
        clear b2 g3 hcall l1 l2
        go_wp2_with fail
        obtain ⟨_, r1, r2, _⟩ := Z.out
        generalize (w2.setCell ⟨w.heap.size, 0, none⟩ (.int .i64 0)).setCell ⟨w.heap.size, 1, none⟩ (.int .i64 0) = w4 at r1 r2 gE ⊢
        exact bodyPost_ret (v := .tuple #[.agg #[.int .i64 0, .int .i64 0], .int .i64 1]) (by simp [results, Tryd.results23, go_sem, r1, r2]) rfl (Or.inr ⟨allGd_no hlt Q.out, rfl, gE⟩)
      · have hq' : gd ((D kk).1, (D kk).2) = true := hq
        rw [hq'] at hcall
        have Q := Lib.hid hq
        clear hq hq'
        go_wp2_with fail
        refine hcall.out.mono ?_; rintro e w2 ⟨rfl, b2⟩
        have g3 := S0.out.1.trans (b2.mono S0.out.1.size)
        have BR := S0.out.2.2.below b2
        have BH := S0.out.2.1.below b2
        obtain ⟨l3, l4⟩ := (HDr.out.below b2).2 kk hlt
        have ne2 : w.heap.size ≠ W.heap.size := Nat.ne_of_lt lh.out
        have lh1 := lh.out
        have Z := Lib.hid (fun u v => And.intro (BH.set u v) (And.intro g3 BR))
        obtain ⟨m0, m1, m2, m3, m4⟩ := BH
        clear b2 g3 BR hcall l1 l2 S0 HDr
        generalize hDk : D kk = y at l3 l4
        have DK := Lib.hid hDk
        clear hDk
        by_cases q1 : y.1 < hF D kk
        · have e1 : hF D (kk + 1) = y.1 := by rw [hF_lt (by rw [DK.out]; exact q1), DK.out]
          have e1 := Lib.hid e1
          by_cases q2 : hL D kk < y.2
          · have e2 : hL D (kk + 1) = y.2 := by rw [hL_lt (by rw [DK.out]; exact q2), DK.out]
            have e2 := Lib.hid e2
            go_wp2_with fail
            go_still_tail 17, (by kernel_rfl)

            go_wp2_with fail
            go_roundg (n - (kk + 1))
            case measure => omega
            case rel =>
              obtain ⟨z1, z2, z3⟩ := Z.out (.int .i64 y.1) (.int .i64 y.2)
              refine ⟨kk + 1, by omega, by omega, by go_num, (show Aside _ from ⟨?_, ?_, ?_⟩), (show Aside _ from fun j hj => ?_)⟩
              · exact ((z2.drew).setCell (p := ⟨W.heap.size, 0, none⟩) (Nat.le_of_lt lh1) _).setCell (p := ⟨W.heap.size, 1, none⟩) (Nat.le_of_lt lh1) _
              · rw [e1.out, e2.out]; exact z1
              · exact (z3.other ⟨W.heap.size, 0, none⟩ _ ne2.symm).other ⟨W.heap.size, 1, none⟩ _ ne2.symm
              · by_cases e : j = kk
                · rw [e]; exact Q.out
                · exact A.out j (by omega)
          · have e2 : hL D (kk + 1) = hL D kk := by rw [hL_ge (by rw [DK.out]; exact q2)]
            have e2 := Lib.hid e2
            have q2' : y.2 ≤ hL D kk := by omega
            go_wp2_with fail
            go_still_tail 17, (by kernel_rfl)

            go_wp2_with fail
            go_roundg (n - (kk + 1))
            case measure => omega
            case rel =>
              obtain ⟨z1, z2, z3⟩ := Z.out (.int .i64 y.1) (.int .i64 (hL D kk))
              refine ⟨kk + 1, by omega, by omega, by go_num, (show Aside _ from ⟨?_, ?_, ?_⟩), (show Aside _ from fun j hj => ?_)⟩
              · exact ((z2.drew).setCell (p := ⟨W.heap.size, 0, none⟩) (Nat.le_of_lt lh1) _).setCell (p := ⟨W.heap.size, 1, none⟩) (Nat.le_of_lt lh1) _
              · rw [e1.out, e2.out]; exact z1
              · exact (z3.other ⟨W.heap.size, 0, none⟩ _ ne2.symm).other ⟨W.heap.size, 1, none⟩ _ ne2.symm
              · by_cases e : j = kk
                · rw [e]; exact Q.out
                · exact A.out j (by omega)
        · have e1 : hF D (kk + 1) = hF D kk := by rw [hF_ge (by rw [DK.out]; exact q1)]
          have e1 := Lib.hid e1
          have q1' : hF D kk ≤ y.1 := by omega
          by_cases q2 : hL D kk < y.2
          · have e2 : hL D (kk + 1) = y.2 := by rw [hL_lt (by rw [DK.out]; exact q2), DK.out]
            have e2 := Lib.hid e2
            go_wp2_with fail
            go_still_tail 17, (by kernel_rfl)

            go_wp2_with fail
            go_roundg (n - (kk + 1))
            case measure => omega
            case rel =>
              obtain ⟨z1, z2, z3⟩ := Z.out (.int .i64 (hF D kk)) (.int .i64 y.2)
              refine ⟨kk + 1, by omega, by omega, by go_num, (show Aside _ from ⟨?_, ?_, ?_⟩), (show Aside _ from fun j hj => ?_)⟩
              · exact ((z2.drew).setCell (p := ⟨W.heap.size, 0, none⟩) (Nat.le_of_lt lh1) _).setCell (p := ⟨W.heap.size, 1, none⟩) (Nat.le_of_lt lh1) _
              · rw [e1.out, e2.out]; exact z1
              · exact (z3.other ⟨W.heap.size, 0, none⟩ _ ne2.symm).other ⟨W.heap.size, 1, none⟩ _ ne2.symm
              · by_cases e : j = kk
                · rw [e]; exact Q.out
                · exact A.out j (by omega)
          · have e2 : hL D (kk + 1) = hL D kk := by rw [hL_ge (by rw [DK.out]; exact q2)]
            have e2 := Lib.hid e2
            have q2' : y.2 ≤ hL D kk := by omega
            go_wp2_with fail
            go_still_tail 17, (by kernel_rfl)

            go_wp2_with fail
            go_roundg (n - (kk + 1))
            case measure => omega
            case rel =>
              obtain ⟨z1, z2, z3⟩ := Z.out (.int .i64 (hF D kk)) (.int .i64 (hL D kk))
              refine ⟨kk + 1, by omega, by omega, by go_num, (show Aside _ from ⟨?_, ?_, ?_⟩), (show Aside _ from fun j hj => ?_)⟩
              · exact ((z2.drew).setCell (p := ⟨W.heap.size, 0, none⟩) (Nat.le_of_lt lh1) _).setCell (p := ⟨W.heap.size, 1, none⟩) (Nat.le_of_lt lh1) _
              · rw [e1.out, e2.out]; exact z1
              · exact (z3.other ⟨W.heap.size, 0, none⟩ _ ne2.symm).other ⟨W.heap.size, 1, none⟩ _ ne2.symm
              · by_cases e : j = kk
                · rw [e]; exact Q.out
                · exact A.out j (by omega)
    · have hltz : ¬ (kk : Int) < (n : Int) := by omega
      have : kk = n := by omega
      subst this
      have Z := Lib.hid (BR.set (.int .i64 (hF D kk)) (.int .i64 (hL D kk)))
      have gE := (BW.setCell (p := ⟨w.heap.size, 0, none⟩) (by simp) (.int .i64 (hF D kk))).setCell (p := ⟨w.heap.size, 1, none⟩) (by simp) (.int .i64 (hL D kk))
      obtain ⟨n0, n1, n2, n3, n4⟩ := BR
      obtain ⟨m0, m1, m2, m3, m4⟩ := BH
      clear BW R N X2 g2
      go_wp2
      obtain ⟨_, r1, r2, _⟩ := Z.out
      generalize (wr.setCell ⟨w.heap.size, 0, none⟩ (.int .i64 (hF D kk))).setCell ⟨w.heap.size, 1, none⟩ (.int .i64 (hL D kk)) = w4 at r1 r2 gE ⊢
      exact bodyPost_ret (v := .tuple #[.agg #[.int .i64 (hF D kk), .int .i64 (hL D kk)], .int .i64 0]) (by simp [results, Tryd.results23, go_sem, r1, r2]) rfl (Or.inl ⟨allGd_mk A.out, rfl, gE⟩)
end Go.Proofs.YtbllolalfmgfoaaDoor
