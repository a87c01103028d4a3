/- The hull of a list of datings. -/
import Derived.Test.YtbllolalfmgfoaaDoorDM
namespace Go.Proofs.YtbllolalfmgfoaaDoor
open Go.RowKit Go.Shelf

/-- The ends of the hull of the first datings of a row. -/
def hF (D : Nat → Int × Int) : Nat → Int
  | 0 => (D 0).1
  | k + 1 => mn (hF D k) (D k).1
def hL (D : Nat → Int × Int) : Nat → Int
  | 0 => (D 0).2
  | k + 1 => mx (hL D k) (D k).2
theorem Box2.other {w : World} {B : Nat} {x y : Value} (h : Box2 w B x y) (p : Addr) (u : Value) (hp : p.block ≠ B) : Box2 (w.setCell p u) B x y := by
  obtain ⟨h0, h1, h2, h3, h4⟩ := h
  refine ⟨by simpa using h0, ?_, ?_, by rw [World.frozen?_setCell]; exact h3, by rw [World.frozen?_setCell]; exact h4⟩
  · rw [World.cell?_setCell_other _ _ _ _ (fun e => hp (congrArg Addr.block e))]; exact h1
  · rw [World.cell?_setCell_other _ _ _ _ (fun e => hp (congrArg Addr.block e))]; exact h2
theorem hF_lt {D : Nat → Int × Int} {k : Nat} (h : (D k).1 < hF D k) : hF D (k + 1) = (D k).1 := by unfold hF mn; rw [if_pos h]
theorem hF_ge {D : Nat → Int × Int} {k : Nat} (h : ¬ (D k).1 < hF D k) : hF D (k + 1) = hF D k := by show mn (hF D k) (D k).1 = _; unfold mn; rw [if_neg h]
theorem hL_lt {D : Nat → Int × Int} {k : Nat} (h : hL D k < (D k).2) : hL D (k + 1) = (D k).2 := by unfold hL mx; rw [if_pos h]
theorem hL_ge {D : Nat → Int × Int} {k : Nat} (h : ¬ hL D k < (D k).2) : hL D (k + 1) = hL D k := by show mx (hL D k) (D k).2 = _; unfold mx; rw [if_neg h]

/-- The end of a function with a dating and an error in a cell. -/
theorem Hull_empty (s : Value) (hs : s = .slice none 0 0 ∨ ∃ a c, s = .slice (some a) 0 c) (w : World) :
    Calls Tryd.prog 22 #[s] w (DatE 0 0 9 w) := by
  have X := Box2.new w (.int .i64 0) (.int .i64 0) 23
  have g0 := (Below.refl w.heap.size w).alloc (Nat.le_refl _) (.cells #[.int .i64 0, .int .i64 0] 23)
  generalize hW : w.alloc (.cells #[.int .i64 0, .int .i64 0] 23) = W at X g0
  have Z := Lib.hid (X.set (.int .i64 0) (.int .i64 0))
  have gE := (g0.setCell (p := ⟨w.heap.size, 0, none⟩) (by simp) (.int .i64 0)).setCell (p := ⟨w.heap.size, 1, none⟩) (by simp) (.int .i64 0)
  obtain ⟨y0, y1, y2, y3, y4⟩ := X
  rcases hs with rfl | ⟨a, c, rfl⟩
  all_goals
    go_enter Tryd.func22, Tryd.ntmps22
    go_wp2
    obtain ⟨_, r1, r2, _⟩ := Z.out
    generalize (W.setCell ⟨w.heap.size, 0, none⟩ (.int .i64 0)).setCell ⟨w.heap.size, 1, none⟩ (.int .i64 0) = w4 at r1 r2 gE ⊢
    exact bodyPost_ret (v := .tuple #[.agg #[.int .i64 0, .int .i64 0], .int .i64 9]) (by simp [results, Tryd.results22, go_sem, r1, r2]) rfl ⟨rfl, gE⟩

theorem Hull_large (b off n c : Nat) (w : World) (hn : 1024 < n) (_hm : n ≤ 9223372036854775807) :
    Calls Tryd.prog 22 #[.slice (some ⟨b, off, none⟩) n c] w (DatE 0 0 8 w) := by
  have X := Box2.new w (.int .i64 0) (.int .i64 0) 23
  have g0 := (Below.refl w.heap.size w).alloc (Nat.le_refl _) (.cells #[.int .i64 0, .int .i64 0] 23)
  generalize hW : w.alloc (.cells #[.int .i64 0, .int .i64 0] 23) = W at X g0
  have Z := Lib.hid (X.set (.int .i64 0) (.int .i64 0))
  have gE := (g0.setCell (p := ⟨w.heap.size, 0, none⟩) (by simp) (.int .i64 0)).setCell (p := ⟨w.heap.size, 1, none⟩) (by simp) (.int .i64 0)
  obtain ⟨y0, y1, y2, y3, y4⟩ := X
  have e1 : ¬ (n : Int) = 0 := by omega
  have e2 : (1024 : Int) < (n : Int) := by omega
  go_enter Tryd.func22, Tryd.ntmps22
  go_wp2
  obtain ⟨_, r1, r2, _⟩ := Z.out
  generalize (W.setCell ⟨w.heap.size, 0, none⟩ (.int .i64 0)).setCell ⟨w.heap.size, 1, none⟩ (.int .i64 0) = w4 at r1 r2 gE ⊢
  exact bodyPost_ret (v := .tuple #[.agg #[.int .i64 0, .int .i64 0], .int .i64 8]) (by simp [results, Tryd.results22, go_sem, r1, r2]) rfl ⟨rfl, gE⟩

theorem Hull_bad (b off n c : Nat) (D : Nat → Int × Int) (w : World) (hn : n ≤ 1024) (h0 : 0 < n) (hD : Dats w b off n D) (hg : allGd D n = false) :
    Calls Tryd.prog 22 #[.slice (some ⟨b, off, none⟩) n c] w (DatE 0 0 1 w) := by
  have X := Box2.new w (.int .i64 0) (.int .i64 0) 23
  have g0 := (Below.refl w.heap.size w).alloc (Nat.le_refl _) (.cells #[.int .i64 0, .int .i64 0] 23)
  have hv := Lib.hid (valid_any b off n c D _ (by omega) (hD.below g0))
  rw [hg] at hv
  generalize hW : w.alloc (.cells #[.int .i64 0, .int .i64 0] 23) = W at X g0 hv
  have e1 : ¬ (n : Int) = 0 := by omega
  have e2 : ¬ (1024 : Int) < (n : Int) := by omega
  clear hD hg
  go_enter Tryd.func22, Tryd.ntmps22
  go_wp2_with fail
  refine hv.out.mono ?_; rintro e w1 ⟨rfl, b1⟩
  have X1 := X.below b1
  have g1 := g0.trans (b1.mono g0.size)
  have Z := Lib.hid (X1.set (.int .i64 0) (.int .i64 0))
  have gE := (g1.setCell (p := ⟨w.heap.size, 0, none⟩) (by simp) (.int .i64 0)).setCell (p := ⟨w.heap.size, 1, none⟩) (by simp) (.int .i64 0)
  obtain ⟨y0, y1, y2, y3, y4⟩ := X1
  clear b1 hv X
  go_wp2
  obtain ⟨_, r1, r2, _⟩ := Z.out
  generalize (w1.setCell ⟨w.heap.size, 0, none⟩ (.int .i64 0)).setCell ⟨w.heap.size, 1, none⟩ (.int .i64 0) = w4 at r1 r2 gE ⊢
  exact bodyPost_ret (v := .tuple #[.agg #[.int .i64 0, .int .i64 0], .int .i64 1]) (by simp [results, Tryd.results22, go_sem, r1, r2]) rfl ⟨rfl, gE⟩

set_option maxHeartbeats 4000000 in
theorem Hull_good (b off n c : Nat) (D : Nat → Int × Int) (w : World) (hn : n ≤ 1024) (h0 : 0 < n) (hD : Dats w b off n D) (hg : allGd D n = true) :
    Calls Tryd.prog 22 #[.slice (some ⟨b, off, none⟩) n c] w (DatE (hF D n) (hL D n) 0 w) := by
  have X := Box2.new w (.int .i64 0) (.int .i64 0) 23
  have g0 := (Below.refl w.heap.size w).alloc (Nat.le_refl _) (.cells #[.int .i64 0, .int .i64 0] 23)
  have hv := Lib.hid (valid_any b off n c D _ (by omega) (hD.below g0))
  rw [hg] at hv
  generalize hW : w.alloc (.cells #[.int .i64 0, .int .i64 0] 23) = W at X g0 hv
  have e1 : ¬ (n : Int) = 0 := by omega
  have e2 : ¬ (1024 : Int) < (n : Int) := by omega
  have e3 : (0 : Int) < (n : Int) := by omega
  have HD := Lib.hid hD
  clear hD hg
  go_enter Tryd.func22, Tryd.ntmps22
  go_wp2_with fail
  refine hv.out.mono ?_; rintro e w1 ⟨rfl, b1⟩
  have X1 := X.below b1
  have g1 := g0.trans (b1.mono g0.size)
  obtain ⟨d0, d1⟩ := (HD.out.below g1).2 0 h0
  have d0 : w1.cell? ⟨b, off, none⟩ = some (.int .i64 (D 0).1) := by simpa using d0
  have d1 : w1.cell? ⟨b, off + 1, none⟩ = some (.int .i64 (D 0).2) := by simpa using d1
  have N := Box2.new w1 (.int .i64 (D 0).1) (.int .i64 (D 0).2) 23
  have X2 := X1.alloc (.cells #[.int .i64 (D 0).1, .int .i64 (D 0).2] 23)
  have g2 := g1.alloc g1.size (.cells #[.int .i64 (D 0).1, .int .i64 (D 0).2] 23)
  have lh : w.heap.size < w1.heap.size := X1.1
  clear b1 hv X X1
  have N := Lib.hid N
  have X2 := Lib.hid X2
  change Aside _ at lh
  go_wp2_with fail
  generalize hW1 : w1.alloc (.cells #[.int .i64 (D 0).1, .int .i64 (D 0).2] 23) = V at N X2 g2 ⊢
  clear d0 d1 hW hW1
  have HD2 := Lib.hid (HD.out.below g2)
  have hV := g2.size
  go_loopg [6, 27] n (fun gg _ s27 wr => ∃ kk : Nat, kk ≤ n ∧ n - kk ≤ gg ∧ s27 = .int .i64 kk ∧ Aside (Below w.heap.size w wr ∧ Box2 wr w1.heap.size (.int .i64 (hF D kk)) (.int .i64 (hL D kk)) ∧ Box2 wr w.heap.size (.int .i64 0) (.int .i64 0)))
  case atStart => exact ⟨0, Nat.zero_le _, by omega, rfl, g2, N.out, X2.out⟩
  case round =>
    obtain ⟨kk, hkk, hg, rfl, R⟩ := hrel
    obtain ⟨BW, BH, BR⟩ := R.out
    by_cases hlt : kk < n
    · have hltz : (kk : Int) < (n : Int) := by omega
      obtain ⟨l1, l2⟩ := (HD.out.below BW).2 kk hlt
      have NX := Box2.new wr (.int .i64 (D kk).1) (.int .i64 (D kk).2) 23
      have AB := (Below.refl wr.heap.size wr).alloc (Nat.le_refl _) (.cells #[.int .i64 (D kk).1, .int .i64 (D kk).2] 23)
      have BH2 := BH.below AB
      have BR2 := BR.below AB
      have BW2 := BW.trans (AB.mono BW.size)
      have ne1 : w1.heap.size ≠ wr.heap.size := Nat.ne_of_lt BH.1
      have ne2 : w.heap.size ≠ w1.heap.size := Nat.ne_of_lt lh.out
      have ne3 : wr.heap.size ≠ w1.heap.size := Ne.symm ne1
      have lh1 := lh.out
      clear AB BH BR BW R N X2 HD2 g2
      have Z := Lib.hid (fun u v => And.intro (BH2.set u v) (And.intro (BW2) BR2))
      obtain ⟨n0, n1, n2, n3, n4⟩ := NX
      obtain ⟨m0, m1, m2, m3, m4⟩ := BH2
      clear BR2 BW2
      by_cases q1 : (D kk).1 < hF D kk
      · have e1 := Lib.hid (hF_lt q1)
        by_cases q2 : hL D kk < (D kk).2
        · have e2 := Lib.hid (hL_lt q2)
          go_wp2_with fail
          go_roundg (n - (kk + 1))
          case measure => omega
          case rel =>
            obtain ⟨z1, z2, z3⟩ := Z.out (.int .i64 (D kk).1) (.int .i64 (D kk).2)
            refine ⟨kk + 1, by omega, by omega, by go_num, (show Aside _ from ⟨?_, ?_, ?_⟩)⟩
            · exact (z2.setCell (p := ⟨w1.heap.size, 0, none⟩) (Nat.le_of_lt lh1) _).setCell (p := ⟨w1.heap.size, 1, none⟩) (Nat.le_of_lt lh1) _
            · rw [e1.out, e2.out]; exact z1
            · exact (z3.other ⟨w1.heap.size, 0, none⟩ _ ne2.symm).other ⟨w1.heap.size, 1, none⟩ _ ne2.symm
        · have e2 := Lib.hid (hL_ge q2)
          have q2' : (D kk).2 ≤ hL D kk := by omega
          go_wp2_with fail
          go_roundg (n - (kk + 1))
          case measure => omega
          case rel =>
            obtain ⟨z1, z2, z3⟩ := Z.out (.int .i64 (D kk).1) (.int .i64 (hL D kk))
            refine ⟨kk + 1, by omega, by omega, by go_num, (show Aside _ from ⟨?_, ?_, ?_⟩)⟩
            · exact (z2.setCell (p := ⟨w1.heap.size, 0, none⟩) (Nat.le_of_lt lh1) _).setCell (p := ⟨w1.heap.size, 1, none⟩) (Nat.le_of_lt lh1) _
            · rw [e1.out, e2.out]; exact z1
            · exact (z3.other ⟨w1.heap.size, 0, none⟩ _ ne2.symm).other ⟨w1.heap.size, 1, none⟩ _ ne2.symm
      · have e1 := Lib.hid (hF_ge q1)
        have q1' : hF D kk ≤ (D kk).1 := by omega
        by_cases q2 : hL D kk < (D kk).2
        · have e2 := Lib.hid (hL_lt q2)
          go_wp2_with fail
          go_roundg (n - (kk + 1))
          case measure => omega
          case rel =>
            obtain ⟨z1, z2, z3⟩ := Z.out (.int .i64 (hF D kk)) (.int .i64 (D kk).2)
            refine ⟨kk + 1, by omega, by omega, by go_num, (show Aside _ from ⟨?_, ?_, ?_⟩)⟩
            · exact (z2.setCell (p := ⟨w1.heap.size, 0, none⟩) (Nat.le_of_lt lh1) _).setCell (p := ⟨w1.heap.size, 1, none⟩) (Nat.le_of_lt lh1) _
            · rw [e1.out, e2.out]; exact z1
            · exact (z3.other ⟨w1.heap.size, 0, none⟩ _ ne2.symm).other ⟨w1.heap.size, 1, none⟩ _ ne2.symm
        · have e2 := Lib.hid (hL_ge q2)
          have q2' : (D kk).2 ≤ hL D kk := by omega
          go_wp2_with fail
          go_roundg (n - (kk + 1))
          case measure => omega
          case rel =>
            obtain ⟨z1, z2, z3⟩ := Z.out (.int .i64 (hF D kk)) (.int .i64 (hL D kk))
            refine ⟨kk + 1, by omega, by omega, by go_num, (show Aside _ from ⟨?_, ?_, ?_⟩)⟩
            · exact (z2.setCell (p := ⟨w1.heap.size, 0, none⟩) (Nat.le_of_lt lh1) _).setCell (p := ⟨w1.heap.size, 1, none⟩) (Nat.le_of_lt lh1) _
            · rw [e1.out, e2.out]; exact z1
            · exact (z3.other ⟨w1.heap.size, 0, none⟩ _ ne2.symm).other ⟨w1.heap.size, 1, none⟩ _ ne2.symm
    · have hltz : ¬ (kk : Int) < (n : Int) := by omega
      have : kk = n := by omega
      subst this
      have Z := Lib.hid (BR.set (.int .i64 (hF D kk)) (.int .i64 (hL D kk)))
      have gE := (BW.setCell (p := ⟨w.heap.size, 0, none⟩) (by simp) (.int .i64 (hF D kk))).setCell (p := ⟨w.heap.size, 1, none⟩) (by simp) (.int .i64 (hL D kk))
      obtain ⟨n0, n1, n2, n3, n4⟩ := BR
      obtain ⟨m0, m1, m2, m3, m4⟩ := BH
      clear BW R N X2 HD2 g2
      go_wp2
      obtain ⟨_, r1, r2, _⟩ := Z.out
      generalize (wr.setCell ⟨w.heap.size, 0, none⟩ (.int .i64 (hF D kk))).setCell ⟨w.heap.size, 1, none⟩ (.int .i64 (hL D kk)) = w4 at r1 r2 gE ⊢
      exact bodyPost_ret (v := .tuple #[.agg #[.int .i64 (hF D kk), .int .i64 (hL D kk)], .int .i64 0]) (by simp [results, Tryd.results22, go_sem, r1, r2]) rfl ⟨rfl, gE⟩
end Go.Proofs.YtbllolalfmgfoaaDoor
