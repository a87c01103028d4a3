/- What Format and Parse give at a year. -/
import Derived.Test.YtbllolalfmgfoaaDoorDH
namespace Go.Proofs.YtbllolalfmgfoaaDoor
open Go.RowKit Go.Shelf

theorem always_any (w : World) : Calls Tryd.prog 32 #[] w fun e w' => e = .returned (.agg #[.int .i64 0, .int .i64 1048575]) ∧ Below w.heap.size w w' := by
  have gB := (Below.refl w.heap.size w).alloc (Nat.le_refl _) (.cells #[.int .i64 0, .int .i64 0] 23)
  have X := Box2.new w (.int .i64 0) (.int .i64 0) 23
  generalize hW : w.alloc (.cells #[.int .i64 0, .int .i64 0] 23) = W at gB X
  obtain ⟨_, r1, r2, _⟩ := X.set (.int .i64 0) (.int .i64 1048575)
  have gE := (gB.setCell (p := ⟨w.heap.size, 0, none⟩) (by simp) (.int .i64 0)).setCell (p := ⟨w.heap.size, 1, none⟩) (by simp) (.int .i64 1048575)
  obtain ⟨y0, y1, y2, y3, y4⟩ := X
  go_enter Tryd.func32, Tryd.ntmps32
  go_wp2
  generalize (W.setCell ⟨w.heap.size, 0, none⟩ (.int .i64 0)).setCell ⟨w.heap.size, 1, none⟩ (.int .i64 1048575) = w4 at r1 r2 gE ⊢
  exact bodyPost_ret (v := .agg #[.int .i64 0, .int .i64 1048575]) (by simp [results, Tryd.results32, go_sem, r1, r2]) rfl ⟨rfl, gE⟩

set_option maxHeartbeats 2000000 in
theorem Format_year (a b y : Int) (w : World) (hT : Tab w) (hA : Cal.DateIs a y 1 1) (hB : Cal.DateIs b y 12 31) (a0 : 0 ≤ a) (b1 : b ≤ 1048575) (hab : a ≤ b) (hne : ¬ a = 0) :
    Calls Tryd.prog 24 #[.agg #[.int .i64 a, .int .i64 b]] w (Said ((SD y 1 1).extract 0 4) 0 w) := by
  have hg : chk (a, b) = 0 := chk_t (gd_mk ⟨a0, hab, b1⟩)
  have gB := (Below.refl w.heap.size w).alloc (Nat.le_refl _) (.cells #[.int .i64 a, .int .i64 b] 23)
  have X := Box2.new w (.int .i64 a) (.int .i64 b) 23
  have q := eqD a b 0 1048575
  rw [decide_eq_false (fun h => hne h.1)] at q
  have qg := eqDg a b 0 1048575
  have cj := Lib.hid (fun V (hV : Below w.heap.size w V) => just_year a b y V (hT.below hV) hA hB a0 b1 hab)
  have ct := Lib.hid (fun V (hV : Below w.heap.size w V) => text_any a 4 y 1 1 V (hT.below hV) hA a0 (by omega) (by omega) (by omega))
  have cc := Lib.hid (Check_any a b (w.alloc (.cells #[.int .i64 a, .int .i64 b] 23)))
  have HT := Lib.hid hT
  have HA := Lib.hid hA
  clear hT hA hB
  go_enter Tryd.func24, Tryd.ntmps24
  go_wp2_with fail
  generalize hW : w.alloc (.cells #[.int .i64 a, .int .i64 b] 23) = W at cc gB X ⊢
  clear hW
  refine cc.out.mono ?_; rintro e w1 ⟨rfl, hb1⟩
  rw [hg]
  have X1 := X.below hb1
  have g1 := gB.trans (hb1.mono gB.size)
  clear X gB hb1 cc
  obtain ⟨s1, k0, k1, _⟩ := X1
  go_wp2_with fail
  go_region_with (go_at_call 32; refine (always_any _).mono ?_; rintro e w2 ⟨rfl, hb2⟩; have m0 := (hb2.cell (p := ⟨w.heap.size, 0, none⟩) s1).trans k0; have m1 := (hb2.cell (p := ⟨w.heap.size, 1, none⟩) s1).trans k1; have g2 := Below.trans g1 (Below.mono (show Below w1.heap.size w1 _ from by first | exact hb2 | exact (Below.refl w1.heap.size w1).drew.trans hb2) g1.size))
  all_goals
    go_wp2_with fail
    refine (cj.out _ g2).mono ?_; rintro e w3 ⟨rfl, hb3⟩
    have g3 := g2.trans (hb3.mono g2.size)
    have g4 := g3.alloc g3.size (.cells #[.int .i64 a, .int .i64 4] 51)
    clear hb2 hb3 g3 m0 m1
    go_wp2_with fail
    refine (ct.out _ g4).mono ?_; rintro e w5 ⟨rfl, hb5⟩
    have g5 := g4.trans (hb5.mono g4.size)
    go_wp2
    go_ret2
    exact ⟨rfl, g5⟩

set_option maxHeartbeats 1000000 in
theorem parseUnknown_no (s : ByteArray) (w : World) (h : (s.toList == [117, 110, 107, 110, 111, 119, 110]) = false) :
    Calls Tryd.prog 43 #[.string s] w fun e w' => e = .returned (.tuple #[.agg #[.int .i64 0, .int .i64 0], .int .i64 3]) ∧ Below w.heap.size w w' := by
  have gB := (Below.refl w.heap.size w).alloc (Nat.le_refl _) (.cells #[.int .i64 0, .int .i64 0] 23)
  have X := Box2.new w (.int .i64 0) (.int .i64 0) 23
  generalize hW : w.alloc (.cells #[.int .i64 0, .int .i64 0] 23) = W at gB X
  have Y := Lib.hid (X.set (.int .i64 0) (.int .i64 0))
  have gE := (gB.setCell (p := ⟨w.heap.size, 0, none⟩) (by simp) (.int .i64 0)).setCell (p := ⟨w.heap.size, 1, none⟩) (by simp) (.int .i64 0)
  obtain ⟨y0, y1, y2, y3, y4⟩ := X
  go_enter Tryd.func43, Tryd.ntmps43
  go_wp2
  obtain ⟨_, r1, r2, _⟩ := Y.out
  generalize (W.setCell ⟨w.heap.size, 0, none⟩ (.int .i64 0)).setCell ⟨w.heap.size, 1, none⟩ (.int .i64 0) = w4 at r1 r2 gE ⊢
  exact bodyPost_ret (v := .tuple #[.agg #[.int .i64 0, .int .i64 0], .int .i64 3]) (by simp [results, Tryd.results43, go_sem, r1, r2]) rfl ⟨rfl, gE⟩

set_option maxHeartbeats 1000000 in
/-- The period that a text of four bytes with this year's first day names. -/
theorem parsePeriod4 (s : ByteArray) (y : Int) (w : World) (hT : Tab w) (hs : s.size = 4) (hp : ∀ V, Tab V → Calls Tryd.prog 88 #[.string (s ++ ⟨#[45, 48, 49, 45, 48, 49]⟩)] V (TwoB (Cal.num y 1 1) 0 V)) :
    Calls Tryd.prog 71 #[.string s] w fun e w' => e = .returned (.tuple #[.agg #[.int .i64 (Cal.num y 1 1), .int .i64 4], .int .i64 0]) ∧ Below w.heap.size w w' := by
  have gB := (Below.refl w.heap.size w).alloc (Nat.le_refl _) (.cells #[.int .i64 0, .int .i64 0] 51)
  have X := Box2.new w (.int .i64 0) (.int .i64 0) 51
  have hz : (s.size : Int) = 4 := by omega
  have HP := Lib.hid (hp _ (hT.below gB))
  generalize hW : w.alloc (.cells #[.int .i64 0, .int .i64 0] 51) = W at gB X HP
  have X := Lib.hid X
  clear hp hT
  go_enter Tryd.func71, Tryd.ntmps71
  go_wp2_with fail
  refine HP.out.mono ?_; rintro e w1 ⟨rfl, hb1⟩
  have X1 := X.out.below hb1
  have g1 := gB.trans (hb1.mono gB.size)
  have Y := Lib.hid (X1.set (.int .i64 (Cal.num y 1 1)) (.int .i64 4))
  have gE := (g1.setCell (p := ⟨w.heap.size, 0, none⟩) (by simp) (.int .i64 (Cal.num y 1 1))).setCell (p := ⟨w.heap.size, 1, none⟩) (by simp) (.int .i64 4)
  obtain ⟨y0, y1, y2, y3, y4⟩ := X1
  clear HP hb1 g1
  go_wp2
  obtain ⟨_, r1, r2, _⟩ := Y.out
  generalize (w1.setCell ⟨w.heap.size, 0, none⟩ (.int .i64 (Cal.num y 1 1))).setCell ⟨w.heap.size, 1, none⟩ (.int .i64 4) = w4 at r1 r2 gE ⊢
  exact bodyPost_ret (v := .tuple #[.agg #[.int .i64 (Cal.num y 1 1), .int .i64 4], .int .i64 0]) (by simp [results, Tryd.results71, go_sem, r1, r2]) rfl ⟨rfl, gE⟩

set_option maxHeartbeats 4000000 in
theorem parseAlone4 (s : ByteArray) (y b : Int) (w : World) (hT : Tab w) (hs : s.size = 4) (hy : ofB y 1 1 = true) (hb : orMax y 12 31 = b)
    (hp : ∀ V, Tab V → Calls Tryd.prog 88 #[.string (s ++ ⟨#[45, 48, 49, 45, 48, 49]⟩)] V (TwoB (Cal.num y 1 1) 0 V)) :
    Calls Tryd.prog 44 #[.string s] w fun e w' => e = .returned (.tuple #[.agg #[.int .i64 (Cal.num y 1 1), .int .i64 b], .int .i64 0]) ∧ Below w.heap.size w w' := by
  have gB := (Below.refl w.heap.size w).alloc (Nat.le_refl _) (.cells #[.int .i64 0, .int .i64 0] 23)
  have X := Box2.new w (.int .i64 0) (.int .i64 0) 23
  have D := Cal.DateIs.of_good (ofB_good hy)
  have d0 : 0 ≤ Cal.num y 1 1 := by have := D.year.1; have := (Cal.ys_bd y D.y0).1; have := D.y0; omega
  have d1 := (ofB_good hy).2.2
  have CP := Lib.hid (parsePeriod4 s y _ (hT.below gB) hs hp)
  have CL := Lib.hid (fun V (hV : Below w.heap.size w V) => last_year (Cal.num y 1 1) y 1 1 V (hT.below hV) D d0 d1)
  rw [hb] at CL
  generalize Cal.num y 1 1 = a at CP CL ⊢
  generalize hW : w.alloc (.cells #[.int .i64 0, .int .i64 0] 23) = W at gB X CP
  have X := Lib.hid X
  clear hp hT D d0 d1 hy hb
  go_enter Tryd.func44, Tryd.ntmps44
  go_wp2_with fail
  refine CP.out.mono ?_; rintro e w1 ⟨rfl, hb1⟩
  have X1 := X.out.below hb1
  have g1 := gB.trans (hb1.mono gB.size)
  have N := Box2.new w1 (.int .i64 a) (.int .i64 4) 51
  have X2 := X1.alloc (.cells #[.int .i64 a, .int .i64 4] 51)
  have g2 := g1.alloc g1.size (.cells #[.int .i64 a, .int .i64 4] 51)
  have le1 : w.heap.size ≤ w1.heap.size := g1.size
  have X2 := Lib.hid X2
  obtain ⟨n0, n1, n2, n3, n4⟩ := N
  clear CP hb1 g1 X1
  go_wp2_with fail
  generalize hW2 : w1.alloc (.cells #[.int .i64 a, .int .i64 4] 51) = W2 at g2 X2 n0 n1 n2 n3 n4 ⊢
  go_region_with (go_at_call 48; refine (CL.out _ (by first | exact g2 | exact g2.drew)).mono ?_; rintro e w3 ⟨rfl, hb3⟩; have hb4 : Below W2.heap.size W2 w3 := (by first | exact hb3 | exact (Below.refl W2.heap.size W2).drew.trans hb3); have m0 := (hb4.cell (p := ⟨w1.heap.size, 0, none⟩) n0).trans n1; have X3 := Lib.hid (X2.out.below hb4); have g3 := g2.trans (hb4.mono g2.size); obtain ⟨y0, y1, y2, y3, y4⟩ := X3.out)
  all_goals
    go_wp2
    have gE := (g3.setCell (p := ⟨w.heap.size, 0, none⟩) (by simp) (.int .i64 a)).setCell (p := ⟨w.heap.size, 1, none⟩) (by simp) (.int .i64 b)
    obtain ⟨_, r1, r2, _⟩ := X3.out.set (.int .i64 a) (.int .i64 b)
    generalize (w3.setCell ⟨w.heap.size, 0, none⟩ (.int .i64 a)).setCell ⟨w.heap.size, 1, none⟩ (.int .i64 b) = w4 at r1 r2 gE ⊢
    exact bodyPost_ret (v := .tuple #[.agg #[.int .i64 a, .int .i64 b], .int .i64 0]) (by simp [results, Tryd.results44, go_sem, r1, r2]) rfl ⟨rfl, gE⟩
end Go.Proofs.YtbllolalfmgfoaaDoor
