/- The walks of DayTexts and DayBack. -/
import Derived.Test.YtjjkciakkknhkaaDoorLaws
import Derived.Test.YtjjkciakkknhkaaDoorParse3
namespace Go.Proofs.YtjjkciakkknhkaaDoor
open Go.RowKit Go.PlainAid

set_option maxRecDepth 100000 in
set_option maxHeartbeats 4000000 in
theorem DayTexts_any (d : Int) (s : ByteArray) (w : World) (hT : Tab w) :
    Calls Tryd.prog 5 #[.int .i64 d, .string s] w fun e w' => e = .returned (.bool true) ∧ Below w.heap.size w w' := by
  by_cases hl : 40 < s.size
  · go_enter Tryd.func5, Tryd.ntmps5
    go_wp2_with (go_at_call 10; refine (awake_any _ hT).mono ?_; rintro e w1 ⟨rfl, hb⟩)
    go_ret
    exact ⟨rfl, hb⟩
  · have F1 : Hid (∃ a x, ∀ w1, Tab w1 → Calls Tryd.prog 23 #[.int .i64 d] w1 (Said a x w1) ∧ Calls Tryd.prog 24 #[.int .i64 d] w1 (Spoke a x w1)) := by
      cases hd : dayB d
      · exact ⟨_, _, fun w1 _ => ⟨Format_no d w1 hd, refFormat_no d w1 hd⟩⟩
      · obtain ⟨h0, h1⟩ := dayB_t hd
        obtain ⟨u, v, r, hD⟩ := Cal.exists_date d h0 h1
        exact ⟨_, _, fun w1 t1 => ⟨Format_yes d u v r w1 t1 hD h0 h1, refFormat_yes d u v r w1 hD h0 h1⟩⟩
    have F2 : Hid (∃ a x, ∀ w1, Tab w1 → Calls Tryd.prog 25 #[.string s] w1 (TwoB a x w1) ∧ Calls Tryd.prog 26 #[.string s] w1 (Two a x w1)) := by
      cases hf : formB s
      · exact ⟨_, _, fun w1 _ => ⟨Parse_no s w1 hf, refParse_no s w1 hf⟩⟩
      · obtain ⟨h, h0, h1, h2, h3, h4, h5, h6, h7, h8, h9⟩ := formB_t hf
        exact ⟨_, _, fun w1 t1 => ⟨Parse_yes s w1 t1 h h0 h1 h2 h3 h4 h5 h6 h7 h8 h9, refParse_yes s w1 hf⟩⟩
    obtain ⟨a, x, G1⟩ := F1.out
    obtain ⟨b, y, G2⟩ := F2.out
    have G1 := Lib.hid G1
    have G2 := Lib.hid G2
    clear F1 F2
    rename_i Z1 Z2
    clear Z1 Z2
    go_enter Tryd.func5, Tryd.ntmps5
    go_wp2_with fail
    refine (awake_any _ hT).mono ?_; rintro e w1 ⟨rfl, hb⟩
    have hT1 := hT.below hb
    go_wp2_with fail
    refine (G1.out w1 hT1).1.mono ?_; rintro e w2 ⟨rfl, hb2⟩
    have hT2 := hT1.below hb2
    go_wp2_with fail
    refine (G1.out w2 hT2).2.mono ?_; rintro e w' ⟨rfl, rfl⟩
    go_wp2_with fail
    refine (G2.out w2 hT2).1.mono ?_; rintro e w3 ⟨rfl, hb3⟩
    have hT3 := hT2.below hb3
    go_wp2_with fail
    refine (G2.out w3 hT3).2.mono ?_; rintro e w' ⟨rfl, rfl⟩
    go_wp2
    go_ret
    exact ⟨rfl, (hb.trans (hb2.mono hb.size)).trans (hb3.mono (Nat.le_trans hb.size hb2.size))⟩

theorem eq_of_bt {a b : ByteArray} (hs : a.size = b.size) (h : ∀ i, i < a.size → bt a i = bt b i) : a = b := by
  apply ByteArray.ext
  apply Array.ext
  · exact hs
  · intro i h1 h2
    have e := h i h1
    unfold bt at e
    have g1 : i < a.size := h1
    have g2 : i < b.size := h2
    rw [dif_pos g1, dif_pos g2] at e
    have e' : (a[i]'g1).toNat = (b[i]'g2).toNat := by omega
    exact UInt8.toNat_inj.1 e'
theorem SD_eq (y m k : Int) : SD y m k = ⟨#[dg (y / 10 / 10 / 10), dg (y / 10 / 10), dg (y / 10), dg y, 45, dg (m / 10), dg m, 45, dg (k / 10), dg k]⟩ := by
  apply ByteArray.ext; simp [SD, S4, S2]
theorem SD_bt (y m k : Int) : bt (SD y m k) 0 = 48 + y / 10 / 10 / 10 % 10 ∧ bt (SD y m k) 1 = 48 + y / 10 / 10 % 10 ∧ bt (SD y m k) 2 = 48 + y / 10 % 10 ∧ bt (SD y m k) 3 = 48 + y % 10 ∧ bt (SD y m k) 4 = 45 ∧
    bt (SD y m k) 5 = 48 + m / 10 % 10 ∧ bt (SD y m k) 6 = 48 + m % 10 ∧ bt (SD y m k) 7 = 45 ∧ bt (SD y m k) 8 = 48 + k / 10 % 10 ∧ bt (SD y m k) 9 = 48 + k % 10 := by
  rw [SD_eq]
  exact ⟨dg_toNat _, dg_toNat _, dg_toNat _, dg_toNat _, rfl, dg_toNat _, dg_toNat _, rfl, dg_toNat _, dg_toNat _⟩
theorem SD_size (y m k : Int) : (SD y m k).size = 10 := by rw [SD_eq]; rfl
theorem SD_form (y m k : Int) : formB (SD y m k) = true := by
  obtain ⟨e0, e1, e2, e3, e4, e5, e6, e7, e8, e9⟩ := SD_bt y m k
  unfold formB
  rw [e0, e1, e2, e3, e4, e5, e6, e7, e8, e9, SD_size]
  exact decide_eq_true ⟨rfl, by omega, by omega, by omega, by omega, rfl, by omega, by omega, rfl, by omega, by omega⟩
theorem SD_Y (y m k : Int) (h0 : 0 ≤ y) (h1 : y ≤ 9999) : tY (SD y m k) = y := by
  obtain ⟨e0, e1, e2, e3, _, _, _, _, _, _⟩ := SD_bt y m k
  unfold tY num4; rw [e0, e1, e2, e3]; omega
theorem SD_M (y m k : Int) (h0 : 0 ≤ m) (h1 : m ≤ 99) : tM (SD y m k) = m := by
  obtain ⟨_, _, _, _, _, e5, e6, _, _, _⟩ := SD_bt y m k
  unfold tM num2; rw [e5, e6]; omega
theorem SD_D (y m k : Int) (h0 : 0 ≤ k) (h1 : k ≤ 99) : tD (SD y m k) = k := by
  obtain ⟨_, _, _, _, _, _, _, _, e8, e9⟩ := SD_bt y m k
  unfold tD num2; rw [e8, e9]; omega
theorem SD_back {s : ByteArray} (h : formB s = true) : SD (tY s) (tM s) (tD s) = s := by
  obtain ⟨hs, h0, h1, h2, h3, h4, h5, h6, h7, h8, h9⟩ := formB_t h
  obtain ⟨e0, e1, e2, e3, e4, e5, e6, e7, e8, e9⟩ := SD_bt (tY s) (tM s) (tD s)
  unfold isD at h0 h1 h2 h3 h5 h6 h8 h9
  have dY : tY s = num4 (bt s 0) (bt s 1) (bt s 2) (bt s 3) := rfl
  have dM : tM s = num2 (bt s 5) (bt s 6) := rfl
  have dD : tD s = num2 (bt s 8) (bt s 9) := rfl
  unfold num4 at dY; unfold num2 at dM dD
  refine eq_of_bt (by rw [SD_size, hs]) (fun i hi => ?_)
  rw [SD_size] at hi
  have : i = 0 ∨ i = 1 ∨ i = 2 ∨ i = 3 ∨ i = 4 ∨ i = 5 ∨ i = 6 ∨ i = 7 ∨ i = 8 ∨ i = 9 := by omega
  rcases this with rfl | rfl | rfl | rfl | rfl | rfl | rfl | rfl | rfl | rfl
  · rw [e0]; omega
  · rw [e1]; omega
  · rw [e2]; omega
  · rw [e3]; omega
  · rw [e4]; omega
  · rw [e5]; omega
  · rw [e6]; omega
  · rw [e7]; omega
  · rw [e8]; omega
  · rw [e9]; omega

/-- Parse of a day's text. -/
theorem Parse_SD {d y m k : Int} (w : World) (hT : Tab w) (hD : Cal.DateIs d y m k) (h1 : d ≤ 1048575) :
    Calls Tryd.prog 25 #[.string (SD y m k)] w (TwoB d 0 w) := by
  obtain ⟨h, f0, f1, f2, f3, f4, f5, f6, f7, f8, f9⟩ := formB_t (SD_form y m k)
  have c := Parse_yes (SD y m k) w hT h f0 f1 f2 f3 f4 f5 f6 f7 f8 f9
  have lb := Cal.ln_bd y m
  have := hD.y0; have := hD.y1; have := hD.m0; have := hD.m1; have := hD.k0; have := hD.k1
  rw [SD_Y y m k (by omega) (by omega), SD_M y m k (by omega) (by omega), SD_D y m k (by omega) (by omega)] at c
  have hb := ofB_mk (hD.good h1)
  rw [ofV_yes hb, ofE_yes hb, hD.eq] at c
  exact c

set_option maxRecDepth 100000 in
set_option maxHeartbeats 4000000 in
theorem DayBack_any (d : Int) (s : ByteArray) (w : World) (hT : Tab w) :
    Calls Tryd.prog 8 #[.int .i64 d, .string s] w fun e w' => e = .returned (.bool true) ∧ Below w.heap.size w w' := by
  by_cases hl : 40 < s.size
  · go_enter Tryd.func8, Tryd.ntmps8
    go_wp2_with (go_at_call 10; refine (awake_any _ hT).mono ?_; rintro e w1 ⟨rfl, hb⟩)
    go_ret
    exact ⟨rfl, hb⟩
  · have P : Hid ((∃ x, (x = 2 ∨ x = 3) ∧ ∀ w1, Tab w1 → Calls Tryd.prog 25 #[.string s] w1 (TwoB 0 x w1)) ∨
        (∃ v y m k, Cal.DateIs v y m k ∧ 0 ≤ v ∧ v ≤ 1048575 ∧ SD y m k = s ∧ ∀ w1, Tab w1 → Calls Tryd.prog 25 #[.string s] w1 (TwoB v 0 w1))) := by
      cases hf : formB s
      · exact Or.inl ⟨3, Or.inr rfl, fun w1 _ => Parse_no s w1 hf⟩
      · obtain ⟨h, h0, h1, h2, h3, h4, h5, h6, h7, h8, h9⟩ := formB_t hf
        have c := fun w1 t1 => Parse_yes s w1 t1 h h0 h1 h2 h3 h4 h5 h6 h7 h8 h9
        cases hb : ofB (tY s) (tM s) (tD s)
        · rw [ofV_no hb, ofE_no hb] at c
          exact Or.inl ⟨2, Or.inl rfl, c⟩
        · rw [ofV_yes hb, ofE_yes hb] at c
          have g := ofB_good hb
          have hD := Cal.DateIs.of_good g
          have := hD.year.1; have := Cal.ys_bd _ hD.y0; have := hD.y0
          exact Or.inr ⟨_, _, _, _, hD, by omega, g.2.2, SD_back hf, c⟩
    cases hd : dayB d
    · have hr := dayB_f hd
      rcases P.out with ⟨x, hx, G⟩ | ⟨v, y, m, k, hD, v0, v1, es, G⟩
      · have G := Lib.hid G
        rename_i Z; clear Z P
        rcases hr with hr | hr <;> rcases hx with rfl | rfl
        all_goals
          go_enter Tryd.func8, Tryd.ntmps8
          go_wp2_with fail
          refine (awake_any _ hT).mono ?_; rintro e w1 ⟨rfl, hb⟩
          have hT1 := hT.below hb
          go_wp2_with fail
          refine (Date_no d w1 hd).mono ?_; rintro e w' ⟨rfl, rfl⟩
          go_wp2_with fail
          refine (Format_no d w1 hd).mono ?_; rintro e w2 ⟨rfl, hb2⟩
          have hT2 := hT1.below hb2
          go_wp2_with fail
          refine (G.out w2 hT2).mono ?_; rintro e w3 ⟨rfl, hb3⟩
          go_wp2
          go_ret
          exact ⟨rfl, (hb.trans (hb2.mono hb.size)).trans (hb3.mono (Nat.le_trans hb.size hb2.size))⟩
      · subst es
        have G := Lib.hid G
        rename_i Z; clear Z P
        rcases hr with hr | hr
        all_goals
          go_enter Tryd.func8, Tryd.ntmps8
          go_wp2_with fail
          refine (awake_any _ hT).mono ?_; rintro e w1 ⟨rfl, hb⟩
          have hT1 := hT.below hb
          go_wp2_with fail
          refine (Date_no d w1 hd).mono ?_; rintro e w' ⟨rfl, rfl⟩
          go_wp2_with fail
          refine (Format_no d w1 hd).mono ?_; rintro e w2 ⟨rfl, hb2⟩
          have hT2 := hT1.below hb2
          go_wp2_with fail
          refine (G.out w2 hT2).mono ?_; rintro e w3 ⟨rfl, hb3⟩
          have hT3 := hT2.below hb3
          go_wp2_with fail
          refine (Format_yes v y m k w3 hT3 hD v0 v1).mono ?_; rintro e w4 ⟨rfl, hb4⟩
          go_wp2
          go_ret
          exact ⟨rfl, ((hb.trans (hb2.mono hb.size)).trans (hb3.mono (Nat.le_trans hb.size hb2.size))).trans (hb4.mono (Nat.le_trans (Nat.le_trans hb.size hb2.size) hb3.size))⟩
    · obtain ⟨d0, d1⟩ := dayB_t hd
      obtain ⟨u, p, r, hE⟩ := Cal.exists_date d d0 d1
      have hof := ofB_mk (hE.good d1)
      have O := fun w1 t1 => Of_any u p r w1 t1
      rw [ofV_yes hof, ofE_yes hof, hE.eq] at O
      have O := Lib.hid O
      rename_i Z; clear Z
      rcases P.out with ⟨x, hx, G⟩ | ⟨v, y, m, k, hD, v0, v1, es, G⟩
      · have G := Lib.hid G
        rename_i Z; clear Z P
        rcases hx with rfl | rfl
        all_goals
          go_enter Tryd.func8, Tryd.ntmps8
          go_wp2_with fail
          refine (awake_any _ hT).mono ?_; rintro e w1 ⟨rfl, hb⟩
          have hT1 := hT.below hb
          go_wp2_with fail
          refine (Date_yes d u p r w1 hT1 hE d0 d1).mono ?_; rintro e w' ⟨rfl, rfl⟩
          go_wp2_with fail
          refine (Format_yes d u p r w1 hT1 hE d0 d1).mono ?_; rintro e w2 ⟨rfl, hb2⟩
          have hT2 := hT1.below hb2
          go_wp2_with fail
          refine (O.out w2 hT2).mono ?_; rintro e w' ⟨rfl, rfl⟩
          go_wp2_with fail
          refine (Parse_SD w2 hT2 hE d1).mono ?_; rintro e w3 ⟨rfl, hb3⟩
          have hT3 := hT2.below hb3
          go_wp2_with fail
          refine (G.out w3 hT3).mono ?_; rintro e w4 ⟨rfl, hb4⟩
          go_wp2
          go_ret
          exact ⟨rfl, ((hb.trans (hb2.mono hb.size)).trans (hb3.mono (Nat.le_trans hb.size hb2.size))).trans (hb4.mono (Nat.le_trans (Nat.le_trans hb.size hb2.size) hb3.size))⟩
      · subst es
        have G := Lib.hid G
        rename_i Z; clear Z P
        go_enter Tryd.func8, Tryd.ntmps8
        go_wp2_with fail
        refine (awake_any _ hT).mono ?_; rintro e w1 ⟨rfl, hb⟩
        have hT1 := hT.below hb
        go_wp2_with fail
        refine (Date_yes d u p r w1 hT1 hE d0 d1).mono ?_; rintro e w' ⟨rfl, rfl⟩
        go_wp2_with fail
        refine (Format_yes d u p r w1 hT1 hE d0 d1).mono ?_; rintro e w2 ⟨rfl, hb2⟩
        have hT2 := hT1.below hb2
        go_wp2_with fail
        refine (O.out w2 hT2).mono ?_; rintro e w' ⟨rfl, rfl⟩
        go_wp2_with fail
        refine (Parse_SD w2 hT2 hE d1).mono ?_; rintro e w3 ⟨rfl, hb3⟩
        have hT3 := hT2.below hb3
        go_wp2_with fail
        refine (G.out w3 hT3).mono ?_; rintro e w4 ⟨rfl, hb4⟩
        have hT4 := hT3.below hb4
        go_wp2_with fail
        refine (Format_yes v y m k w4 hT4 hD v0 v1).mono ?_; rintro e w5 ⟨rfl, hb5⟩
        go_wp2
        go_ret
        exact ⟨rfl, (((hb.trans (hb2.mono hb.size)).trans (hb3.mono (Nat.le_trans hb.size hb2.size))).trans (hb4.mono (Nat.le_trans (Nat.le_trans hb.size hb2.size) hb3.size))).trans (hb5.mono (Nat.le_trans (Nat.le_trans (Nat.le_trans hb.size hb2.size) hb3.size) hb4.size))⟩
end Go.Proofs.YtjjkciakkknhkaaDoor
