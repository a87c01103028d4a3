/- The contract of the reference's Parse. -/
import Derived.Test.YtbllolalfmgfoaaDoorParse2
namespace Go.Proofs.YtbllolalfmgfoaaDoor
open Go.RowKit Go.PlainAid

/-- 4 digits. -/
def b4 (s : ByteArray) : Bool := decide ((48 ≤ bt s 0 ∧ bt s 0 ≤ 57) ∧ (48 ≤ bt s 1 ∧ bt s 1 ≤ 57) ∧ (48 ≤ bt s 2 ∧ bt s 2 ≤ 57) ∧ (48 ≤ bt s 3 ∧ bt s 3 ≤ 57))
theorem Number4_t (s : ByteArray) (w : World) (hs : s.size = 4) (h : b4 s = true) :
    Calls Tryd.prog 77 #[.string s] w fun e w' => e = .returned (.tuple #[.int .i64 (num4 (bt s 0) (bt s 1) (bt s 2) (bt s 3)), .bool true]) ∧ w = w' := by
  obtain ⟨h0, h1, h2, h3⟩ := of_decide_eq_true h
  exact Number4_yes s w hs h0 h1 h2 h3
theorem Number4_f (s : ByteArray) (w : World) (hs : s.size = 4) (h : b4 s = false) :
    Calls Tryd.prog 77 #[.string s] w fun e w' => e = .returned (.tuple #[.int .i64 0, .bool false]) ∧ w = w' := by
  by_cases h0 : isD (bt s 0)
  · by_cases h1 : isD (bt s 1)
    · by_cases h2 : isD (bt s 2)
      · by_cases h3 : isD (bt s 3)
        · exfalso; exact absurd (of_decide_eq_false h) (fun x => x ⟨h0, h1, h2, h3⟩)
        · exact Number4_bad3 s w hs h0 h1 h2 h3
      · exact Number4_bad2 s w hs h0 h1 h2
    · exact Number4_bad1 s w hs h0 h1
  · exact Number4_bad0 s w hs  h0

/-- 2 digits. -/
def b2 (s : ByteArray) : Bool := decide ((48 ≤ bt s 0 ∧ bt s 0 ≤ 57) ∧ (48 ≤ bt s 1 ∧ bt s 1 ≤ 57))
theorem Number2_t (s : ByteArray) (w : World) (hs : s.size = 2) (h : b2 s = true) :
    Calls Tryd.prog 77 #[.string s] w fun e w' => e = .returned (.tuple #[.int .i64 (num2 (bt s 0) (bt s 1)), .bool true]) ∧ w = w' := by
  obtain ⟨h0, h1⟩ := of_decide_eq_true h
  exact Number2_yes s w hs h0 h1
theorem Number2_f (s : ByteArray) (w : World) (hs : s.size = 2) (h : b2 s = false) :
    Calls Tryd.prog 77 #[.string s] w fun e w' => e = .returned (.tuple #[.int .i64 0, .bool false]) ∧ w = w' := by
  by_cases h0 : isD (bt s 0)
  · by_cases h1 : isD (bt s 1)
    · exfalso; exact absurd (of_decide_eq_false h) (fun x => x ⟨h0, h1⟩)
    · exact Number2_bad1 s w hs h0 h1
  · exact Number2_bad0 s w hs  h0

theorem size_ex (s : ByteArray) (a b : Nat) (h : b ≤ s.size) : (s.extract a b).size = b - a := by
  rw [ByteArray.size_extract]; omega
theorem bt_ex (s : ByteArray) (a b i : Nat) (h : b ≤ s.size) (hi : a + i < b) : bt (s.extract a b) i = bt s (a + i) := by
  have h1 : i < (s.extract a b).size := by rw [size_ex s a b h]; omega
  have h2 : a + i < s.size := by omega
  unfold bt
  rw [dif_pos h1, dif_pos h2, ByteArray.getElem_extract]
theorem part4 (s : ByteArray) (h : s.size = 10) : num4 (bt (s.extract 0 4) 0) (bt (s.extract 0 4) 1) (bt (s.extract 0 4) 2) (bt (s.extract 0 4) 3) = tY s := by
  rw [bt_ex s 0 4 0 (by omega) (by omega), bt_ex s 0 4 1 (by omega) (by omega), bt_ex s 0 4 2 (by omega) (by omega), bt_ex s 0 4 3 (by omega) (by omega)]; rfl
theorem part57 (s : ByteArray) (h : s.size = 10) : num2 (bt (s.extract 5 7) 0) (bt (s.extract 5 7) 1) = tM s := by
  rw [bt_ex s 5 7 0 (by omega) (by omega), bt_ex s 5 7 1 (by omega) (by omega)]; rfl
theorem part8 (s : ByteArray) (h : s.size = 10) : num2 (bt (s.extract 8 10) 0) (bt (s.extract 8 10) 1) = tD s := by
  rw [bt_ex s 8 10 0 (by omega) (by omega), bt_ex s 8 10 1 (by omega) (by omega)]; rfl
theorem form_parts (s : ByteArray) (h : s.size = 10) : formB s = (b4 (s.extract 0 4) && (bt s 4 == 45) && b2 (s.extract 5 7) && (bt s 7 == 45) && b2 (s.extract 8 10)) := by
  unfold formB b4 b2
  rw [bt_ex s 0 4 0 (by omega) (by omega), bt_ex s 0 4 1 (by omega) (by omega), bt_ex s 0 4 2 (by omega) (by omega), bt_ex s 0 4 3 (by omega) (by omega), bt_ex s 5 7 0 (by omega) (by omega), bt_ex s 5 7 1 (by omega) (by omega), bt_ex s 8 10 0 (by omega) (by omega), bt_ex s 8 10 1 (by omega) (by omega)]
  rw [Bool.eq_iff_iff]
  simp only [decide_eq_true_eq, Bool.and_eq_true, beq_iff_eq]
  constructor
  · rintro ⟨_, h0, h1, h2, h3, h4, h5, h6, h7, h8, h9⟩
    exact ⟨⟨⟨⟨⟨h0, h1, h2, h3⟩, h4⟩, h5, h6⟩, h7⟩, h8, h9⟩
  · rintro ⟨⟨⟨⟨⟨h0, h1, h2, h3⟩, h4⟩, h5, h6⟩, h7⟩, h8, h9⟩
    exact ⟨h, h0, h1, h2, h3, h4, h5, h6, h7, h8, h9⟩

set_option maxRecDepth 100000 in
set_option maxHeartbeats 2000000 in
theorem refParse_yes (s : ByteArray) (w : World) (h : formB s = true) :
    Calls Tryd.prog 78 #[.string s] w (Two (ofV (tY s) (tM s) (tD s)) (ofE (tY s) (tM s) (tD s)) w) := by
  obtain ⟨hs, _, _, _, _, h4, _, _, h7, _, _⟩ := formB_t h
  have hf := form_parts s hs
  rw [h] at hf
  simp only [Bool.true_eq, Bool.and_eq_true, beq_iff_eq] at hf
  obtain ⟨⟨⟨⟨f1, _⟩, f2⟩, _⟩, f3⟩ := hf
  have A1 := Number4_t (s.extract 0 4) w (size_ex s 0 4 (by omega)) f1
  have A2 := Number2_t (s.extract 5 7) w (size_ex s 5 7 (by omega)) f2
  have A3 := Number2_t (s.extract 8 10) w (size_ex s 8 10 (by omega)) f3
  rw [part4 s hs] at A1; rw [part57 s hs] at A2; rw [part8 s hs] at A3
  have B1 := Lib.hid A1; have B2 := Lib.hid A2; have B3 := Lib.hid A3
  have hb := get_bt s
  clear A1 A2 A3 f1 f2 f3 h
  go_enter Tryd.func78, Tryd.ntmps78
  go_wp2_with fail
  refine B1.out.mono ?_; rintro e w' ⟨rfl, rfl⟩
  go_wp2_with fail
  refine B2.out.mono ?_; rintro e w' ⟨rfl, rfl⟩
  go_wp2_with fail
  refine B3.out.mono ?_; rintro e w' ⟨rfl, rfl⟩
  go_wp2_with fail
  refine (refOf_any _ _ _ _).mono ?_; rintro e w' ⟨rfl, rfl⟩
  go_wp2
  go_ret2
  exact Two.mk rfl rfl

set_option maxRecDepth 100000 in
set_option maxHeartbeats 4000000 in
theorem refParse_no (s : ByteArray) (w : World) (h : formB s = false) :
    Calls Tryd.prog 78 #[.string s] w (Two 0 3 w) := by
  by_cases hs : s.size = 10
  · have hb := get_bt s
    by_cases h4 : bt s 4 = 45
    · by_cases h7 : bt s 7 = 45
      · have hf := form_parts s hs
        rw [h, h4, h7] at hf
        have C1 : Hid (Calls Tryd.prog 77 #[.string (s.extract 0 4)] w fun e w' => ∃ v, e = .returned (.tuple #[.int .i64 v, .bool (b4 (s.extract 0 4))]) ∧ w = w') := by
          cases g : b4 (s.extract 0 4)
          · exact (Number4_f _ w (size_ex s 0 4 (by omega)) g).mono fun e w' ⟨a, b⟩ => ⟨_, a, b⟩
          · exact (Number4_t _ w (size_ex s 0 4 (by omega)) g).mono fun e w' ⟨a, b⟩ => ⟨_, a, b⟩
        have C2 : Hid (Calls Tryd.prog 77 #[.string (s.extract 5 7)] w fun e w' => ∃ v, e = .returned (.tuple #[.int .i64 v, .bool (b2 (s.extract 5 7))]) ∧ w = w') := by
          cases g : b2 (s.extract 5 7)
          · exact (Number2_f _ w (size_ex s 5 7 (by omega)) g).mono fun e w' ⟨a, b⟩ => ⟨_, a, b⟩
          · exact (Number2_t _ w (size_ex s 5 7 (by omega)) g).mono fun e w' ⟨a, b⟩ => ⟨_, a, b⟩
        have C3 : Hid (Calls Tryd.prog 77 #[.string (s.extract 8 10)] w fun e w' => ∃ v, e = .returned (.tuple #[.int .i64 v, .bool (b2 (s.extract 8 10))]) ∧ w = w') := by
          cases g : b2 (s.extract 8 10)
          · exact (Number2_f _ w (size_ex s 8 10 (by omega)) g).mono fun e w' ⟨a, b⟩ => ⟨_, a, b⟩
          · exact (Number2_t _ w (size_ex s 8 10 (by omega)) g).mono fun e w' ⟨a, b⟩ => ⟨_, a, b⟩
        generalize b4 (s.extract 0 4) = x1 at hf C1
        generalize b2 (s.extract 5 7) = x2 at hf C2
        generalize b2 (s.extract 8 10) = x3 at hf C3
        clear h
        cases x1 <;> cases x2 <;> cases x3 <;> first | (exfalso; simp at hf; done) | skip
        all_goals
          clear hf
          go_enter Tryd.func78, Tryd.ntmps78
          go_wp2_with fail
          refine C1.out.mono ?_; rintro e w' ⟨v1, rfl, rfl⟩
          go_wp2_with fail
          refine C2.out.mono ?_; rintro e w' ⟨v2, rfl, rfl⟩
          go_wp2_with fail
          refine C3.out.mono ?_; rintro e w' ⟨v3, rfl, rfl⟩
          go_wp2
          go_ret2
          exact Two.mk rfl rfl
      · have hk : (bt s 7 == 45) = false := beq_eq_false_iff_ne.2 h7
        clear h7 h
        go_enter Tryd.func78, Tryd.ntmps78
        go_wp2
        go_ret2
        exact Two.mk rfl rfl
    · have hk : (bt s 4 == 45) = false := beq_eq_false_iff_ne.2 h4
      clear h4 h
      go_enter Tryd.func78, Tryd.ntmps78
      go_wp2
      go_ret2
      exact Two.mk rfl rfl
  · have hk : s.size < 10 ∨ 10 < s.size := by omega
    clear hs h
    rcases hk with hk | hk
    all_goals
      go_enter Tryd.func78, Tryd.ntmps78
      go_wp2
      go_ret2
      exact Two.mk rfl rfl
end Go.Proofs.YtbllolalfmgfoaaDoor
