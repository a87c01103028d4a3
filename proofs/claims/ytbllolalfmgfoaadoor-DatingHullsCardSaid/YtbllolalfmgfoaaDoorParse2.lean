/- What Parse answers for any text, and the contracts of the reference's Number and Parse. -/
import Derived.Test.YtbllolalfmgfoaaDoorParse
namespace Go.Proofs.YtbllolalfmgfoaaDoor
open Go.RowKit Go.PlainAid

/-- The text has the form of a day. -/
def formB (s : ByteArray) : Bool := decide (s.size = 10 ∧ (48 ≤ bt s 0 ∧ bt s 0 ≤ 57) ∧ (48 ≤ bt s 1 ∧ bt s 1 ≤ 57) ∧ (48 ≤ bt s 2 ∧ bt s 2 ≤ 57) ∧ (48 ≤ bt s 3 ∧ bt s 3 ≤ 57) ∧ bt s 4 = 45 ∧ (48 ≤ bt s 5 ∧ bt s 5 ≤ 57) ∧ (48 ≤ bt s 6 ∧ bt s 6 ≤ 57) ∧ bt s 7 = 45 ∧ (48 ≤ bt s 8 ∧ bt s 8 ≤ 57) ∧ (48 ≤ bt s 9 ∧ bt s 9 ≤ 57))
theorem formB_t {s : ByteArray} (h : formB s = true) : s.size = 10 ∧ isD (bt s 0) ∧ isD (bt s 1) ∧ isD (bt s 2) ∧ isD (bt s 3) ∧ bt s 4 = 45 ∧ isD (bt s 5) ∧ isD (bt s 6) ∧ bt s 7 = 45 ∧ isD (bt s 8) ∧ isD (bt s 9) := by
  have h' := of_decide_eq_true h
  exact h'

theorem Parse_no (s : ByteArray) (w : World) (h : formB s = false) : Calls Tryd.prog 88 #[.string s] w (TwoB 0 3 w) := by
  by_cases hs : s.size = 10
  · by_cases h0 : isD (bt s 0)
    · by_cases h1 : isD (bt s 1)
      · by_cases h2 : isD (bt s 2)
        · by_cases h3 : isD (bt s 3)
          · by_cases h4 : bt s 4 = 45
            · by_cases h5 : isD (bt s 5)
              · by_cases h6 : isD (bt s 6)
                · by_cases h7 : bt s 7 = 45
                  · by_cases h8 : isD (bt s 8)
                    · by_cases h9 : isD (bt s 9)
                      · exfalso; exact absurd (of_decide_eq_false h) (fun n => n ⟨hs, h0, h1, h2, h3, h4, h5, h6, h7, h8, h9⟩)
                      · exact Parse_bad9 s w hs h0 h1 h2 h3 h4 h5 h6 h7 h8 h9
                    · exact Parse_bad8 s w hs h0 h1 h2 h3 h4 h5 h6 h7 h8
                  · exact Parse_bad7 s w hs h0 h1 h2 h3 h4 h5 h6 h7
                · exact Parse_bad6 s w hs h0 h1 h2 h3 h4 h5 h6
              · exact Parse_bad5 s w hs h0 h1 h2 h3 h4 h5
            · exact Parse_bad4 s w hs h0 h1 h2 h3 h4
          · exact Parse_bad3 s w hs h0 h1 h2 h3
        · exact Parse_bad2 s w hs h0 h1 h2
      · exact Parse_bad1 s w hs h0 h1
    · exact Parse_bad0 s w hs h0
  · exact Parse_size s w hs

theorem ret_nb {a b : Int} {c : Bool} (h : a = b) : Ending.returned (.tuple #[.int .i64 a, .bool c]) = .returned (.tuple #[.int .i64 b, .bool c]) := by rw [h]

set_option maxRecDepth 100000 in
set_option maxHeartbeats 2000000 in
theorem Number4_yes (s : ByteArray) (w : World) (hs : s.size = 4) (h0 : isD (bt s 0)) (h1 : isD (bt s 1)) (h2 : isD (bt s 2)) (h3 : isD (bt s 3)) :
    Calls Tryd.prog 77 #[.string s] w fun e w' => e = .returned (.tuple #[.int .i64 (num4 (bt s 0) (bt s 1) (bt s 2) (bt s 3)), .bool true]) ∧ w = w' := by
  have hb := get_bt s
  obtain ⟨a0, b0⟩ := h0
  obtain ⟨a1, b1⟩ := h1
  obtain ⟨a2, b2⟩ := h2
  obtain ⟨a3, b3⟩ := h3
  go_enter Tryd.func77, Tryd.ntmps77
  go_wp2
  refine wp_loop_rounds 5 ?_
  iterate 5 (rw [rounds_succ]; go_wp2_with fail)
  go_ret2
  exact ⟨ret_nb (by unfold num4; omega), rfl⟩

set_option maxRecDepth 100000 in
set_option maxHeartbeats 2000000 in
theorem Number4_bad0 (s : ByteArray) (w : World) (hs : s.size = 4)  (hbad : ¬ isD (bt s 0)) :
    Calls Tryd.prog 77 #[.string s] w fun e w' => e = .returned (.tuple #[.int .i64 0, .bool false]) ∧ w = w' := by
  have hb := get_bt s
  have hk : bt s 0 < 48 ∨ (48 ≤ bt s 0 ∧ 57 < bt s 0) := by unfold isD at hbad; omega
  clear hbad
  rcases hk with hk | ⟨hk0, hk⟩
  · go_enter Tryd.func77, Tryd.ntmps77
    go_wp2
    refine wp_loop_rounds 1 ?_
    iterate 1 (rw [rounds_succ]; go_wp2_with fail)
    go_ret2
    exact ⟨rfl, rfl⟩
  · go_enter Tryd.func77, Tryd.ntmps77
    go_wp2
    refine wp_loop_rounds 1 ?_
    iterate 1 (rw [rounds_succ]; go_wp2_with fail)
    go_ret2
    exact ⟨rfl, rfl⟩

set_option maxRecDepth 100000 in
set_option maxHeartbeats 2000000 in
theorem Number4_bad1 (s : ByteArray) (w : World) (hs : s.size = 4) (h0 : isD (bt s 0)) (hbad : ¬ isD (bt s 1)) :
    Calls Tryd.prog 77 #[.string s] w fun e w' => e = .returned (.tuple #[.int .i64 0, .bool false]) ∧ w = w' := by
  have hb := get_bt s
  obtain ⟨a0, b0⟩ := h0
  have hk : bt s 1 < 48 ∨ (48 ≤ bt s 1 ∧ 57 < bt s 1) := by unfold isD at hbad; omega
  clear hbad
  rcases hk with hk | ⟨hk0, hk⟩
  · go_enter Tryd.func77, Tryd.ntmps77
    go_wp2
    refine wp_loop_rounds 2 ?_
    iterate 2 (rw [rounds_succ]; go_wp2_with fail)
    go_ret2
    exact ⟨rfl, rfl⟩
  · go_enter Tryd.func77, Tryd.ntmps77
    go_wp2
    refine wp_loop_rounds 2 ?_
    iterate 2 (rw [rounds_succ]; go_wp2_with fail)
    go_ret2
    exact ⟨rfl, rfl⟩

set_option maxRecDepth 100000 in
set_option maxHeartbeats 2000000 in
theorem Number4_bad2 (s : ByteArray) (w : World) (hs : s.size = 4) (h0 : isD (bt s 0)) (h1 : isD (bt s 1)) (hbad : ¬ isD (bt s 2)) :
    Calls Tryd.prog 77 #[.string s] w fun e w' => e = .returned (.tuple #[.int .i64 0, .bool false]) ∧ w = w' := by
  have hb := get_bt s
  obtain ⟨a0, b0⟩ := h0
  obtain ⟨a1, b1⟩ := h1
  have hk : bt s 2 < 48 ∨ (48 ≤ bt s 2 ∧ 57 < bt s 2) := by unfold isD at hbad; omega
  clear hbad
  rcases hk with hk | ⟨hk0, hk⟩
  · go_enter Tryd.func77, Tryd.ntmps77
    go_wp2
    refine wp_loop_rounds 3 ?_
    iterate 3 (rw [rounds_succ]; go_wp2_with fail)
    go_ret2
    exact ⟨rfl, rfl⟩
  · go_enter Tryd.func77, Tryd.ntmps77
    go_wp2
    refine wp_loop_rounds 3 ?_
    iterate 3 (rw [rounds_succ]; go_wp2_with fail)
    go_ret2
    exact ⟨rfl, rfl⟩

set_option maxRecDepth 100000 in
set_option maxHeartbeats 2000000 in
theorem Number4_bad3 (s : ByteArray) (w : World) (hs : s.size = 4) (h0 : isD (bt s 0)) (h1 : isD (bt s 1)) (h2 : isD (bt s 2)) (hbad : ¬ isD (bt s 3)) :
    Calls Tryd.prog 77 #[.string s] w fun e w' => e = .returned (.tuple #[.int .i64 0, .bool false]) ∧ w = w' := by
  have hb := get_bt s
  obtain ⟨a0, b0⟩ := h0
  obtain ⟨a1, b1⟩ := h1
  obtain ⟨a2, b2⟩ := h2
  have hk : bt s 3 < 48 ∨ (48 ≤ bt s 3 ∧ 57 < bt s 3) := by unfold isD at hbad; omega
  clear hbad
  rcases hk with hk | ⟨hk0, hk⟩
  · go_enter Tryd.func77, Tryd.ntmps77
    go_wp2
    refine wp_loop_rounds 4 ?_
    iterate 4 (rw [rounds_succ]; go_wp2_with fail)
    go_ret2
    exact ⟨rfl, rfl⟩
  · go_enter Tryd.func77, Tryd.ntmps77
    go_wp2
    refine wp_loop_rounds 4 ?_
    iterate 4 (rw [rounds_succ]; go_wp2_with fail)
    go_ret2
    exact ⟨rfl, rfl⟩

set_option maxRecDepth 100000 in
set_option maxHeartbeats 2000000 in
theorem Number2_yes (s : ByteArray) (w : World) (hs : s.size = 2) (h0 : isD (bt s 0)) (h1 : isD (bt s 1)) :
    Calls Tryd.prog 77 #[.string s] w fun e w' => e = .returned (.tuple #[.int .i64 (num2 (bt s 0) (bt s 1)), .bool true]) ∧ w = w' := by
  have hb := get_bt s
  obtain ⟨a0, b0⟩ := h0
  obtain ⟨a1, b1⟩ := h1
  go_enter Tryd.func77, Tryd.ntmps77
  go_wp2
  refine wp_loop_rounds 3 ?_
  iterate 3 (rw [rounds_succ]; go_wp2_with fail)
  go_ret2
  exact ⟨ret_nb (by unfold num2; omega), rfl⟩

set_option maxRecDepth 100000 in
set_option maxHeartbeats 2000000 in
theorem Number2_bad0 (s : ByteArray) (w : World) (hs : s.size = 2)  (hbad : ¬ isD (bt s 0)) :
    Calls Tryd.prog 77 #[.string s] w fun e w' => e = .returned (.tuple #[.int .i64 0, .bool false]) ∧ w = w' := by
  have hb := get_bt s
  have hk : bt s 0 < 48 ∨ (48 ≤ bt s 0 ∧ 57 < bt s 0) := by unfold isD at hbad; omega
  clear hbad
  rcases hk with hk | ⟨hk0, hk⟩
  · go_enter Tryd.func77, Tryd.ntmps77
    go_wp2
    refine wp_loop_rounds 1 ?_
    iterate 1 (rw [rounds_succ]; go_wp2_with fail)
    go_ret2
    exact ⟨rfl, rfl⟩
  · go_enter Tryd.func77, Tryd.ntmps77
    go_wp2
    refine wp_loop_rounds 1 ?_
    iterate 1 (rw [rounds_succ]; go_wp2_with fail)
    go_ret2
    exact ⟨rfl, rfl⟩

set_option maxRecDepth 100000 in
set_option maxHeartbeats 2000000 in
theorem Number2_bad1 (s : ByteArray) (w : World) (hs : s.size = 2) (h0 : isD (bt s 0)) (hbad : ¬ isD (bt s 1)) :
    Calls Tryd.prog 77 #[.string s] w fun e w' => e = .returned (.tuple #[.int .i64 0, .bool false]) ∧ w = w' := by
  have hb := get_bt s
  obtain ⟨a0, b0⟩ := h0
  have hk : bt s 1 < 48 ∨ (48 ≤ bt s 1 ∧ 57 < bt s 1) := by unfold isD at hbad; omega
  clear hbad
  rcases hk with hk | ⟨hk0, hk⟩
  · go_enter Tryd.func77, Tryd.ntmps77
    go_wp2
    refine wp_loop_rounds 2 ?_
    iterate 2 (rw [rounds_succ]; go_wp2_with fail)
    go_ret2
    exact ⟨rfl, rfl⟩
  · go_enter Tryd.func77, Tryd.ntmps77
    go_wp2
    refine wp_loop_rounds 2 ?_
    iterate 2 (rw [rounds_succ]; go_wp2_with fail)
    go_ret2
    exact ⟨rfl, rfl⟩
end Go.Proofs.YtbllolalfmgfoaaDoor
