/- The contracts of Parse and of the reference's Parse and Number. -/
import Derived.Test.YtbllolalfmgfoaaDoorAwake
import Derived.PlainAid
namespace Go.Proofs.YtbllolalfmgfoaaDoor
open Go.RowKit Go.PlainAid

/-- A byte is a decimal digit. -/
def isD (z : Int) : Prop := 48 ≤ z ∧ z ≤ 57
def num2 (a b : Int) : Int := 10 * (a - 48) + (b - 48)
def num4 (a b c d : Int) : Int := 10 * (10 * (10 * (a - 48) + (b - 48)) + (c - 48)) + (d - 48)
def TwoB (v x : Int) (w : World) (e : Ending) (w' : World) : Prop := e = .returned (.tuple #[.int .i64 v, .int .i64 x]) ∧ Below w.heap.size w w'
/-- The year, the month and the day of the month that ten bytes name. -/
def tY (s : ByteArray) : Int := num4 (bt s 0) (bt s 1) (bt s 2) (bt s 3)
def tM (s : ByteArray) : Int := num2 (bt s 5) (bt s 6)
def tD (s : ByteArray) : Int := num2 (bt s 8) (bt s 9)

theorem TwoB.mk {y m k y' m' k' : Int} {w w' : World} (hy : y' = y) (hm : m' = m) (hk : k' = k) (hb : Below w.heap.size w w') :
    TwoB (ofV y m k) (ofE y m k) w (.returned (.tuple #[.int .i64 (ofV y' m' k'), .int .i64 (ofE y' m' k')])) w' := by subst hy hm hk; exact ⟨rfl, hb⟩

set_option maxRecDepth 100000 in
set_option maxHeartbeats 4000000 in
theorem Parse_yes (s : ByteArray) (w : World) (hT : Tab w) (hs : s.size = 10) (h0 : isD (bt s 0)) (h1 : isD (bt s 1)) (h2 : isD (bt s 2)) (h3 : isD (bt s 3)) (h4 : bt s 4 = 45) (h5 : isD (bt s 5)) (h6 : isD (bt s 6)) (h7 : bt s 7 = 45) (h8 : isD (bt s 8)) (h9 : isD (bt s 9)) :
    Calls Tryd.prog 88 #[.string s] w (TwoB (ofV (tY s) (tM s) (tD s)) (ofE (tY s) (tM s) (tD s)) w) := by
  have hb := get_bt s
  have hY : Hid (tY s = num4 (bt s 0) (bt s 1) (bt s 2) (bt s 3)) := rfl
  have hM : Hid (tM s = num2 (bt s 5) (bt s 6)) := rfl
  have hD : Hid (tD s = num2 (bt s 8) (bt s 9)) := rfl
  generalize tY s = Y at *; generalize tM s = M at *; generalize tD s = D at *
  obtain ⟨a0, b0⟩ := h0; obtain ⟨a1, b1⟩ := h1; obtain ⟨a2, b2⟩ := h2; obtain ⟨a3, b3⟩ := h3; obtain ⟨a5, b5⟩ := h5; obtain ⟨a6, b6⟩ := h6; obtain ⟨a8, b8⟩ := h8; obtain ⟨a9, b9⟩ := h9
  go_enter Tryd.func88, Tryd.ntmps88
  go_wp2
  refine wp_loop_rounds 11 ?_
  iterate 11 (rw [rounds_succ]; go_wp2_with fail)
  refine (Of_any _ _ _ _ (hT.alloc _)).mono ?_; rintro e w' ⟨rfl, rfl⟩
  go_wp2
  go_ret2
  exact TwoB.mk (by rw [hY.out]; unfold num4; omega) (by rw [hM.out]; unfold num2; omega) (by rw [hD.out]; unfold num2; omega) (by go_grown)

set_option maxRecDepth 100000 in
set_option maxHeartbeats 4000000 in
theorem Parse_bad0 (s : ByteArray) (w : World) (hs : s.size = 10) (hbad : ¬ isD (bt s 0)) :
    Calls Tryd.prog 88 #[.string s] w (TwoB 0 3 w) := by
  have hb := get_bt s
  have hk : bt s 0 < 48 ∨ (48 ≤ bt s 0 ∧ 57 < bt s 0) := by unfold isD at hbad; omega
  clear hbad
  rcases hk with hk | ⟨hk0, hk⟩
  · go_enter Tryd.func88, Tryd.ntmps88
    go_wp2
    refine wp_loop_rounds 1 ?_
    iterate 1 (rw [rounds_succ]; go_wp2_with fail)
    go_ret2
    exact ⟨rfl, by go_grown⟩
  · go_enter Tryd.func88, Tryd.ntmps88
    go_wp2
    refine wp_loop_rounds 1 ?_
    iterate 1 (rw [rounds_succ]; go_wp2_with fail)
    go_ret2
    exact ⟨rfl, by go_grown⟩

set_option maxRecDepth 100000 in
set_option maxHeartbeats 4000000 in
theorem Parse_bad1 (s : ByteArray) (w : World) (hs : s.size = 10) (h0 : isD (bt s 0)) (hbad : ¬ isD (bt s 1)) :
    Calls Tryd.prog 88 #[.string s] w (TwoB 0 3 w) := by
  have hb := get_bt s
  obtain ⟨a0, b0⟩ := h0
  have hk : bt s 1 < 48 ∨ (48 ≤ bt s 1 ∧ 57 < bt s 1) := by unfold isD at hbad; omega
  clear hbad
  rcases hk with hk | ⟨hk0, hk⟩
  · go_enter Tryd.func88, Tryd.ntmps88
    go_wp2
    refine wp_loop_rounds 2 ?_
    iterate 2 (rw [rounds_succ]; go_wp2_with fail)
    go_ret2
    exact ⟨rfl, by go_grown⟩
  · go_enter Tryd.func88, Tryd.ntmps88
    go_wp2
    refine wp_loop_rounds 2 ?_
    iterate 2 (rw [rounds_succ]; go_wp2_with fail)
    go_ret2
    exact ⟨rfl, by go_grown⟩

set_option maxRecDepth 100000 in
set_option maxHeartbeats 4000000 in
theorem Parse_bad2 (s : ByteArray) (w : World) (hs : s.size = 10) (h0 : isD (bt s 0)) (h1 : isD (bt s 1)) (hbad : ¬ isD (bt s 2)) :
    Calls Tryd.prog 88 #[.string s] w (TwoB 0 3 w) := by
  have hb := get_bt s
  obtain ⟨a0, b0⟩ := h0
  obtain ⟨a1, b1⟩ := h1
  have hk : bt s 2 < 48 ∨ (48 ≤ bt s 2 ∧ 57 < bt s 2) := by unfold isD at hbad; omega
  clear hbad
  rcases hk with hk | ⟨hk0, hk⟩
  · go_enter Tryd.func88, Tryd.ntmps88
    go_wp2
    refine wp_loop_rounds 3 ?_
    iterate 3 (rw [rounds_succ]; go_wp2_with fail)
    go_ret2
    exact ⟨rfl, by go_grown⟩
  · go_enter Tryd.func88, Tryd.ntmps88
    go_wp2
    refine wp_loop_rounds 3 ?_
    iterate 3 (rw [rounds_succ]; go_wp2_with fail)
    go_ret2
    exact ⟨rfl, by go_grown⟩

set_option maxRecDepth 100000 in
set_option maxHeartbeats 4000000 in
theorem Parse_bad3 (s : ByteArray) (w : World) (hs : s.size = 10) (h0 : isD (bt s 0)) (h1 : isD (bt s 1)) (h2 : isD (bt s 2)) (hbad : ¬ isD (bt s 3)) :
    Calls Tryd.prog 88 #[.string s] w (TwoB 0 3 w) := by
  have hb := get_bt s
  obtain ⟨a0, b0⟩ := h0
  obtain ⟨a1, b1⟩ := h1
  obtain ⟨a2, b2⟩ := h2
  have hk : bt s 3 < 48 ∨ (48 ≤ bt s 3 ∧ 57 < bt s 3) := by unfold isD at hbad; omega
  clear hbad
  rcases hk with hk | ⟨hk0, hk⟩
  · go_enter Tryd.func88, Tryd.ntmps88
    go_wp2
    refine wp_loop_rounds 4 ?_
    iterate 4 (rw [rounds_succ]; go_wp2_with fail)
    go_ret2
    exact ⟨rfl, by go_grown⟩
  · go_enter Tryd.func88, Tryd.ntmps88
    go_wp2
    refine wp_loop_rounds 4 ?_
    iterate 4 (rw [rounds_succ]; go_wp2_with fail)
    go_ret2
    exact ⟨rfl, by go_grown⟩

set_option maxRecDepth 100000 in
set_option maxHeartbeats 4000000 in
theorem Parse_bad4 (s : ByteArray) (w : World) (hs : s.size = 10) (h0 : isD (bt s 0)) (h1 : isD (bt s 1)) (h2 : isD (bt s 2)) (h3 : isD (bt s 3)) (hbad : ¬ bt s 4 = 45) :
    Calls Tryd.prog 88 #[.string s] w (TwoB 0 3 w) := by
  have hb := get_bt s
  obtain ⟨a0, b0⟩ := h0
  obtain ⟨a1, b1⟩ := h1
  obtain ⟨a2, b2⟩ := h2
  obtain ⟨a3, b3⟩ := h3
  have hk : (bt s 4 == 45) = false := beq_eq_false_iff_ne.2 hbad
  clear hbad
  go_enter Tryd.func88, Tryd.ntmps88
  go_wp2
  refine wp_loop_rounds 5 ?_
  iterate 5 (rw [rounds_succ]; go_wp2_with fail)
  go_ret2
  exact ⟨rfl, by go_grown⟩

set_option maxRecDepth 100000 in
set_option maxHeartbeats 4000000 in
theorem Parse_bad5 (s : ByteArray) (w : World) (hs : s.size = 10) (h0 : isD (bt s 0)) (h1 : isD (bt s 1)) (h2 : isD (bt s 2)) (h3 : isD (bt s 3)) (h4 : bt s 4 = 45) (hbad : ¬ isD (bt s 5)) :
    Calls Tryd.prog 88 #[.string s] w (TwoB 0 3 w) := by
  have hb := get_bt s
  obtain ⟨a0, b0⟩ := h0
  obtain ⟨a1, b1⟩ := h1
  obtain ⟨a2, b2⟩ := h2
  obtain ⟨a3, b3⟩ := h3
  have hk : bt s 5 < 48 ∨ (48 ≤ bt s 5 ∧ 57 < bt s 5) := by unfold isD at hbad; omega
  clear hbad
  rcases hk with hk | ⟨hk0, hk⟩
  · go_enter Tryd.func88, Tryd.ntmps88
    go_wp2
    refine wp_loop_rounds 6 ?_
    iterate 6 (rw [rounds_succ]; go_wp2_with fail)
    go_ret2
    exact ⟨rfl, by go_grown⟩
  · go_enter Tryd.func88, Tryd.ntmps88
    go_wp2
    refine wp_loop_rounds 6 ?_
    iterate 6 (rw [rounds_succ]; go_wp2_with fail)
    go_ret2
    exact ⟨rfl, by go_grown⟩

set_option maxRecDepth 100000 in
set_option maxHeartbeats 4000000 in
theorem Parse_bad6 (s : ByteArray) (w : World) (hs : s.size = 10) (h0 : isD (bt s 0)) (h1 : isD (bt s 1)) (h2 : isD (bt s 2)) (h3 : isD (bt s 3)) (h4 : bt s 4 = 45) (h5 : isD (bt s 5)) (hbad : ¬ isD (bt s 6)) :
    Calls Tryd.prog 88 #[.string s] w (TwoB 0 3 w) := by
  have hb := get_bt s
  obtain ⟨a0, b0⟩ := h0
  obtain ⟨a1, b1⟩ := h1
  obtain ⟨a2, b2⟩ := h2
  obtain ⟨a3, b3⟩ := h3
  obtain ⟨a5, b5⟩ := h5
  have hk : bt s 6 < 48 ∨ (48 ≤ bt s 6 ∧ 57 < bt s 6) := by unfold isD at hbad; omega
  clear hbad
  rcases hk with hk | ⟨hk0, hk⟩
  · go_enter Tryd.func88, Tryd.ntmps88
    go_wp2
    refine wp_loop_rounds 7 ?_
    iterate 7 (rw [rounds_succ]; go_wp2_with fail)
    go_ret2
    exact ⟨rfl, by go_grown⟩
  · go_enter Tryd.func88, Tryd.ntmps88
    go_wp2
    refine wp_loop_rounds 7 ?_
    iterate 7 (rw [rounds_succ]; go_wp2_with fail)
    go_ret2
    exact ⟨rfl, by go_grown⟩

set_option maxRecDepth 100000 in
set_option maxHeartbeats 4000000 in
theorem Parse_bad7 (s : ByteArray) (w : World) (hs : s.size = 10) (h0 : isD (bt s 0)) (h1 : isD (bt s 1)) (h2 : isD (bt s 2)) (h3 : isD (bt s 3)) (h4 : bt s 4 = 45) (h5 : isD (bt s 5)) (h6 : isD (bt s 6)) (hbad : ¬ bt s 7 = 45) :
    Calls Tryd.prog 88 #[.string s] w (TwoB 0 3 w) := by
  have hb := get_bt s
  obtain ⟨a0, b0⟩ := h0
  obtain ⟨a1, b1⟩ := h1
  obtain ⟨a2, b2⟩ := h2
  obtain ⟨a3, b3⟩ := h3
  obtain ⟨a5, b5⟩ := h5
  obtain ⟨a6, b6⟩ := h6
  have hk : (bt s 7 == 45) = false := beq_eq_false_iff_ne.2 hbad
  clear hbad
  go_enter Tryd.func88, Tryd.ntmps88
  go_wp2
  refine wp_loop_rounds 8 ?_
  iterate 8 (rw [rounds_succ]; go_wp2_with fail)
  go_ret2
  exact ⟨rfl, by go_grown⟩

set_option maxRecDepth 100000 in
set_option maxHeartbeats 4000000 in
theorem Parse_bad8 (s : ByteArray) (w : World) (hs : s.size = 10) (h0 : isD (bt s 0)) (h1 : isD (bt s 1)) (h2 : isD (bt s 2)) (h3 : isD (bt s 3)) (h4 : bt s 4 = 45) (h5 : isD (bt s 5)) (h6 : isD (bt s 6)) (h7 : bt s 7 = 45) (hbad : ¬ isD (bt s 8)) :
    Calls Tryd.prog 88 #[.string s] w (TwoB 0 3 w) := by
  have hb := get_bt s
  obtain ⟨a0, b0⟩ := h0
  obtain ⟨a1, b1⟩ := h1
  obtain ⟨a2, b2⟩ := h2
  obtain ⟨a3, b3⟩ := h3
  obtain ⟨a5, b5⟩ := h5
  obtain ⟨a6, b6⟩ := h6
  have hk : bt s 8 < 48 ∨ (48 ≤ bt s 8 ∧ 57 < bt s 8) := by unfold isD at hbad; omega
  clear hbad
  rcases hk with hk | ⟨hk0, hk⟩
  · go_enter Tryd.func88, Tryd.ntmps88
    go_wp2
    refine wp_loop_rounds 9 ?_
    iterate 9 (rw [rounds_succ]; go_wp2_with fail)
    go_ret2
    exact ⟨rfl, by go_grown⟩
  · go_enter Tryd.func88, Tryd.ntmps88
    go_wp2
    refine wp_loop_rounds 9 ?_
    iterate 9 (rw [rounds_succ]; go_wp2_with fail)
    go_ret2
    exact ⟨rfl, by go_grown⟩

set_option maxRecDepth 100000 in
set_option maxHeartbeats 4000000 in
theorem Parse_bad9 (s : ByteArray) (w : World) (hs : s.size = 10) (h0 : isD (bt s 0)) (h1 : isD (bt s 1)) (h2 : isD (bt s 2)) (h3 : isD (bt s 3)) (h4 : bt s 4 = 45) (h5 : isD (bt s 5)) (h6 : isD (bt s 6)) (h7 : bt s 7 = 45) (h8 : isD (bt s 8)) (hbad : ¬ isD (bt s 9)) :
    Calls Tryd.prog 88 #[.string s] w (TwoB 0 3 w) := by
  have hb := get_bt s
  obtain ⟨a0, b0⟩ := h0
  obtain ⟨a1, b1⟩ := h1
  obtain ⟨a2, b2⟩ := h2
  obtain ⟨a3, b3⟩ := h3
  obtain ⟨a5, b5⟩ := h5
  obtain ⟨a6, b6⟩ := h6
  obtain ⟨a8, b8⟩ := h8
  have hk : bt s 9 < 48 ∨ (48 ≤ bt s 9 ∧ 57 < bt s 9) := by unfold isD at hbad; omega
  clear hbad
  rcases hk with hk | ⟨hk0, hk⟩
  · go_enter Tryd.func88, Tryd.ntmps88
    go_wp2
    refine wp_loop_rounds 10 ?_
    iterate 10 (rw [rounds_succ]; go_wp2_with fail)
    go_ret2
    exact ⟨rfl, by go_grown⟩
  · go_enter Tryd.func88, Tryd.ntmps88
    go_wp2
    refine wp_loop_rounds 10 ?_
    iterate 10 (rw [rounds_succ]; go_wp2_with fail)
    go_ret2
    exact ⟨rfl, by go_grown⟩

set_option maxHeartbeats 400000 in
theorem Parse_size (s : ByteArray) (w : World) (hs : ¬ s.size = 10) :
    Calls Tryd.prog 88 #[.string s] w (TwoB 0 3 w) := by
  have hk : ((s.size : Int) == 10) = false := by simp; omega
  clear hs
  go_enter Tryd.func88, Tryd.ntmps88
  go_wp2
  go_ret2
  exact ⟨rfl, Below.refl _ _⟩

end Go.Proofs.YtbllolalfmgfoaaDoor
