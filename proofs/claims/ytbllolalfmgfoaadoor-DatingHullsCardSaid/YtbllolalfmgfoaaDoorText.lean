/- The contracts of padded and Digits, of Format and of the reference's. -/
import Derived.Test.YtbllolalfmgfoaaDoorYears
import Derived.Handy
namespace Go.Proofs.YtbllolalfmgfoaaDoor
open Go.RowKit

/-- The last digit of a number, as a letter. -/
def dg (n : Int) : UInt8 := UInt8.ofNat (48 + n % 10).toNat
theorem dg_toNat (n : Int) : ((dg n).toNat : Int) = 48 + n % 10 := by
  unfold dg
  rw [UInt8.toNat_ofNat']
  omega
/-- The last two digits, the last four. -/
def S2 (n : Int) : ByteArray := ⟨#[dg (n / 10), dg n]⟩
def S4 (n : Int) : ByteArray := ⟨#[dg (n / 10 / 10 / 10), dg (n / 10 / 10), dg (n / 10), dg n]⟩

theorem mk2 (w : World) : (Instr.makeSlice 94 (.int .i64 2) (.int .i64 2)).run Tryd.prog w = .ok (.slice (some ⟨w.heap.size, 0, none⟩) 2 2) (w.alloc (.cells #[.int .u8 0, .int .u8 0] 5)) := by kernel_rfl
theorem mk4 (w : World) : (Instr.makeSlice 94 (.int .i64 4) (.int .i64 4)).run Tryd.prog w = .ok (.slice (some ⟨w.heap.size, 0, none⟩) 4 4) (w.alloc (.cells #[.int .u8 0, .int .u8 0, .int .u8 0, .int .u8 0] 5)) := by kernel_rfl

theorem conv2 (n : Int) (w : World) : (convert 94 9 (.slice (some ⟨w.heap.size, 0, none⟩) 2 2)).run Tryd.prog (w.alloc (.cells #[.int .u8 (48 + n / 10 % 10), .int .u8 (48 + n % 10)] 5))
    = .ok (.string (S2 n)) (w.alloc (.cells #[.int .u8 (48 + n / 10 % 10), .int .u8 (48 + n % 10)] 5)) := by
  have h := run_convert_bytes_back (P := Tryd.prog) (w.alloc (.cells #[.int .u8 (48 + n / 10 % 10), .int .u8 (48 + n % 10)] 5)) 94 9 5 ⟨w.heap.size, 0, none⟩ 2 [dg (n / 10), dg n] Tryd.underlying94 Tryd.underlying5 Tryd.underlying9 ?_
  · exact h
  · intro j hj
    have : j = 0 ∨ j = 1 := by simp at hj; omega
    rcases this with rfl | rfl
    · simp [dg_toNat, Addr.add]
    · simp [dg_toNat, Addr.add]
theorem conv4 (n : Int) (w : World) : (convert 94 9 (.slice (some ⟨w.heap.size, 0, none⟩) 4 4)).run Tryd.prog (w.alloc (.cells #[.int .u8 (48 + n / 10 / 10 / 10 % 10), .int .u8 (48 + n / 10 / 10 % 10), .int .u8 (48 + n / 10 % 10), .int .u8 (48 + n % 10)] 5))
    = .ok (.string (S4 n)) (w.alloc (.cells #[.int .u8 (48 + n / 10 / 10 / 10 % 10), .int .u8 (48 + n / 10 / 10 % 10), .int .u8 (48 + n / 10 % 10), .int .u8 (48 + n % 10)] 5)) := by
  have h := run_convert_bytes_back (P := Tryd.prog) (w.alloc (.cells #[.int .u8 (48 + n / 10 / 10 / 10 % 10), .int .u8 (48 + n / 10 / 10 % 10), .int .u8 (48 + n / 10 % 10), .int .u8 (48 + n % 10)] 5)) 94 9 5 ⟨w.heap.size, 0, none⟩ 4 [dg (n / 10 / 10 / 10), dg (n / 10 / 10), dg (n / 10), dg n] Tryd.underlying94 Tryd.underlying5 Tryd.underlying9 ?_
  · exact h
  · intro j hj
    have : j = 0 ∨ j = 1 ∨ j = 2 ∨ j = 3 := by simp at hj; omega
    rcases this with rfl | rfl | rfl | rfl
    all_goals simp [dg_toNat, Addr.add]

set_option maxHeartbeats 1000000 in
theorem padded2 (n : Int) (w : World) (h0 : 0 ≤ n) (h1 : n ≤ 9999) :
    Calls Tryd.prog 85 #[.int .i64 n, .int .i64 2] w fun e w' => e = .returned (.string (S2 n)) ∧ Below w.heap.size w w' := by
  have mk := mk2
  have cv := conv2 n
  go_enter Tryd.func85, Tryd.ntmps85
  go_wp2
  go_rounds 3
  go_ret
  exact ⟨rfl, by go_grown⟩
set_option maxHeartbeats 1000000 in
theorem padded4 (n : Int) (w : World) (h0 : 0 ≤ n) (h1 : n ≤ 9999) :
    Calls Tryd.prog 85 #[.int .i64 n, .int .i64 4] w fun e w' => e = .returned (.string (S4 n)) ∧ Below w.heap.size w w' := by
  have mk := mk4
  have cv := conv4 n
  go_enter Tryd.func85, Tryd.ntmps85
  go_wp2
  go_rounds 5
  go_ret
  exact ⟨rfl, by go_grown⟩

theorem one_digit (n : Int) : (⟨#[48, 49, 50, 51, 52, 53, 54, 55, 56, 57]⟩ : ByteArray).extract (n % 10).toNat (n % 10 + 1).toNat = ⟨#[dg n]⟩ := by
  have : n % 10 = 0 ∨ n % 10 = 1 ∨ n % 10 = 2 ∨ n % 10 = 3 ∨ n % 10 = 4 ∨ n % 10 = 5 ∨ n % 10 = 6 ∨ n % 10 = 7 ∨ n % 10 = 8 ∨ n % 10 = 9 := by omega
  unfold dg
  rcases this with h | h | h | h | h | h | h | h | h | h <;> rw [h] <;> rfl
theorem two_digits (n : Int) : (⟨#[dg (n / 10)]⟩ ++ (⟨#[dg n]⟩ ++ ⟨#[]⟩) : ByteArray) = S2 n := by
  apply ByteArray.ext; simp [S2]
theorem four_digits (n : Int) : (⟨#[dg (n / 10 / 10 / 10)]⟩ ++ (⟨#[dg (n / 10 / 10)]⟩ ++ (⟨#[dg (n / 10)]⟩ ++ (⟨#[dg n]⟩ ++ ⟨#[]⟩))) : ByteArray) = S4 n := by
  apply ByteArray.ext; simp [S4]
theorem ret_str {a b : ByteArray} (h : a = b) : Ending.returned (.string a) = .returned (.string b) := by rw [h]

set_option maxHeartbeats 1000000 in
theorem Digits2 (n : Int) (w : World) (h0 : 0 ≤ n) (h1 : n ≤ 9999) :
    Calls Tryd.prog 67 #[.int .i64 n, .int .i64 2] w fun e w' => e = .returned (.string (S2 n)) ∧ w = w' := by
  go_enter Tryd.func67, Tryd.ntmps67
  go_wp2
  go_rounds 3
  go_ret
  exact ⟨ret_str (by simp only [one_digit]; exact two_digits n), rfl⟩
set_option maxHeartbeats 1000000 in
theorem Digits4 (n : Int) (w : World) (h0 : 0 ≤ n) (h1 : n ≤ 9999) :
    Calls Tryd.prog 67 #[.int .i64 n, .int .i64 4] w fun e w' => e = .returned (.string (S4 n)) ∧ w = w' := by
  go_enter Tryd.func67, Tryd.ntmps67
  go_wp2
  go_rounds 5
  go_ret
  exact ⟨ret_str (by simp only [one_digit]; exact four_digits n), rfl⟩

theorem S2_size (n : Int) : (S2 n).size = 2 := rfl
theorem S4_size (n : Int) : (S4 n).size = 4 := rfl
/-- The text of a date. -/
def SD (y m k : Int) : ByteArray := S4 y ++ ⟨#[45]⟩ ++ S2 m ++ ⟨#[45]⟩ ++ S2 k
def Said (s : ByteArray) (x : Int) (w : World) (e : Ending) (w' : World) : Prop := e = .returned (.tuple #[.string s, .int .i64 x]) ∧ Below w.heap.size w w'
def Spoke (s : ByteArray) (x : Int) (w : World) (e : Ending) (w' : World) : Prop := e = .returned (.tuple #[.string s, .int .i64 x]) ∧ w = w'

set_option maxHeartbeats 1000000 in
theorem Format_yes (d y m k : Int) (w : World) (hT : Tab w) (h : Cal.DateIs d y m k) (h0 : 0 ≤ d) (h1 : d ≤ 1048575) :
    Calls Tryd.prog 63 #[.int .i64 d] w (Said (SD y m k) 0 w) := by
  have y0 := h.y0; have y1 := h.y1; have m0 := h.m0; have m1 := h.m1; have k0 := h.k0; have k1 := h.k1; have lb := (Cal.ln_bd y m).2
  have s4 := S4_size; have s2 := S2_size
  go_enter Tryd.func63, Tryd.ntmps63
  go_wp2_with fail
  refine (Date_yes d y m k _ hT h h0 h1).mono ?_; rintro e w' ⟨rfl, rfl⟩
  go_wp2_with fail
  refine (padded4 _ _ (by omega) (by omega)).mono ?_; rintro e w1 ⟨rfl, hb1⟩
  go_wp2_with fail
  refine (padded2 _ _ (by omega) (by omega)).mono ?_; rintro e w2 ⟨rfl, hb2⟩
  go_wp2_with fail
  refine (padded2 _ _ (by omega) (by omega)).mono ?_; rintro e w3 ⟨rfl, hb3⟩
  go_wp2
  go_ret2
  exact ⟨rfl, (hb1.trans (hb2.mono hb1.size)).trans (hb3.mono (Nat.le_trans hb1.size hb2.size))⟩
set_option maxHeartbeats 400000 in
theorem Format_no (d : Int) (w : World) (hd : dayB d = false) :
    Calls Tryd.prog 63 #[.int .i64 d] w (Said ⟨#[]⟩ 2 w) := by
  go_enter Tryd.func63, Tryd.ntmps63
  go_wp2_with (go_at_call 54; refine (Date_no _ _ hd).mono ?_; rintro e w' ⟨rfl, rfl⟩)
  go_ret2
  exact ⟨rfl, Below.refl _ _⟩
set_option maxHeartbeats 1000000 in
theorem refFormat_yes (d y m k : Int) (w : World) (h : Cal.DateIs d y m k) (h0 : 0 ≤ d) (h1 : d ≤ 1048575) :
    Calls Tryd.prog 37 #[.int .i64 d] w (Spoke (SD y m k) 0 w) := by
  have y0 := h.y0; have y1 := h.y1; have m0 := h.m0; have m1 := h.m1; have k0 := h.k0; have k1 := h.k1; have lb := (Cal.ln_bd y m).2
  have s4 := S4_size; have s2 := S2_size
  go_enter Tryd.func37, Tryd.ntmps37
  go_wp2_with fail
  refine (refDate_yes d y m k _ h h0 h1).mono ?_; rintro e w' ⟨rfl, rfl⟩
  go_wp2_with fail
  refine (Digits4 _ _ (by omega) (by omega)).mono ?_; rintro e w' ⟨rfl, rfl⟩
  go_wp2_with fail
  refine (Digits2 _ _ (by omega) (by omega)).mono ?_; rintro e w' ⟨rfl, rfl⟩
  go_wp2_with fail
  refine (Digits2 _ _ (by omega) (by omega)).mono ?_; rintro e w' ⟨rfl, rfl⟩
  go_wp2
  go_ret2
  exact ⟨rfl, rfl⟩
set_option maxHeartbeats 400000 in
theorem refFormat_no (d : Int) (w : World) (hd : dayB d = false) :
    Calls Tryd.prog 37 #[.int .i64 d] w (Spoke ⟨#[]⟩ 2 w) := by
  go_enter Tryd.func37, Tryd.ntmps37
  go_wp2_with (go_at_call 38; refine (refDate_no _ _ hd).mono ?_; rintro e w' ⟨rfl, rfl⟩)
  go_ret2
  exact ⟨rfl, rfl⟩
end Go.Proofs.YtbllolalfmgfoaaDoor
