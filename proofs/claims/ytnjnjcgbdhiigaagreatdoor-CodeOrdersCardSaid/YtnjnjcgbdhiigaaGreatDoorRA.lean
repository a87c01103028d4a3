/- The reference's part. -/
import Derived.Test.YtnjnjcgbdhiigaaGreatDoorCZ
namespace Go.Proofs.YtnjnjcgbdhiigaaGreatDoor
open Go.RowKit Go.Shelf

def isDg (c : UInt8) : Bool := decide (48 ≤ c.toNat ∧ c.toNat ≤ 57)
def vals (l : List UInt8) : Nat := l.foldl (fun n c => 10 * n + (c.toNat - 48)) 0
theorem vals_snoc (l : List UInt8) (c : UInt8) : vals (l ++ [c]) = 10 * vals l + (c.toNat - 48) := by unfold vals; rw [List.foldl_append]; rfl
theorem byte_of {c : UInt8} (h : isDg c = true) : c = UInt8.ofNat (48 + (c.toNat - 48)) := by
  have := of_decide_eq_true h
  rw [show 48 + (c.toNat - 48) = c.toNat by omega]
  exact UInt8.ofNat_toNat.symm
theorem part_ok {l : List UInt8} (h0 : 1 ≤ l.length) (h3 : l.length ≤ 3) (hd : l.all isDg = true) (hh : l.head? ≠ some 48) : 1 ≤ vals l ∧ vals l ≤ 999 ∧ dec (vals l) = l := by
  have ne : ∀ c : UInt8, isDg c = true → c ≠ 48 → 1 ≤ c.toNat - 48 ∧ c.toNat - 48 ≤ 9 := fun c hc h => by
    have := of_decide_eq_true hc
    have : c.toNat ≠ 48 := fun e => h (UInt8.toNat_inj.1 e)
    omega
  have le : ∀ c : UInt8, isDg c = true → c.toNat - 48 ≤ 9 := fun c hc => by have := of_decide_eq_true hc; omega
  match l, h0, h3 with
  | [a], _, _ =>
    simp at hd hh
    have ha := ne a hd hh
    have e : vals [a] = a.toNat - 48 := by simp [vals]
    rw [e]
    exact ⟨ha.1, by omega, by rw [dec1 (by omega), ← byte_of hd]⟩
  | [a, b], _, _ =>
    simp at hd hh
    have ha := ne a hd.1 hh
    have hb := le b hd.2
    have e : vals [a, b] = 10 * (a.toNat - 48) + (b.toNat - 48) := by simp [vals]
    rw [e]
    refine ⟨by omega, by omega, ?_⟩
    rw [dec2 (by omega) (by omega), show (10 * (a.toNat - 48) + (b.toNat - 48)) / 10 = a.toNat - 48 by omega, show (10 * (a.toNat - 48) + (b.toNat - 48)) % 10 = b.toNat - 48 by omega, ← byte_of hd.1, ← byte_of hd.2]
  | [a, b, c], _, _ =>
    simp at hd hh
    have ha := ne a hd.1 hh
    have hb := le b hd.2.1
    have hc := le c hd.2.2
    have e : vals [a, b, c] = 10 * (10 * (a.toNat - 48) + (b.toNat - 48)) + (c.toNat - 48) := by simp [vals]
    rw [e]
    refine ⟨by omega, by omega, ?_⟩
    rw [dec3 (by omega) (by omega), show (10 * (10 * (a.toNat - 48) + (b.toNat - 48)) + (c.toNat - 48)) / 100 = a.toNat - 48 by omega, show (10 * (10 * (a.toNat - 48) + (b.toNat - 48)) + (c.toNat - 48)) / 10 % 10 = b.toNat - 48 by omega,
      show (10 * (10 * (a.toNat - 48) + (b.toNat - 48)) + (c.toNat - 48)) % 10 = c.toNat - 48 by omega, ← byte_of hd.1, ← byte_of hd.2.1, ← byte_of hd.2.2]
  | _ :: _ :: _ :: _ :: _, _, h => simp at h
theorem dec_form {n : Nat} (h1 : 1 ≤ n) (h2 : n ≤ 999) : 1 ≤ (dec n).length ∧ (dec n).length ≤ 3 ∧ (dec n).all isDg = true ∧ (dec n).head? ≠ some 48 := by
  have dg : ∀ k, k < 10 → isDg (UInt8.ofNat (48 + k)) = true := fun k hk => decide_eq_true (by rw [byte_nat (by omega)]; omega)
  have nz : ∀ k, 1 ≤ k → k < 10 → UInt8.ofNat (48 + k) ≠ 48 := fun k h hk e => by
    have := congrArg UInt8.toNat e
    rw [byte_nat (by omega)] at this
    have h48 : (48 : UInt8).toNat = 48 := rfl
    omega
  rcases (by omega : n < 10 ∨ (10 ≤ n ∧ n < 100) ∨ (100 ≤ n ∧ n < 1000)) with a | ⟨a, b⟩ | ⟨a, b⟩
  · rw [dec1 a]
    exact ⟨by simp, by simp, by rw [List.all_cons, dg _ a]; rfl, fun h => nz n h1 a (Option.some.inj h)⟩
  · rw [dec2 a b]
    exact ⟨by simp, by simp, by rw [List.all_cons, List.all_cons, dg _ (by omega), dg _ (by omega)]; rfl, fun h => nz (n / 10) (by omega) (by omega) (Option.some.inj h)⟩
  · rw [dec3 a b]
    exact ⟨by simp, by simp, by rw [List.all_cons, List.all_cons, List.all_cons, dg _ (by omega), dg _ (by omega), dg _ (by omega)]; rfl, fun h => nz (n / 100) (by omega) (by omega) (Option.some.inj h)⟩
/-- What part returns. -/
def PaR1 (l : List UInt8) (w : World) (e : Ending) (w' : World) : Prop :=
  ((∃ n : Nat, 1 ≤ n ∧ n ≤ 999 ∧ dec n = l ∧ e = .returned (.tuple #[.int .i64 n, .bool true])) ∨ ((∀ n, 1 ≤ n → n ≤ 999 → dec n ≠ l) ∧ e = .returned (.tuple #[.int .i64 0, .bool false]))) ∧ w = w'
set_option maxHeartbeats 4000000 in
theorem rpart_any (s : ByteArray) (w : World) : Calls Tryz.prog 34 #[.string s] w (PaR1 s.data.toList w) := by
  by_cases a : s.size < 1
  · have N := Lib.hid (show ∀ n, 1 ≤ n → n ≤ 999 → dec n ≠ s.data.toList from fun n h1 h2 e => by have := (dec_form h1 h2).1; rw [e, len_sz] at this; omega)
    have d : decide ((s.size : Int) < 1) = true := by simpa using (by omega : (s.size : Int) < 1)
    clear a
    go_enter Tryz.func34, Tryz.ntmps34
    go_wp2_with fail
    go_ret2
    exact ⟨Or.inr ⟨N.out, rfl⟩, rfl⟩
  have da : decide ((s.size : Int) < 1) = false := by simpa using (by omega : (1 : Int) ≤ (s.size : Int))
  by_cases b : 3 < s.size
  · have N := Lib.hid (show ∀ n, 1 ≤ n → n ≤ 999 → dec n ≠ s.data.toList from fun n h1 h2 e => by have := (dec_form h1 h2).2.1; rw [e, len_sz] at this; omega)
    have d : decide (3 < (s.size : Int)) = true := by simpa using (by omega : (3 : Int) < (s.size : Int))
    clear a b
    go_enter Tryz.func34, Tryz.ntmps34
    go_wp2_with fail
    go_ret2
    exact ⟨Or.inr ⟨N.out, rfl⟩, rfl⟩
  have db : decide (3 < (s.size : Int)) = false := by simpa using (by omega : (s.size : Int) ≤ 3)
  have s0 : 0 < s.size := by omega
  by_cases h2 : ((s[0].toNat : Int) == 48) = true
  · have N := Lib.hid (show ∀ n, 1 ≤ n → n ≤ 999 → dec n ≠ s.data.toList from fun n h1 h3 e => (dec_form h1 h3).2.2.2 (by
      rw [e, head_sz s0]
      have : s[0] = 48 := UInt8.toNat_inj.1 (by have := beq_iff_eq.1 h2; show s[0].toNat = 48; omega)
      rw [this]))
    clear a b
    go_enter Tryz.func34, Tryz.ntmps34
    go_wp2_with fail
    go_ret2
    exact ⟨Or.inr ⟨N.out, rfl⟩, rfl⟩
  have n2 := Lib.hid (show s.data.toList.head? ≠ some 48 from fun h => h2 (by rw [head_sz s0] at h; rw [Option.some.inj h]; rfl))
  have h2 : ((s[0].toNat : Int) == 48) = false := by simpa using h2
  have s3 : s.size ≤ 3 := by omega
  clear a b
  go_enter Tryz.func34, Tryz.ntmps34
  go_wp2_with fail
  clear h2 da db
  go_loop [4, 5] (fun vn vi => ∃ k m : Nat, k ≤ s.size ∧ vi = .int .i64 k ∧ vn = .int .i64 m ∧ m ≤ 1000 ∧ Hid (m = vals (s.data.toList.take k) ∧ (s.data.toList.take k).all isDg = true ∧ m < 10 ^ k)) (fun _ vi => s.size - (intOf vi).toNat)
  case atStart => exact ⟨0, 0, Nat.zero_le _, rfl, rfl, by omega, rfl, rfl, by decide⟩
  case round =>
    obtain ⟨k, m, hk, rfl, rfl, hm, hrel⟩ := hrel
    by_cases hlt : k < s.size
    · obtain ⟨x, hx⟩ : ∃ x, x = s[k] := ⟨_, rfl⟩
      have HX := Lib.hid (show s.data.toList[k]? = some x by rw [get_sz hlt, hx])
      by_cases l1 : (x.toNat : Int) < 48
      · have N := Lib.hid (show ∀ n, 1 ≤ n → n ≤ 999 → dec n ≠ s.data.toList from fun n h1 h3 e => by
          have := List.all_eq_true.1 (dec_form h1 h3).2.2.1 x (by rw [e]; exact List.mem_of_getElem? HX.out)
          have := of_decide_eq_true this
          omega)
        have e1 : decide ((s[k].toNat : Int) < 48) = true := by rw [← hx]; simpa using l1
        clear hx l1
        go_wp2
        go_ret2
        exact ⟨Or.inr ⟨N.out, rfl⟩, rfl⟩
      have e1 : decide ((s[k].toNat : Int) < 48) = false := by rw [← hx]; simpa using l1
      by_cases l2 : 57 < (x.toNat : Int)
      · have N := Lib.hid (show ∀ n, 1 ≤ n → n ≤ 999 → dec n ≠ s.data.toList from fun n h1 h3 e => by
          have := List.all_eq_true.1 (dec_form h1 h3).2.2.1 x (by rw [e]; exact List.mem_of_getElem? HX.out)
          have := of_decide_eq_true this
          omega)
        have e2 : decide (57 < (s[k].toNat : Int)) = true := by rw [← hx]; simpa using l2
        clear hx l1 l2
        go_wp2
        go_ret2
        exact ⟨Or.inr ⟨N.out, rfl⟩, rfl⟩
      have e2 : decide (57 < (s[k].toNat : Int)) = false := by rw [← hx]; simpa using l2
      have b1 : (48 : Int) ≤ (s[k].toNat : Int) := by rw [← hx]; omega
      have b2 : (s[k].toNat : Int) ≤ 57 := by rw [← hx]; omega
      have hm9 : m ≤ 99 := by
        have h := hrel.out.2.2
        rcases (by omega : k = 0 ∨ k = 1 ∨ k = 2) with rfl | rfl | rfl
        · have : m < 1 := h; omega
        · have : m < 10 := h; omega
        · have : m < 100 := h; omega
      have NX := Lib.hid (show (10 * m + (s[k].toNat - 48)) = vals (s.data.toList.take (k + 1)) ∧ (s.data.toList.take (k + 1)).all isDg = true ∧ 10 * m + (s[k].toNat - 48) < 10 ^ (k + 1) by
        have hs : s[k].toNat - 48 ≤ 9 := by omega
        rw [List.take_add_one, HX.out]
        refine ⟨?_, ?_, ?_⟩
        · show _ = vals (_ ++ [x])
          rw [vals_snoc, ← hrel.out.1, hx]
        · rw [List.all_append, hrel.out.2.1]
          show (isDg x && true) = true
          rw [Bool.and_true]; exact decide_eq_true (by rw [hx]; omega)
        · have := hrel.out.2.2
          rw [Nat.pow_succ]; omega)
      clear hx l1 l2 hrel hm
      go_wp2
      go_round
      case rel => exact ⟨k + 1, 10 * m + (s[k].toNat - 48), by omega, by go_num, by congr 1; omega, by omega, NX.out⟩
      case measure => simp [intOf]; omega
    · obtain rfl : k = s.size := by omega
      have h := hrel.out
      rw [List.take_of_length_le (by rw [len_sz]; exact Nat.le_refl _)] at h
      have P := part_ok (l := s.data.toList) (by rw [len_sz]; omega) (by rw [len_sz]; omega) h.2.1 n2.out
      rw [← h.1] at P
      have PP := Lib.hid P
      clear h P hrel
      go_wp2
      go_ret2
      exact ⟨Or.inl ⟨m, PP.out.1, PP.out.2.1, PP.out.2.2, rfl⟩, rfl⟩
end Go.Proofs.YtnjnjcgbdhiigaaGreatDoor
