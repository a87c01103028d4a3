/- The reference's Decimal. -/
import Derived.Test.YtnjnjcgbdhiigaaGreatDoorRB
namespace Go.Proofs.YtnjnjcgbdhiigaaGreatDoor
open Go.RowKit Go.Shelf

theorem dec_step {n : Nat} (h : 10 ≤ n) : dec n = dec (n / 10) ++ [UInt8.ofNat (48 + n % 10)] := by unfold dec; rw [Lib.decDigits, dif_neg (by omega)]
theorem dec_len (n : Nat) : (dec n).length ≤ n + 1 := by
  induction n using Nat.strongRecOn with
  | _ n ih =>
    by_cases h : n < 10
    · rw [dec1 h]; simp
    · rw [dec_step (by omega), List.length_append, List.length_singleton]
      have := ih (n / 10) (by omega)
      omega
theorem dig_cut : ∀ d : Fin 10, ((⟨#[48, 49, 50, 51, 52, 53, 54, 55, 56, 57]⟩ : ByteArray).extract d (d + 1)) = ⟨#[UInt8.ofNat (48 + d)]⟩ := by decide +kernel
set_option maxHeartbeats 4000000 in
theorem decimal_any (n : Nat) (hn : n ≤ 1000000) (w : World) : Calls Tryz.prog 29 #[.int .i64 n] w fun e w' => e = .returned (.string ⟨(dec n).toArray⟩) ∧ ∃ q, w' = w.drewN q := by
  induction n using Nat.strongRecOn generalizing w with
  | _ n ih =>
    by_cases h : n < 10
    · rw [dec1 h]
      have C0 := dig_cut ⟨n, h⟩
      obtain ⟨b, hb⟩ : ∃ b, b = UInt8.ofNat (48 + n) := ⟨_, rfl⟩
      have C := Lib.hid (show (⟨#[48, 49, 50, 51, 52, 53, 54, 55, 56, 57]⟩ : ByteArray).extract n (n + 1) = ⟨#[b]⟩ by rw [hb]; exact C0)
      rw [← hb]
      clear hb C0
      have k1 : (0 : Int) ≤ (n : Int) := by omega
      clear ih
      go_enter Tryz.func29, Tryz.ntmps29
      go_wp2_with fail
      rw [C.out]
      go_ret
      exact ⟨rfl, 0, rfl⟩
    · obtain ⟨a, ha⟩ : ∃ a, a = n / 10 := ⟨_, rfl⟩
      obtain ⟨d, hd⟩ : ∃ d, d = n % 10 := ⟨_, rfl⟩
      have IH := fun V => ih a (by omega) (by omega) V
      obtain ⟨t, ht⟩ : ∃ t : ByteArray, t = ⟨(dec a).toArray⟩ := ⟨_, rfl⟩
      simp only [← ht] at IH
      have IH := Lib.hid IH
      have ts : t.size ≤ 1000001 := by rw [ht, mk_size]; have := dec_len a; omega
      have C0 := dig_cut ⟨d, by omega⟩
      obtain ⟨b, hb⟩ : ∃ b, b = UInt8.ofNat (48 + d) := ⟨_, rfl⟩
      have C : (⟨#[48, 49, 50, 51, 52, 53, 54, 55, 56, 57]⟩ : ByteArray).extract d (d + 1) = ⟨#[b]⟩ := by rw [hb]; exact C0
      rw [dec_step (by omega), ← ha, ← hd, ← hb]
      obtain ⟨r, hr⟩ : ∃ r : ByteArray, r = ⟨(dec a ++ [b]).toArray⟩ := ⟨_, rfl⟩
      have R := Lib.hid (show t ++ ⟨#[b]⟩ = r by rw [eq_bytes, hr, mk_list, ht]; simp)
      rw [← hr]
      have e0 : (n : Int) = 10 * (a : Int) + (d : Int) := by omega
      have dl : d < 10 := by omega
      have q1 : Int.tdiv (n : Int) 10 = (a : Int) := by rw [Int.tdiv_eq_ediv_of_nonneg (by omega)]; omega
      have q2 : Int.tmod (n : Int) 10 = (d : Int) := by rw [Int.tmod_eq_emod_of_nonneg (by omega)]; omega
      have w1 : IntKind.i64.wrap (a : Int) = (a : Int) := IntWalk.i64_in _ ⟨by omega, by omega⟩
      have w2 : IntKind.i64.wrap (d : Int) = (d : Int) := IntWalk.i64_in _ ⟨by omega, by omega⟩
      have w3 : IntKind.i64.wrap ((d : Int) + 1) = (d : Int) + 1 := IntWalk.i64_in _ ⟨by omega, by omega⟩
      have d0 : (0 : Int) ≤ (d : Int) := by omega
      have d1 : (0 : Int) ≤ (d : Int) + 1 := by omega
      have d2 : (d : Int) + 1 ≤ 10 := by omega
      have d3 : (d : Int) ≤ (d : Int) + 1 := by omega
      have d4 : ((d : Int) + 1).toNat = d + 1 := by omega
      have s1 : ¬ (9223372036854775807 < t.size + 1) := by omega
      have hlt : ¬ n < 10 := h
      clear ih ha hd e0 hb hr ht C0
      go_enter Tryz.func29, Tryz.ntmps29
      go_wp2_with fail
      go_quiet ((go_at_call 29; exact Calls.quiet_of (IH.out _)))
      rw [R.out]
      clear q1 q2 w1 w2 w3 d0 d1 d2 d3 d4 s1 IH C
      go_wp2_with fail
      go_ret
      exact ⟨rfl, nq, rfl⟩
end Go.Proofs.YtnjnjcgbdhiigaaGreatDoor
