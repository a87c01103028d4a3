/- The contracts of the reference's Hex, digit and Parse. -/
import Derived.Test.YtplcoecdlcpjhaaDoorAwake
namespace Go.Proofs.YtplcoecdlcpjhaaDoor
open Go.RowKit

theorem hex_ext : ∀ n : Fin 16, ((⟨#[48, 49, 50, 51, 52, 53, 54, 55, 56, 57, 97, 98, 99, 100, 101, 102]⟩ : ByteArray).extract n.val (n.val + 1)).data.toList = [UInt8.ofNat (hx n.val)] := by decide +kernel
theorem byte_is (s : ByteArray) (i b : Nat) (hi : i < s.size) (hb : PlainAid.bt s i = (b : Int)) : s.data.toList[i]? = some (UInt8.ofNat b) ∧ b < 256 := by
  have e := at_ch (t := s) (k := i) hi
  have c : ch s i = b := by unfold ch; rw [hb]; rfl
  have l := ch_lt s i
  rw [c] at e l
  exact ⟨e, l⟩
theorem ref_more (s t : ByteArray) (i b : Nat) (hi : i < s.size) (hb : PlainAid.bt s i = (b : Int)) (ht : t.data.toList = hexU (s.data.toList.take i)) :
    (t ++ (⟨#[48, 49, 50, 51, 52, 53, 54, 55, 56, 57, 97, 98, 99, 100, 101, 102]⟩ : ByteArray).extract (b / 16) (b / 16 + 1) ++ (⟨#[48, 49, 50, 51, 52, 53, 54, 55, 56, 57, 97, 98, 99, 100, 101, 102]⟩ : ByteArray).extract (b % 16) (b % 16 + 1)).data.toList = hexU (s.data.toList.take (i + 1)) := by
  obtain ⟨g, l⟩ := byte_is s i b hi hb
  rw [take_snoc _ i _ g, hexU_app, ByteArray.data_append, ByteArray.data_append, Array.toList_append, Array.toList_append, hex_ext ⟨b / 16, by omega⟩, hex_ext ⟨b % 16, by omega⟩, ht]
  simp only [hexU, UInt8.toNat_ofNat', Nat.mod_eq_of_lt l, List.append_assoc, List.cons_append, List.nil_append]

set_option maxRecDepth 100000 in
set_option maxHeartbeats 1000000 in
theorem refHex_any (s : ByteArray) (w : World) :
    Calls Tryd.prog 16 #[.string s] w fun e w' => (s.size ≠ 32 ∧ e = .returned (.tuple #[.string ⟨#[]⟩, .int .i64 1]) ∨ s.size = 32 ∧ e = .returned (.tuple #[.string (hexS s), .int .i64 0])) ∧ Below w.heap.size w w' := by
  go_enter Tryd.func16, Tryd.ntmps16
  by_cases hs : s.size = 32
  · have hs1 : (s.size : Int) = 32 := by omega
    go_wp2_with fail
    go_loopw [4, 5] (fun sd si wr => ∃ (i : Nat) (t : ByteArray), i ≤ 32 ∧ sd = .string t ∧ t.data.toList = hexU (s.data.toList.take i) ∧ si = .int .i64 i ∧ Below w.heap.size w wr)
      (fun _ si _ => 32 - (intOf si).toNat)
    case atStart => exact ⟨0, _, by omega, rfl, rfl, rfl, Below.refl _ _⟩
    case round =>
      obtain ⟨i, t, hi32, rfl, ht, rfl, B⟩ := hrel
      by_cases hlt : i < 32
      · have hb := PlainAid.get_bt s
        have c0 : (0 : Int) ≤ (i : Int) := by omega
        have c1 : (i : Int) < (s.size : Int) := by omega
        have b0 := PlainAid.bt_nonneg s i
        have b1 := PlainAid.bt_le s i
        obtain ⟨b, hbb⟩ : ∃ b : Nat, PlainAid.bt s i = (b : Int) := ⟨(PlainAid.bt s i).toNat, by omega⟩
        have b2 : b < 256 := by omega
        have d0 : 0 ≤ (b : Int) / 16 := by omega
        have d1 : (b : Int) / 16 < 16 := by omega
        have d3 : 0 ≤ (b : Int) % 16 := by omega
        have d4 : (b : Int) % 16 < 16 := by omega
        have e0 : (b : Int).tdiv 16 = (b : Int) / 16 := Int.tdiv_eq_ediv_of_nonneg (by omega)
        have e1 : (b : Int).tmod 16 = (b : Int) % 16 := Int.tmod_eq_emod_of_nonneg (by omega)
        have e2 : IntKind.u8.wrap ((b : Int) / 16) = (b : Int) / 16 := IntWalk.u8_in _ ⟨by omega, by omega⟩
        have e3 : IntKind.u8.wrap ((b : Int) % 16) = (b : Int) % 16 := IntWalk.u8_in _ ⟨by omega, by omega⟩
        have e4 : IntKind.u8.wrap ((b : Int) / 16 + 1) = (b : Int) / 16 + 1 := IntWalk.u8_in _ ⟨by omega, by omega⟩
        have e5 : IntKind.u8.wrap ((b : Int) % 16 + 1) = (b : Int) % 16 + 1 := IntWalk.u8_in _ ⟨by omega, by omega⟩
        have f1 : (b : Int) / 16 ≤ (b : Int) / 16 + 1 := by omega
        have f2 : (b : Int) / 16 + 1 ≤ 16 := by omega
        have f3 : (b : Int) % 16 ≤ (b : Int) % 16 + 1 := by omega
        have f4 : (b : Int) % 16 + 1 ≤ 16 := by omega
        have HB' := Lib.hid B
        have HS := Lib.hid hs
        have HBB := Lib.hid hbb
        have HT := Lib.hid ht
        clear B hs ht
        go_wp2_with fail
        go_quiet (fail)
        go_wp2_with fail
        have e6 : IntKind.i64.wrap ((i : Int) + 1) = (i : Int) + 1 := IntWalk.i64_in _ ⟨by omega, by omega⟩
        have ts : t.size = 2 * i := by
          have := congrArg List.length HT.out
          rw [hexU_len, Array.length_toList, List.length_take, Array.length_toList, show s.data.size = 32 from HS.out] at this
          have e : t.data.size = t.size := rfl
          omega
        have m1 : ¬ (9223372036854775807 < t.size + (((b : Int) / 16 + 1).toNat - ((b : Int) / 16).toNat)) := by omega
        have m2 : ¬ (9223372036854775807 < t.size + (((b : Int) / 16 + 1).toNat - ((b : Int) / 16).toNat) + (((b : Int) % 16 + 1).toNat - ((b : Int) % 16).toNat)) := by omega
        clear ts
        go_quiet (fail)
        clear m1 m2
        go_wp2_with fail
        go_roundw
        case rel => exact ⟨i + 1, _, by omega, rfl, ref_more s t i b (by have := HS.out; omega) HBB.out HT.out, by go_num, HB'.out.trans ⟨rfl, rfl, rfl, Nat.le_refl _, fun _ _ => rfl⟩⟩
        case measure => simp [intOf]; omega
      · obtain rfl : i = 32 := by omega
        go_wp2_with fail
        go_ret2
        have e : t = hexS s := by
          apply ba_ext
          rw [ht, List.take_of_length_le (by rw [Array.length_toList, show s.data.size = 32 from hs]; exact Nat.le_refl _)]; rfl
        exact ⟨.inr ⟨hs, by rw [e]; rfl⟩, B⟩
  · have hs1 : ((s.size : Int) != 32) = true := by simp; omega
    go_wp2_with fail
    go_ret2
    exact ⟨.inl ⟨hs, rfl⟩, Below.refl _ _⟩

/-- The reference's value of a digit, or -1. -/
def dvI (c : Nat) : Int := match dv c with | some x => (x : Int) | none => -1
set_option maxHeartbeats 1000000 in
theorem digit_any (c : Nat) (w : World) (hc : c < 256) :
    Calls Tryd.prog 28 #[.int .u8 c] w fun e w' => e = .returned (.int .i64 (dvI c)) ∧ w' = w := by
  by_cases a : 48 ≤ c ∧ c ≤ 57
  · have h1 : (48 : Int) ≤ (c : Int) := by omega
    have h2 : (c : Int) ≤ 57 := by omega
    have h3 : IntKind.u8.wrap ((c : Int) - 48) = (c : Int) - 48 := IntWalk.u8_in _ ⟨by omega, by omega⟩
    have h4 : IntKind.i64.wrap ((c : Int) - 48) = (c : Int) - 48 := IntWalk.i64_in _ ⟨by omega, by omega⟩
    have e : dvI c = (c : Int) - 48 := by unfold dvI dv; rw [if_pos a]; simp only; omega
    rw [e]
    clear e a
    go_enter Tryd.func28, Tryd.ntmps28
    go_wp2_with fail
    go_ret
    exact ⟨rfl, rfl⟩
  · by_cases b : 97 ≤ c ∧ c ≤ 102
    · have h1 : (97 : Int) ≤ (c : Int) := by omega
      have h2 : (c : Int) ≤ 102 := by omega
      have h3 : IntKind.u8.wrap ((c : Int) - 97) = (c : Int) - 97 := IntWalk.u8_in _ ⟨by omega, by omega⟩
      have h3' : IntKind.i64.wrap ((c : Int) - 97) = (c : Int) - 97 := IntWalk.i64_in _ ⟨by omega, by omega⟩
      have h4 : IntKind.i64.wrap ((c : Int) - 97 + 10) = (c : Int) - 97 + 10 := IntWalk.i64_in _ ⟨by omega, by omega⟩
      have h5 : decide ((c : Int) ≤ 57) = false := by simp; omega
      have h6 : decide ((48 : Int) ≤ (c : Int)) = true := by simp; omega
      have e : dvI c = (c : Int) - 97 + 10 := by unfold dvI dv; rw [if_neg a, if_pos b]; simp only; omega
      rw [e]
      clear e a b
      go_enter Tryd.func28, Tryd.ntmps28
      go_wp2_with fail
      go_ret
      exact ⟨rfl, rfl⟩
    · have e : dvI c = -1 := by unfold dvI dv; rw [if_neg a, if_neg b]
      rw [e]
      by_cases x : 48 ≤ c
      · have h6 : decide ((48 : Int) ≤ (c : Int)) = true := by simp; omega
        have h5 : decide ((c : Int) ≤ 57) = false := by simp; omega
        by_cases y : 97 ≤ c
        · have h7 : decide ((97 : Int) ≤ (c : Int)) = true := by simp; omega
          have h8 : decide ((c : Int) ≤ 102) = false := by simp; omega
          clear a b e x y
          go_enter Tryd.func28, Tryd.ntmps28
          go_wp2_with fail
          go_ret
          exact ⟨rfl, rfl⟩
        · have h7 : decide ((97 : Int) ≤ (c : Int)) = false := by simp; omega
          clear a b e x y
          go_enter Tryd.func28, Tryd.ntmps28
          go_wp2_with fail
          go_ret
          exact ⟨rfl, rfl⟩
      · have h6 : decide ((48 : Int) ≤ (c : Int)) = false := by simp; omega
        have h7 : decide ((97 : Int) ≤ (c : Int)) = false := by simp; omega
        clear a b e x
        go_enter Tryd.func28, Tryd.ntmps28
        go_wp2_with fail
        go_ret
        exact ⟨rfl, rfl⟩
end Go.Proofs.YtplcoecdlcpjhaaDoor
