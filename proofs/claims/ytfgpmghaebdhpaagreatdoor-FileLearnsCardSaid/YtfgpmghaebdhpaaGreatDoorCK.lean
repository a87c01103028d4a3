/- Name. -/
import Derived.Test.YtfgpmghaebdhpaaGreatDoorCJ
import Derived.Lib.ConvBytes
namespace Go.Proofs.YtfgpmghaebdhpaaGreatDoor
open Go.RowKit Go.Shelf

/-- A byte of a name. -/
def nmOk (c : UInt8) : Bool := decide (32 ≤ c.toNat ∧ c.toNat ≤ 126)
/-- The names. -/
def nmL (l : List UInt8) : Bool := decide (l ≠ [] ∧ l.length ≤ 64 ∧ l.head? ≠ some 32 ∧ l.getLast? ≠ some 32 ∧ Lib.contains l [32, 32] = false ∧ l.all nmOk = true)
theorem nmL_no {l : List UInt8} (h : ¬ (l ≠ [] ∧ l.length ≤ 64 ∧ l.head? ≠ some 32 ∧ l.getLast? ≠ some 32 ∧ Lib.contains l [32, 32] = false ∧ l.all nmOk = true)) : nmL l = false := decide_eq_false h
theorem len_sz (s : ByteArray) : s.data.toList.length = s.size := by simp
theorem get_sz {s : ByteArray} {k : Nat} (h : k < s.size) : s.data.toList[k]? = some s[k] := by
  rw [Array.getElem?_toList, Array.getElem?_eq_getElem h]; rfl
theorem head_sz {s : ByteArray} (h : 0 < s.size) : s.data.toList.head? = some s[0] := by rw [List.head?_eq_getElem?, get_sz h]
theorem last_sz {s : ByteArray} (h : 0 < s.size) : s.data.toList.getLast? = some s[s.size - 1] := by rw [List.getLast?_eq_getElem?, len_sz, get_sz]
theorem is32 {c : UInt8} : ((c.toNat : Int) == 32) = true ↔ some c = some 32 := by
  rw [beq_iff_eq]
  constructor
  · intro h; congr 1; exact UInt8.toNat_inj.1 (by show c.toNat = 32; omega)
  · intro h; injection h with h; rw [h]; rfl
/-- A fact that no tactic unfolds: a conversion's run at the whole program, met by 'assumption', ends in 'maximum recursion depth'. -/
structure Shut (p : Prop) : Prop where out : p
theorem nempty {s : ByteArray} (h : 0 < s.size) : ¬ s.toList = [] := fun g => by have := congrArg List.length g; rw [ByteArray.toList_eq, len_sz] at this; simp only [List.length_nil] at this; omega

set_option maxHeartbeats 2000000 in
theorem Name_any (a : Txt) (w : World) (hw : Lw w) : Calls Tryz.prog 59 #[.string a.1] w fun e w' => e = .returned (.bool (nmL (bts a))) ∧ Below w.heap.size w w' := by
  obtain ⟨m, hm⟩ := hw.ml
  obtain ⟨s, hs⟩ := a
  show Calls Tryz.prog 59 #[.string s] w fun e w' => e = .returned (.bool (nmL s.data.toList)) ∧ Below w.heap.size w w'
  by_cases h0 : s.size = 0
  · have N := Lib.hid (show nmL s.data.toList = false from nmL_no fun h => h.1 (List.length_eq_zero_iff.1 (by rw [len_sz]; exact h0)))
    have c1 : s.toList = [] := by rw [ByteArray.toList_eq]; exact List.length_eq_zero_iff.1 (by rw [len_sz]; exact h0)
    have c2 : s.toList.isEmpty = true := by rw [c1]; rfl
    rw [N.out]
    clear N h0
    go_enter Tryz.func59, Tryz.ntmps59
    go_wp2_with fail
    go_ret
    exact ⟨rfl, Below.refl _ _⟩
  have h0 : 0 < s.size := by omega
  have c1 := nempty h0
  have c2 : (!s.toList.isEmpty) = true := by simpa using c1
  have c2' : s.toList.isEmpty = false := by simpa using c1
  by_cases h1 : 64 < s.size
  · have N := Lib.hid (show nmL s.data.toList = false from nmL_no fun h => by have := h.2.1; rw [len_sz] at this; omega)
    have d : decide (64 < (s.size : Int)) = true := by simpa using (by omega : 64 < (s.size : Int))
    rw [N.out]
    go_enter Tryz.func59, Tryz.ntmps59
    go_wp2_with fail
    go_ret
    exact ⟨rfl, Below.refl _ _⟩
  have d0 : decide (64 < (s.size : Int)) = false := by simpa using (by omega : (s.size : Int) ≤ 64)
  by_cases h2 : ((s[0].toNat : Int) == 32) = true
  · have N := Lib.hid (show nmL s.data.toList = false from nmL_no fun h => h.2.2.1 (by rw [head_sz h0]; exact is32.1 h2))
    rw [N.out]
    go_enter Tryz.func59, Tryz.ntmps59
    go_wp2_with fail
    go_ret
    exact ⟨rfl, Below.refl _ _⟩
  have n2 := Lib.hid (show s.data.toList.head? ≠ some 32 from fun h => h2 (is32.2 (by rw [← head_sz h0]; exact h)))
  have h2 : ((s[0].toNat : Int) == 32) = false := by simpa using h2
  by_cases h3 : ((s[s.size - 1].toNat : Int) == 32) = true
  · have N := Lib.hid (show nmL s.data.toList = false from nmL_no fun h => h.2.2.2.1 (by rw [last_sz h0]; exact is32.1 h3))
    rw [N.out]
    go_enter Tryz.func59, Tryz.ntmps59
    go_wp2_with fail
    go_ret
    exact ⟨rfl, Below.refl _ _⟩
  have n3 := Lib.hid (show s.data.toList.getLast? ≠ some 32 from fun h => h3 (is32.2 (by rw [← last_sz h0]; exact h)))
  have h3 : ((s[s.size - 1].toNat : Int) == 32) = false := by simpa using h3
  have CO := Lib.hid (Any.strings_Contains Tryz.lays144 s ⟨#[32, 32]⟩ m w (by omega) hm)
  clear hm
  by_cases h4 : Lib.contains s.data.toList (⟨#[32, 32]⟩ : ByteArray).data.toList = true
  · have N := Lib.hid (show nmL s.data.toList = false from nmL_no fun h => by have := h.2.2.2.2.1; rw [show ([32, 32] : List UInt8) = (⟨#[32, 32]⟩ : ByteArray).data.toList from rfl, h4] at this; cases this)
    rw [h4] at CO
    rw [N.out]
    clear h4
    go_enter Tryz.func59, Tryz.ntmps59
    go_wp2_with fail
    refine CO.out.mono ?_; rintro e w1 ⟨rfl, rfl⟩
    go_wp2_with fail
    go_ret
    exact ⟨rfl, Below.refl _ _⟩
  have h4 : Lib.contains s.data.toList (⟨#[32, 32]⟩ : ByteArray).data.toList = false := by simpa using h4
  rw [h4] at CO
  have n4 := Lib.hid (show Lib.contains s.data.toList [32, 32] = false from h4)
  clear h4
  have hcv := Lib.run_convert_string_bytes (P := Tryz.prog) w 9 108 5 s (u := .string) Tryz.underlying9 Tryz.underlying108 Tryz.underlying5
  have hB : ∀ j, j < s.size → (Lib.bytesWorld w 5 s).cell? ⟨w.heap.size, j, none⟩ = some (.int .u8 (s.data.toList.getD j 0).toNat) := fun j hj => Lib.bytesWorld_cell w 5 s j hj
  obtain ⟨W1, hW1⟩ : ∃ W1, W1 = Lib.bytesWorld w 5 s := ⟨_, rfl⟩
  have BW := Lib.hid (show Below w.heap.size w W1 by rw [hW1]; exact Lib.bytesWorld_below _ _ _)
  rw [← hW1] at hcv hB
  have HB := Lib.hid hB
  have h5 := Lib.hid (show s.size ≤ 64 by omega)
  obtain ⟨r, hr⟩ : ∃ r, r = nmL s.data.toList := ⟨_, rfl⟩
  rw [← hr]
  have HR := Lib.hid hr.symm
  clear hr
  have HCV := Shut.mk hcv
  clear hW1 hB hw hcv
  go_enter Tryz.func59, Tryz.ntmps59
  go_wp2_with fail
  refine CO.out.mono ?_; rintro e w1 ⟨rfl, hw1⟩; obtain rfl : w = w1 := hw1.symm
  clear c1 c2 c2' h2 h3 d0
  have hcv := HCV.out
  go_wp2_with fail
  clear hcv
  go_loop [30] (fun vi => ∃ k : Nat, k ≤ s.size ∧ vi = .int .i64 k ∧ Hid ((s.data.toList.take k).all nmOk = true)) (fun vi => s.size - (RowKit.intOf vi).toNat)
  case atStart => exact ⟨0, Nat.zero_le _, rfl, rfl⟩
  case round =>
    obtain ⟨k, hk, rfl, hacc⟩ := hrel
    by_cases hkn : k < s.size
    · obtain ⟨x, hx⟩ : ∃ x, x = s[k] := ⟨_, rfl⟩
      have hxk := get_sz hkn
      rw [← hx] at hxk
      have hc1 : W1.cell? ⟨w.heap.size, k, none⟩ = some (.int .u8 x.toNat) := by
        rw [HB.out k hkn, List.getD, hxk]; rfl
      have HX := Lib.hid hxk
      clear hx hxk
      by_cases l1 : (x.toNat : Int) < 32
      · have N := Lib.hid (show nmL s.data.toList = false from nmL_no fun h => by
          have := List.all_eq_true.1 h.2.2.2.2.2 x (List.mem_of_getElem? HX.out)
          have := of_decide_eq_true this
          omega)
        have e1 : decide ((x.toNat : Int) < 32) = true := by simpa using l1
        rw [HR.out] at N
        go_wp2
        go_ret
        exact ⟨by rw [N.out]; rfl, BW.out⟩
      have e1 : decide ((x.toNat : Int) < 32) = false := by simpa using l1
      by_cases l2 : 126 < (x.toNat : Int)
      · have N := Lib.hid (show nmL s.data.toList = false from nmL_no fun h => by
          have := List.all_eq_true.1 h.2.2.2.2.2 x (List.mem_of_getElem? HX.out)
          have := of_decide_eq_true this
          omega)
        have e2 : decide (126 < (x.toNat : Int)) = true := by simpa using l2
        rw [HR.out] at N
        go_wp2
        go_ret
        exact ⟨by rw [N.out]; rfl, BW.out⟩
      have e2 : decide (126 < (x.toNat : Int)) = false := by simpa using l2
      have NX := Lib.hid (show (s.data.toList.take (k + 1)).all nmOk = true by
        rw [List.take_add_one, HX.out, List.all_append, hacc.out]
        show (nmOk x && true) = true
        rw [Bool.and_true]; exact decide_eq_true (by omega))
      go_wp2
      go_round
      case rel => exact ⟨k + 1, by omega, by go_num, NX⟩
      case measure => simp [RowKit.intOf]; omega
    · have hke : k = s.size := by omega
      subst hke
      have N := Lib.hid (show nmL s.data.toList = true from decide_eq_true ⟨fun h => by have := congrArg List.length h; rw [len_sz, List.length_nil] at this; omega, by rw [len_sz]; exact h5.out, n2.out, n3.out, n4.out, by
        have := hacc.out
        rwa [List.take_of_length_le (by rw [len_sz]; exact Nat.le_refl _)] at this⟩)
      rw [HR.out] at N
      go_wp2
      go_ret
      exact ⟨by rw [N.out]; rfl, BW.out⟩
end Go.Proofs.YtfgpmghaebdhpaaGreatDoor
