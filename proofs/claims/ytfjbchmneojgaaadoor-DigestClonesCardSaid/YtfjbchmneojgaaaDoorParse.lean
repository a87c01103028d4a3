/- The contracts of digitValue and Parse. -/
import Derived.Test.YtfjbchmneojgaaaDoorHex
namespace Go.Proofs.YtfjbchmneojgaaaDoor
open Go.RowKit

/-- The value of a digit. -/
def dv (c : Nat) : Option Nat := if 48 ≤ c ∧ c ≤ 57 then some (c - 48) else if 97 ≤ c ∧ c ≤ 102 then some (c - 87) else none
theorem dv_lt {c x : Nat} (h : dv c = some x) : x < 16 := by
  unfold dv at h
  split at h
  · injection h with h; omega
  · split at h
    · injection h with h; omega
    · cases h

set_option maxHeartbeats 1000000 in
theorem digitValue_any (c : Nat) (w : World) (hc : c < 256) :
    Calls Tryd.prog 27 #[.int .u8 c] w fun e w' => e = .returned (.tuple #[.int .u8 ((dv c).getD 0 : Nat), .bool (dv c).isSome]) ∧ w' = w := by
  by_cases a : 48 ≤ c ∧ c ≤ 57
  · have h1 : (48 : Int) ≤ (c : Int) := by omega
    have h2 : (c : Int) ≤ 57 := by omega
    have h3 : IntKind.u8.wrap ((c : Int) - 48) = (c : Int) - 48 := IntWalk.u8_in _ ⟨by omega, by omega⟩
    have e : dv c = some (c - 48) := by unfold dv; rw [if_pos a]
    rw [e]
    have e2 : (((some (c - 48)).getD 0 : Nat) : Int) = (c : Int) - 48 := by simp only [Option.getD_some]; omega
    rw [e2]
    clear e e2 a
    go_enter Tryd.func27, Tryd.ntmps27
    go_wp2_with fail
    go_ret2
    exact ⟨rfl, rfl⟩
  · by_cases b : 97 ≤ c ∧ c ≤ 102
    · have h1 : (97 : Int) ≤ (c : Int) := by omega
      have h2 : (c : Int) ≤ 102 := by omega
      have h3 : IntKind.u8.wrap ((c : Int) - 97) = (c : Int) - 97 := IntWalk.u8_in _ ⟨by omega, by omega⟩
      have h4 : IntKind.u8.wrap ((c : Int) - 97 + 10) = (c : Int) - 97 + 10 := IntWalk.u8_in _ ⟨by omega, by omega⟩
      have h5 : decide ((c : Int) ≤ 57) = false := by simp; omega
      have h6 : decide ((48 : Int) ≤ (c : Int)) = true := by simp; omega
      have e : dv c = some (c - 87) := by unfold dv; rw [if_neg a, if_pos b]
      rw [e]
      have e2 : (((some (c - 87)).getD 0 : Nat) : Int) = (c : Int) - 97 + 10 := by simp only [Option.getD_some]; omega
      rw [e2]
      clear e e2 a b
      go_enter Tryd.func27, Tryd.ntmps27
      go_wp2_with fail
      go_ret2
      exact ⟨rfl, rfl⟩
    · have e : dv c = none := by unfold dv; rw [if_neg a, if_neg b]
      rw [e]
      by_cases x : 48 ≤ c
      · have h6 : decide ((48 : Int) ≤ (c : Int)) = true := by simp; omega
        have h5 : decide ((c : Int) ≤ 57) = false := by simp; omega
        by_cases y : 97 ≤ c
        · have h7 : decide ((97 : Int) ≤ (c : Int)) = true := by simp; omega
          have h8 : decide ((c : Int) ≤ 102) = false := by simp; omega
          clear a b e x y
          go_enter Tryd.func27, Tryd.ntmps27
          go_wp2_with fail
          go_ret2
          exact ⟨rfl, rfl⟩
        · have h7 : decide ((97 : Int) ≤ (c : Int)) = false := by simp; omega
          clear a b e x y
          go_enter Tryd.func27, Tryd.ntmps27
          go_wp2_with fail
          go_ret2
          exact ⟨rfl, rfl⟩
      · have h6 : decide ((48 : Int) ≤ (c : Int)) = false := by simp; omega
        have h7 : decide ((97 : Int) ≤ (c : Int)) = false := by simp; omega
        clear a b e x
        go_enter Tryd.func27, Tryd.ntmps27
        go_wp2_with fail
        go_ret2
        exact ⟨rfl, rfl⟩

/-- Character k of a text, its digit's value, and byte j of what i of its characters make. -/
def ch (t : ByteArray) (k : Nat) : Nat := (PlainAid.bt t k).toNat
def dg (t : ByteArray) (k : Nat) : Nat := (dv (ch t k)).getD 0
def byteP (t : ByteArray) (i j : Nat) : Nat := if 2 * j + 2 ≤ i then 16 * dg t (2 * j) + dg t (2 * j + 1) else if 2 * j + 1 = i then dg t (2 * j) else 0
def partU (t : ByteArray) (i : Nat) : List UInt8 := (List.range 32).map fun j => UInt8.ofNat (byteP t i j)
def unhexS (t : ByteArray) : ByteArray := ⟨(partU t 64).toArray⟩
theorem ch_lt (t : ByteArray) (k : Nat) : ch t k < 256 := by unfold ch; have := PlainAid.bt_le t k; have := PlainAid.bt_nonneg t k; omega
theorem dg_lt (t : ByteArray) (k : Nat) : dg t k < 16 := by
  unfold dg
  cases h : dv (ch t k) with
  | none => simp
  | some x => exact dv_lt h
theorem byteP_lt (t : ByteArray) (i j : Nat) : byteP t i j < 256 := by
  have := dg_lt t (2 * j); have := dg_lt t (2 * j + 1)
  unfold byteP
  split
  · omega
  · split <;> omega
theorem or16 : ∀ x y : Fin 16, bits .or .u8 (IntKind.u8.wrap ((x.val : Int) * 2 ^ 4)) (y.val : Int) = ((16 * x.val + y.val : Nat) : Int) := by decide +kernel
theorem byteP_or (t : ByteArray) (i : Nat) : bits .or .u8 (IntKind.u8.wrap ((byteP t i (i / 2) : Int) * 2 ^ 4)) (dg t i : Int) = (byteP t (i + 1) (i / 2) : Int) := by
  have h1 := dg_lt t i
  by_cases e : i % 2 = 0
  · have x0 : byteP t i (i / 2) = 0 := by unfold byteP; rw [if_neg (by omega), if_neg (by omega)]
    have x1 : byteP t (i + 1) (i / 2) = dg t i := by unfold byteP; rw [if_neg (by omega), if_pos (by omega), show 2 * (i / 2) = i from by omega]
    have := or16 ⟨0, by decide⟩ ⟨dg t i, h1⟩
    rw [x0, x1]
    simpa using this
  · have h2 := dg_lt t (i - 1)
    have x0 : byteP t i (i / 2) = dg t (i - 1) := by unfold byteP; rw [if_neg (by omega), if_pos (by omega), show 2 * (i / 2) = i - 1 from by omega]
    have x1 : byteP t (i + 1) (i / 2) = 16 * dg t (i - 1) + dg t i := by unfold byteP; rw [if_pos (by omega), show 2 * (i / 2) = i - 1 from by omega, show i - 1 + 1 = i from by omega]
    rw [x0, x1]
    exact or16 ⟨dg t (i - 1), h2⟩ ⟨dg t i, h1⟩
theorem partU_len (t : ByteArray) (i : Nat) : (partU t i).length = 32 := by simp [partU]
theorem partU_get (t : ByteArray) (i j : Nat) (hj : j < 32) : (cv (partU t i))[j]? = some (.int .u8 (byteP t i j : Int)) := by
  simp only [cv, partU, List.map_map, List.getElem?_map]
  rw [List.getElem?_range hj]
  simp only [Option.map_some, Function.comp, UInt8.toNat_ofNat']
  rw [Nat.mod_eq_of_lt (byteP_lt t i j)]
theorem partU_set (t : ByteArray) (i : Nat) : (cv (partU t i)).set (i / 2) (.int .u8 (byteP t (i + 1) (i / 2) : Int)) = cv (partU t (i + 1)) := by
  apply List.ext_getElem?
  intro j
  by_cases hj : j < 32
  · rw [partU_get t (i + 1) j hj, List.getElem?_set]
    by_cases e : i / 2 = j
    · rw [if_pos e, if_pos (by rw [cv_len, partU_len]; omega), e]
    · rw [if_neg e, partU_get t i j hj]
      have : byteP t i j = byteP t (i + 1) j := by
        unfold byteP
        by_cases a : 2 * j + 2 ≤ i
        · rw [if_pos a, if_pos (by omega)]
        · rw [if_neg a, if_neg (by omega), if_neg (by omega), if_neg (by omega)]
      rw [this]
  · rw [List.getElem?_eq_none (by rw [List.length_set, cv_len, partU_len]; omega), List.getElem?_eq_none (by rw [cv_len, partU_len]; omega)]
theorem cells0 : (List.range 32).map (fun _ => Value.int .u8 0) = (madeCells #[Value.int .u8 0] 32).toList := by
  unfold madeCells
  rw [Array.toList_map, Array.toList_range]
  apply List.map_congr_left
  intro i _
  rw [show i % #[Value.int IntKind.u8 0].size = 0 from Nat.mod_one i]; rfl
theorem partU_zero (t : ByteArray) : cv (partU t 0) = (madeCells #[Value.int .u8 0] 32).toList := by
  have : ∀ j, byteP t 0 j = 0 := fun j => by unfold byteP; rw [if_neg (by omega), if_neg (by omega)]
  unfold partU cv
  simp only [this, List.map_map]
  rw [← cells0]
  rfl
theorem ch_bt (t : ByteArray) (k : Nat) : PlainAid.bt t k = (ch t k : Int) := by unfold ch; have := PlainAid.bt_nonneg t k; omega
/-- A text of 64 digits. -/
def Good (t : ByteArray) : Prop := t.size = 64 ∧ ∀ k, k < 64 → (dv (ch t k)).isSome = true

set_option maxRecDepth 100000 in
set_option maxHeartbeats 1000000 in
theorem Parse_any (t : ByteArray) (w : World) :
    Calls Tryd.prog 17 #[.string t] w fun e w' => (¬ Good t ∧ e = .returned (.tuple #[.string ⟨#[]⟩, .int .i64 3]) ∨ Good t ∧ e = .returned (.tuple #[.string (unhexS t), .int .i64 0])) ∧ Below w.heap.size w w' := by
  have U48 : Tryd.prog.underlying 48 = some (.slice 5) := by kernel_rfl
  obtain ⟨i0, hi, hz0, hz1, hz2⟩ := info_parts (P := Tryd.prog) (e := 5) (z := .int .u8 0) (size := 1) (bytes := 1) (by kernel_rfl)
  go_enter Tryd.func17, Tryd.ntmps17
  by_cases hs : t.size = 64
  · have hs1 : (t.size : Int) = 64 := by omega
    go_wp2_with (at_make; refine wpList_make_full _ rfl _ _ 48 rfl w.heap.size 5 i0 (.int .u8 0) 1 U48 hi hz0 hz1 _ _ _ _ 32 rfl rfl rfl rfl (by rw [hz2]; decide) (by decide) (Nat.le_refl _) ?_)
    intro w4 own4 grow4
    rw [← partU_zero t] at own4
    have B4 := (Below.refl w.heap.size w).grown grow4 (Nat.le_refl _) (fun k hk => by cases hk)
    go_wp2_with fail
    go_loopw [14] (fun si wr => ∃ i : Nat, i ≤ 64 ∧ si = .int .i64 i ∧ (∀ k, k < i → (dv (ch t k)).isSome = true) ∧ wr.ownsRow w.heap.size 5 1 (.slice (some ⟨w.heap.size, 0, none⟩) 32 32) 32 (cv (partU t i)) ∧ Below w.heap.size w wr)
      (fun si _ => 64 - (intOf si).toNat)
    case atStart => exact ⟨0, by omega, rfl, fun k hk => by omega, own4, B4⟩
    case round =>
      obtain ⟨i, hi64, rfl, hgood, own, B⟩ := hrel
      clear own4 B4 grow4
      by_cases hlt : i < 64
      · have hb := PlainAid.get_bt t
        have c0 : (0 : Int) ≤ (i : Int) := by omega
        have c1 : (i : Int) < (t.size : Int) := by omega
        have hbb := ch_bt t i
        have hcl := ch_lt t i
        have q1 : (i : Int).tdiv 2 = (i : Int) / 2 := Int.tdiv_eq_ediv_of_nonneg (by omega)
        have q2 : IntKind.i64.wrap ((i : Int) / 2) = (i : Int) / 2 := IntWalk.i64_in _ ⟨by omega, by omega⟩
        have q3 : ((i : Int) / 2).toNat = i / 2 := by omega
        have q4 : 0 ≤ (i : Int) / 2 := by omega
        have q5 : (i : Int) / 2 < 32 := by omega
        have g0 := own.cellAt (i / 2) (by omega)
        rw [partU_get t i (i / 2) (by omega)] at g0
        have z0 := own.frozenAt (i / 2)
        have st := own.stored (i / 2) (.int .u8 (byteP t (i + 1) (i / 2) : Int))
        rw [partU_set] at st
        have eor := byteP_or t i
        rw [IntKind.wrap_u8, show (2 : Int) ^ 4 = 16 from rfl] at eor
        have e1 : IntKind.i64.wrap ((i : Int) + 1) = (i : Int) + 1 := IntWalk.i64_in _ ⟨by omega, by omega⟩
        have HST := Lib.hid st
        have HB' := Lib.hid B
        have HS := Lib.hid hs
        have HG := Lib.hid hgood
        clear own B hs st hgood
        generalize hd : dg t i = d at eor
        have HD := Lib.hid hd
        clear hd
        go_wp2_with fail
        refine (digitValue_any (ch t i) _ hcl).mono ?_; rintro e w1 ⟨rfl, rfl⟩
        cases hv : dv (ch t i) with
        | none =>
          have HV := Lib.hid hv
          clear hv
          go_wp2_with fail
          go_ret2
          exact ⟨.inl ⟨fun h => (by have := h.2 i hlt; rw [HV.out] at this; cases this), rfl⟩, HB'.out⟩
        | some x =>
          have hx : d = x := by rw [← HD.out]; unfold dg; rw [hv]; rfl
          subst hx
          have HV := Lib.hid hv
          clear hv
          have ER := Lib.hid eor
          clear eor
          go_wp2_with fail
          go_roundw
          case rel =>
            rw [ER.out]
            refine ⟨i + 1, by omega, by go_num, fun k hk => ?_, HST.out.1, HB'.out.grown HST.out.2 HB'.out.size (fun k hk => by cases hk; exact Nat.le_refl _)⟩
            by_cases e : k = i
            · rw [e, HV.out]; rfl
            · exact HG.out k (by omega)
          case measure => simp [intOf]; omega
      · obtain rfl : i = 64 := by omega
        have hconv : (convert 48 9 (.slice (some ⟨w.heap.size, 0, none⟩) 32 32)).run Tryd.prog wr = .ok (.string (unhexS t)) wr :=
          conv_own wr 32 32 _ U48 (partU_len t 64) own
        go_wp2_with fail
        go_ret2
        exact ⟨.inr ⟨⟨hs, hgood⟩, rfl⟩, B⟩
  · have hs1 : ((t.size : Int) != 64) = true := by simp; omega
    go_wp2_with fail
    go_ret2
    exact ⟨.inl ⟨fun h => hs h.1, rfl⟩, Below.refl _ _⟩
end Go.Proofs.YtfjbchmneojgaaaDoor
