/- The natural order: numbers and parts compared. -/
import Derived.Test.YtnjnjcgbdhiigaaGreatDoorCP
namespace Go.Proofs.YtnjnjcgbdhiigaaGreatDoor
open Go.RowKit Go.Shelf

def or2 (x y : Int) : Int := if x = 0 then y else x
set_option maxHeartbeats 2000000 in
theorem or_any (x y : Int) (g c : Nat) (w : World) (hx : w.cell? ⟨g, 0, none⟩ = some (.int .i64 x)) (hy : w.cell? ⟨g, 1, none⟩ = some (.int .i64 y)) :
    Calls Tryz.prog 112 #[.slice (some ⟨g, 0, none⟩) 2 c] w fun e w' => e = .returned (.int .i64 (or2 x y)) ∧ w = w' := by
  have HX := Lib.hid hx
  have HY := Lib.hid hy
  clear hx hy
  obtain ⟨r, hr⟩ : ∃ r, or2 x y = r := ⟨_, rfl⟩
  have HR := Lib.hid hr
  rw [hr]
  clear hr
  go_enter Tryz.func112, Tryz.ntmps112
  go_wp2_with fail
  go_loop [8] (fun i => ∃ k : Nat, k ≤ 2 ∧ i = .int .i64 k ∧ Hid ((0 < k → x = 0) ∧ (1 < k → y = 0))) (fun i => 2 - (intOf i).toNat)
  case atStart => exact ⟨0, by omega, rfl, fun h => absurd h (by omega), fun h => absurd h (by omega)⟩
  case round =>
    obtain ⟨k, hk, rfl, hrel⟩ := hrel
    rcases (by omega : k = 0 ∨ k = 1 ∨ k = 2) with rfl | rfl | rfl
    · have hx := HX.out
      by_cases h : x = 0
      · have D : (x != 0) = false := by simp [h]
        have HH := Lib.hid h
        clear h
        go_wp2
        go_round
        case rel => exact ⟨1, by omega, rfl, fun _ => HH.out, fun h => absurd h (by omega)⟩
        case measure => simp [intOf]
      · have D : (x != 0) = true := by simp [h]
        have N := Lib.hid (show x = r by rw [← HR.out]; unfold or2; rw [if_neg h])
        clear h
        go_wp2
        go_ret
        exact ⟨by rw [N.out]; rfl, rfl⟩
    · have hy := HY.out
      by_cases h : y = 0
      · have D : (y != 0) = false := by simp [h]
        have HH := Lib.hid h
        clear h
        go_wp2
        go_round
        case rel => exact ⟨2, by omega, rfl, fun _ => hrel.out.1 (by omega), fun _ => HH.out⟩
        case measure => simp [intOf]
      · have D : (y != 0) = true := by simp [h]
        have N := Lib.hid (show y = r by rw [← HR.out]; unfold or2; rw [if_pos (hrel.out.1 (by omega))])
        clear h
        go_wp2
        go_ret
        exact ⟨by rw [N.out]; rfl, rfl⟩
    · have N := Lib.hid (show (0 : Int) = r by rw [← HR.out]; unfold or2; rw [if_pos (hrel.out.1 (by omega)), hrel.out.2 (by omega)])
      go_wp2
      go_ret
      exact ⟨by rw [← N.out]; rfl, rfl⟩
theorem trimZ_any (s : ByteArray) (w : World) :
    Calls Tryz.prog 111 #[.string s, .string ⟨#[48]⟩] w fun e w' => e = .returned (.string ⟨(Lib.trimLeftB s.data.toList 48).toArray⟩) ∧ w' = w := Any.strings_TrimLeft_one Tryz.lays161 s 48 (by decide) w
theorem mk_size (l : List UInt8) : (⟨l.toArray⟩ : ByteArray).size = l.length := by show l.toArray.size = _; simp
theorem mk_list (l : List UInt8) : (⟨l.toArray⟩ : ByteArray).data.toList = l := by simp
theorem cell_new2 (w : World) (x y : Value) (t : TypeId) : (w.alloc (.cells #[x, y] t)).cell? ⟨w.heap.size, 0, none⟩ = some x ∧ (w.alloc (.cells #[x, y] t)).cell? ⟨w.heap.size, 1, none⟩ = some y := by
  have h := World.alloc_heap_new w (.cells #[x, y] t)
  generalize w.alloc (.cells #[x, y] t) = W at h ⊢
  generalize w.heap.size = g at h ⊢
  exact ⟨by simp [World.cell?, h], by simp [World.cell?, h]⟩
set_option maxHeartbeats 2000000 in
theorem cmpNum_any (p q : ByteArray) (hp : p.size ≤ 1000) (hq : q.size ≤ 1000) (w : World) :
    Calls Tryz.prog 83 #[.string p, .string q] w fun e w' => e = .returned (.int .i64 (cmpNum p.data.toList q.data.toList)) ∧ Below w.heap.size w w' := by
  have T1 := Lib.hid (fun V => trimZ_any p V)
  have T2 := Lib.hid (fun V => trimZ_any q V)
  obtain ⟨a, ha⟩ : ∃ a : ByteArray, a = ⟨(Lib.trimLeftB p.data.toList 48).toArray⟩ := ⟨_, rfl⟩
  obtain ⟨b, hb⟩ : ∃ b : ByteArray, b = ⟨(Lib.trimLeftB q.data.toList 48).toArray⟩ := ⟨_, rfl⟩
  have sa : a.size ≤ 1000 := by rw [ha, mk_size]; have : (Lib.trimLeftB p.data.toList 48).length ≤ _ := dropWhile_le _ _; rw [len_sz] at this; omega
  have sb : b.size ≤ 1000 := by rw [hb, mk_size]; have : (Lib.trimLeftB q.data.toList 48).length ≤ _ := dropWhile_le _ _; rw [len_sz] at this; omega
  have R : cmpNum p.data.toList q.data.toList = or2 (cmpI (a.size : Int) (b.size : Int)) (Lib.compareBytes a.data.toList b.data.toList) := by
    unfold cmpNum or2
    rw [ha, hb, mk_size, mk_size, mk_list, mk_list]
  rw [← ha] at T1
  rw [← hb] at T2
  clear ha hb hp hq
  have CI := Lib.hid (fun V => cmp_any (a.size : Int) (b.size : Int) V)
  have CS := Lib.hid (fun V => Any.strings_Compare Tryz.lays106 a b V)
  rw [R]
  clear R
  generalize cmpI (a.size : Int) (b.size : Int) = x at *
  generalize Lib.compareBytes a.data.toList b.data.toList = y at *
  go_enter Tryz.func83, Tryz.ntmps83
  go_wp2_with fail
  refine (T1.out _).mono ?_; rintro e w1 ⟨rfl, h⟩; obtain rfl : w = w1 := h.symm
  go_wp2_with fail
  refine (T2.out _).mono ?_; rintro e w1 ⟨rfl, h⟩; obtain rfl : w = w1 := h.symm
  go_wp2_with fail
  refine (CI.out _).mono ?_; rintro e w1 ⟨rfl, h⟩; obtain rfl : w = w1 := h.symm
  go_wp2_with fail
  refine (CS.out _).mono ?_; rintro e w1 ⟨rfl, h⟩; obtain rfl : w = w1 := h.symm
  go_wp2_with fail
  refine (or_any x y _ _ _ (cell_new2 w _ _ _).1 (cell_new2 w _ _ _).2).mono ?_; rintro e w1 ⟨rfl, rfl⟩
  go_wp2_with fail
  go_ret
  exact ⟨rfl, (Below.refl _ w).alloc (Nat.le_refl _) _⟩
end Go.Proofs.YtnjnjcgbdhiigaaGreatDoor
