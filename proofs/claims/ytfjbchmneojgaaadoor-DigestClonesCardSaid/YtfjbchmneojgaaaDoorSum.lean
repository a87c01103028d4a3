/- New, Write of one short string, Sum of a short string. -/
import Derived.Test.YtfjbchmneojgaaaDoorHsum
namespace Go.Proofs.YtfjbchmneojgaaaDoor
open Go.RowKit

def hashCells (f : Nat → BitVec 64) (n : Nat) : Array Value := (vecL 25 f ++ [Value.int .i64 n]).toArray
theorem HR.new (w : World) (t : TypeId) (f : Nat → BitVec 64) (n : Nat) : HR (w.alloc (.cells (hashCells f n) t)) w.heap.size f n := by
  have hg := heap_alloc_new w (.cells (hashCells f n) t)
  have c : ∀ j, (w.alloc (.cells (hashCells f n) t)).cell? ⟨w.heap.size, j, none⟩ = (vecL 25 f ++ [Value.int .i64 n])[j]? := fun j => by
    rw [cell_of_row _ _ j _ t (0, 0) hg]; simp [hashCells]
  refine ⟨fun j v hv => ?_, ?_, fun j hj => ?_, by simp, ⟨_, t, hg⟩⟩
  · have l : j < 25 := by
      have := (List.getElem?_eq_some_iff.1 hv).1
      rwa [vecL_len] at this
    rw [Nat.zero_add, c, List.getElem?_append_left (by rw [vecL_len]; exact l)]; exact hv
  · rw [c, List.getElem?_append_right (by rw [vecL_len]; exact Nat.le_refl _), vecL_len]; rfl
  · rw [Nat.zero_add]
    refine ⟨?_, frozen_of_row _ _ j _ t hg⟩
    rw [c, List.getElem?_eq_getElem (by simp [vecL_len]; omega)]; rfl
theorem zero26 : (#[.int .u64 0, .int .u64 0, .int .u64 0, .int .u64 0, .int .u64 0, .int .u64 0, .int .u64 0, .int .u64 0, .int .u64 0, .int .u64 0, .int .u64 0, .int .u64 0, .int .u64 0, .int .u64 0, .int .u64 0, .int .u64 0, .int .u64 0, .int .u64 0, .int .u64 0, .int .u64 0, .int .u64 0, .int .u64 0, .int .u64 0, .int .u64 0, .int .u64 0, .int .i64 0] : Array Value) = hashCells (fun _ => 0) 0 := by rfl

set_option maxRecDepth 100000 in
set_option maxHeartbeats 400000 in
theorem New_any (w : World) :
    Calls Tryd.prog 19 #[] w fun e w' => e = .returned (.pointer (some ⟨w.heap.size, 0, none⟩)) ∧ HR w' w.heap.size (fun _ => 0) 0 ∧ Below w.heap.size w w' := by
  go_enter Tryd.func19, Tryd.ntmps19
  go_wp2_with fail
  rw [zero26]
  go_ret
  exact ⟨rfl, HR.new _ _ _ _, (Below.refl _ _).alloc (Nat.le_refl _) _⟩

set_option maxRecDepth 100000 in
set_option maxHeartbeats 400000 in
theorem Write_one (f : Nat → BitVec 64) (n g b : Nat) (s : ByteArray) (w : World) (hR : HR w g f n) (hc : w.cell? ⟨b, 0, none⟩ = some (.string s)) (hl : n + s.size < 136) :
    Calls Tryd.prog 21 #[.pointer (some ⟨g, 0, none⟩), .slice (some ⟨b, 0, none⟩) 1 1] w fun e w' => e = .returned (.int .i64 (n + s.size : Nat)) ∧ HR w' g (puts f n s.data.toList) (n + s.size) ∧ But g w w' := by
  go_enter Tryd.func21, Tryd.ntmps21
  go_wp2_with fail
  go_loopw [9] (fun si wr => ∃ k : Nat, si = .int .i64 k ∧ (k = 0 ∧ wr = w ∨ k = 1 ∧ HR wr g (puts f n s.data.toList) (n + s.size) ∧ But g w wr)) (fun si _ => 1 - (intOf si).toNat)
  case atStart => exact ⟨0, rfl, .inl ⟨rfl, rfl⟩⟩
  case round =>
    obtain ⟨k, rfl, hk⟩ := hrel
    rcases hk with ⟨rfl, rfl⟩ | ⟨rfl, h2, b2⟩
    · have HR0 := Lib.hid hR
      clear hR
      go_wp2_with fail
      refine (take_short f n g s _ HR0.out hl).mono ?_; rintro e w1 ⟨rfl, h1, b1⟩
      have H1 := Lib.hid h1
      have B1 := Lib.hid b1
      clear h1 b1
      go_wp2_with fail
      go_roundw
      case rel => exact ⟨1, rfl, .inr ⟨rfl, H1.out, B1.out⟩⟩
      case measure => simp [intOf]
    · have c := h2.c
      have H2 := Lib.hid h2
      have B2 := Lib.hid b2
      clear h2 b2 hR hc
      go_wp2_with fail
      go_ret
      exact ⟨rfl, H2.out, B2.out⟩

/-- The digest of a short string. -/
def shortDig (s : ByteArray) : ByteArray := digS (perm (put (put (puts (fun _ => 0) 0 s.data.toList) (s.size % 136) 6) 135 128) 24)
set_option maxRecDepth 100000 in
set_option maxHeartbeats 400000 in
theorem Sum_short (s : ByteArray) (w : World) (hT : Tabs w) (hl : s.size < 136) :
    Calls Tryd.prog 13 #[.string s] w fun e w' => e = .returned (.string (shortDig s)) ∧ Below w.heap.size w w' := by
  go_enter Tryd.func13, Tryd.ntmps13
  go_wp2_with fail
  refine (New_any _).mono ?_; rintro e w1 ⟨rfl, h1, b1⟩
  have H1 := Lib.hid h1
  have B1 := Lib.hid b1
  clear h1 b1
  go_wp2_with fail
  refine (Write_one (fun _ => 0) 0 w.heap.size w1.heap.size s _ (H1.out.below ((Below.refl _ _).alloc (Nat.le_refl _) _)) (by simp) (by omega)).mono ?_; rintro e w2 ⟨rfl, h2, b2⟩
  have B2 : Below w.heap.size w w2 := (B1.out.alloc B1.out.size _).trans (b2.below (Nat.le_refl _) (by have := B1.out.size; simp; omega))
  rw [Nat.zero_add] at h2
  have H2 := Lib.hid h2
  have HB2 := Lib.hid B2
  clear h2 b2 B2 H1 B1
  go_wp2_with fail
  refine (HSum_any _ _ _ _ (hT.below HB2.out) H2.out).mono ?_; rintro e w3 ⟨rfl, b3⟩
  have HB3 := Lib.hid b3
  clear b3
  go_wp2_with fail
  go_ret
  exact ⟨rfl, HB2.out.trans (HB3.out.mono HB2.out.size)⟩
end Go.Proofs.YtfjbchmneojgaaaDoor
