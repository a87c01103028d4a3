/- Write of any strings, Sum of any string, Clone. -/
import Derived.Test.YtfjbchmneojgaaaDoorTakeG
namespace Go.Proofs.YtfjbchmneojgaaaDoor
open Go.RowKit

/-- Strings in a row in memory. -/
def Strs (w : World) (b off n : Nat) (S : Nat → ByteArray) : Prop := b < w.heap.size ∧ ∀ j, j < n → w.cell? ⟨b, off + j, none⟩ = some (.string (S j))
theorem Strs.but {w w' : World} {b off n g : Nat} {S : Nat → ByteArray} (h : Strs w b off n S) (hg : b ≠ g) (hb : But g w w') : Strs w' b off n S :=
  ⟨Nat.lt_of_lt_of_le h.1 hb.size, fun j hj => (World.cell?_of_block (w := w) (hb.block b h.1 hg)).trans (h.2 j hj)⟩
theorem Strs.below {w w' : World} {b off n : Nat} {S : Nat → ByteArray} (h : Strs w b off n S) (hb : Below w.heap.size w w') : Strs w' b off n S :=
  ⟨Nat.lt_of_lt_of_le h.1 hb.size, fun j hj => (hb.cell (p := ⟨b, off + j, none⟩) h.1).trans (h.2 j hj)⟩
/-- The first strings, one behind the other. -/
def catL (S : Nat → ByteArray) : Nat → List UInt8
  | 0 => []
  | k + 1 => catL S k ++ (S k).data.toList

set_option maxRecDepth 100000 in
set_option maxHeartbeats 1000000 in
theorem Write_any (f : Nat → BitVec 64) (n g b off k c : Nat) (S : Nat → ByteArray) (V w : World) (hT : Tabs V) (hV : Below V.heap.size V w) (hgV : V.heap.size ≤ g) (hR : HR w g f n) (hS : Strs w b off k S) (hbg : b ≠ g)
    (hl : ∀ j, j ≤ k → n + (catL S j).length ≤ 4611686018427387904) (hk : k ≤ 9223372036854775807) :
    Calls Tryd.prog 21 #[.pointer (some ⟨g, 0, none⟩), .slice (some ⟨b, off, none⟩) k c] w fun e w' => e = .returned (.int .i64 (n + (catL S k).length : Nat)) ∧ HR w' g (ab f n (catL S k)) (n + (catL S k).length) ∧ But g w w' := by
  have HTa := Lib.hid hT
  have HVa := Lib.hid hV
  have HSa := Lib.hid hS
  have HL := Lib.hid hl
  clear hT hV hS hl
  go_enter Tryd.func21, Tryd.ntmps21
  go_wp2_with fail
  go_loopw [6, 9] (fun _ si wr => ∃ j : Nat, j ≤ k ∧ si = .int .i64 j ∧ HR wr g (ab f n (catL S j)) (n + (catL S j).length) ∧ But g w wr) (fun _ si _ => k - (intOf si).toNat)
  case atStart => exact ⟨0, Nat.zero_le _, rfl, hR, But.refl _ _⟩
  case round =>
    obtain ⟨j, hj, rfl, hRj, B⟩ := hrel
    by_cases hlt : j < k
    · have c1 : (j : Int) < (k : Int) := by omega
      have c0 : (0 : Int) ≤ (j : Int) := by omega
      have sj := (HSa.out.but hbg B).2 j hlt
      have e1 : catL S (j + 1) = catL S j ++ (S j).data.toList := rfl
      have l1 : (catL S (j + 1)).length = (catL S j).length + (S j).size := by rw [e1, List.length_append, Array.length_toList]; rfl
      have hb1 := HL.out (j + 1) (by omega)
      rw [l1] at hb1
      have CT := Lib.hid (take_any (ab f n (catL S j)) (n + (catL S j).length) g (S j) V wr HTa.out (HVa.out.trans (B.below hgV HVa.out.size)) hgV hRj (by omega))
      rw [← ab_app, ← e1, Nat.add_assoc, ← l1] at CT
      have HB := Lib.hid B
      clear hRj B hR e1 l1 hb1
      go_wp2_with fail
      refine CT.out.mono ?_
      rintro e w1 ⟨rfl, h1, b1⟩
      have H1 := Lib.hid h1
      have B1 := Lib.hid b1
      clear h1 b1 CT
      go_wp2_with fail
      go_roundw
      case rel => exact ⟨j + 1, by omega, by go_num, H1.out, HB.out.trans B1.out⟩
      case measure => simp [intOf]; omega
    · obtain rfl : j = k := by omega
      have c := hRj.c
      have H2 := Lib.hid hRj
      have B2 := Lib.hid B
      clear hRj B hR
      go_wp2_with fail
      go_ret
      exact ⟨rfl, H2.out, B2.out⟩
set_option maxRecDepth 100000 in
set_option maxHeartbeats 1000000 in
theorem Write_none (f : Nat → BitVec 64) (n g c : Nat) (p : Option Addr) (w : World) (hR : HR w g f n) :
    Calls Tryd.prog 21 #[.pointer (some ⟨g, 0, none⟩), .slice p 0 c] w fun e w' => e = .returned (.int .i64 n) ∧ HR w' g f n ∧ But g w w' := by
  go_enter Tryd.func21, Tryd.ntmps21
  go_wp2_with fail
  go_loopw [9] (fun si wr => si = .int .i64 0 ∧ wr = w) (fun _ _ => 0)
  case atStart => exact ⟨rfl, rfl⟩
  case round =>
    obtain ⟨rfl, rfl⟩ := hrel
    have c := hR.c
    have H2 := Lib.hid hR
    clear hR
    go_wp2_with fail
    go_ret
    exact ⟨rfl, H2.out, But.refl _ _⟩

/-- The digest of what a hash has taken in. -/
def finS (F : Nat → BitVec 64) (n : Nat) : ByteArray := digS (perm (put (put F (n % 136) 6) 135 128) 24)
/-- The digest of bytes. -/
def dgS (l : List UInt8) : ByteArray := finS (ab (fun _ => 0) 0 l) l.length
theorem cat1 (S : Nat → ByteArray) : catL S 1 = (S 0).data.toList := by show [] ++ _ = _; rw [List.nil_append]
set_option maxRecDepth 100000 in
set_option maxHeartbeats 400000 in
theorem Sum_any (s : ByteArray) (w : World) (hT : Tabs w) (hl : s.size ≤ 4611686018427387904) :
    Calls Tryd.prog 13 #[.string s] w fun e w' => e = .returned (.string (dgS s.data.toList)) ∧ Below w.heap.size w w' := by
  have ls : s.data.toList.length = s.size := by rw [Array.length_toList]; rfl
  go_enter Tryd.func13, Tryd.ntmps13
  go_wp2_with fail
  refine (New_any _).mono ?_; rintro e w1 ⟨rfl, h1, b1⟩
  have H1 := Lib.hid h1
  have B1 := Lib.hid b1
  clear h1 b1
  go_wp2_with fail
  have hb2 : Below w.heap.size w (w1.alloc (.cells #[.string s] 9)) := B1.out.alloc B1.out.size _
  have hS : Strs (w1.alloc (.cells #[.string s] 9)) w1.heap.size 0 1 (fun _ => s) := ⟨by simp, fun j hj => by
    obtain rfl : j = 0 := by omega
    exact World.cell?_alloc_mark w1 _ _ (0, 0) 0⟩
  have hne : w1.heap.size ≠ w.heap.size := by have := H1.out.lt; omega
  have hL : ∀ j, j ≤ 1 → 0 + (catL (fun _ => s) j).length ≤ 4611686018427387904 := fun j hj => by
    have : j = 0 ∨ j = 1 := by omega
    rcases this with rfl | rfl
    · show 0 + 0 ≤ _; decide
    · rw [cat1, ls]; omega
  refine (Write_any (fun _ => 0) 0 w.heap.size w1.heap.size 0 1 1 (fun _ => s) w _ hT hb2 (Nat.le_refl _) (H1.out.below ((Below.refl _ _).alloc (Nat.le_refl _) _)) hS hne hL (by decide)).mono ?_
  rintro e w2 ⟨rfl, h2, b2⟩
  have B2 : Below w.heap.size w w2 := hb2.trans (b2.below (Nat.le_refl _) hb2.size)
  rw [cat1, Nat.zero_add] at h2
  have H2 := Lib.hid h2
  have HB2 := Lib.hid B2
  clear h2 b2 B2 H1 B1 hb2
  go_wp2_with fail
  refine (HSum_any _ _ _ _ (hT.below HB2.out) H2.out).mono ?_; rintro e w3 ⟨rfl, b3⟩
  have HB3 := Lib.hid b3
  clear b3
  go_wp2_with fail
  go_ret
  exact ⟨rfl, HB2.out.trans (HB3.out.mono HB2.out.size)⟩

theorem HR.whole {w : World} {g n : Nat} {f : Nat → BitVec 64} (h : HR w g f n) : w.rangeAt g 0 (vecL 25 f ++ [Value.int .i64 n]) := fun j v hv => by
  have l : j < 26 := by
    have := (List.getElem?_eq_some_iff.1 hv).1
    rw [List.length_append, vecL_len] at this; exact this
  by_cases c : j < 25
  · rw [List.getElem?_append_left (by rw [vecL_len]; exact c)] at hv
    exact h.s j v hv
  · obtain rfl : j = 25 := by omega
    rw [List.getElem?_append_right (by rw [vecL_len]; exact Nat.le_refl _), vecL_len] at hv
    have hv : some (Value.int .i64 n) = some v := hv
    rw [Nat.zero_add, ← hv]; exact h.c
theorem hash_one (f : Nat → BitVec 64) (n : Nat) : (hashCells f n).all (·.oneCell') = true := by
  refine all_oneCell_toArray fun v hv => ?_
  rcases List.mem_append.1 hv with hv | hv
  · unfold vecL at hv
    obtain ⟨i, _, rfl⟩ := List.mem_map.1 hv
    rfl
  · rw [List.mem_singleton.1 hv]; rfl
theorem hash_size (f : Nat → BitVec 64) (n : Nat) : (hashCells f n).size = 26 := by simp [hashCells, vecL_len]
theorem HR.copied {w : World} {g : Nat} (ht : w.there g 0 26) (hlt : g < w.heap.size) (hr : RowLike w g) (f : Nat → BitVec 64) (n : Nat) : HR (w.setCells g 0 (hashCells f n).toList) g f n := by
  have R := World.rangeAt_setCells_same w g 0 (hashCells f n).toList (by rw [Array.length_toList, hash_size]; exact ht)
  refine ⟨fun j v hv => R j v ?_, ?_, World.there_setCells ht _ _ _, by rw [size_cells]; exact hlt, hr.setCells _ _⟩
  · have l : j < 25 := by
      have := (List.getElem?_eq_some_iff.1 hv).1
      rwa [vecL_len] at this
    show (vecL 25 f ++ [Value.int .i64 n])[j]? = _
    rw [List.getElem?_append_left (by rw [vecL_len]; exact l)]; exact hv
  · have := R 25 (.int .i64 n) (by
      show (vecL 25 f ++ [Value.int .i64 n])[25]? = _
      rw [List.getElem?_append_right (by rw [vecL_len]; exact Nat.le_refl _), vecL_len]; rfl)
    exact this
set_option maxRecDepth 100000 in
set_option maxHeartbeats 1000000 in
theorem Clone_any (f : Nat → BitVec 64) (n g : Nat) (w : World) (hR : HR w g f n) :
    Calls Tryd.prog 22 #[.pointer (some ⟨g, 0, none⟩)] w fun e w' => e = .returned (.pointer (some ⟨w.heap.size, 0, none⟩)) ∧ HR w' w.heap.size f n ∧ Below w.heap.size w w' := by
  have U : Tryd.prog.underlying 54 = some (.struct (Tryd.prog.fieldsOf 54)) := by kernel_rfl
  have r0 := hR.whole
  have I : (Tryd.prog.info? 54).map (·.size) = some (vecL 25 f ++ [Value.int .i64 n]).length := by rw [List.length_append, vecL_len]; kernel_rfl
  have N := HR.new w 54 (fun _ => 0) 0
  have HN := Lib.hid N
  have t1 := N.t
  clear N
  go_enter Tryd.func22, Tryd.ntmps22
  go_wp2_with (first | (refine wpList_load_mid rfl 54 _ rfl g 0 rfl (vecL 25 f ++ [Value.int .i64 n]) _ r0 U rfl I ?_) | (refine wpList_store_mid rfl 54 _ _ rfl w.heap.size 0 (hashCells f n) rfl rfl (by rw [hash_size]; exact t1) (by rw [hash_size]; kernel_rfl) (hash_one _ _) ?_))
  have H3 := HR.copied t1 HN.out.lt HN.out.r f n
  go_ret
  exact ⟨rfl, H3, ((Below.refl _ w).alloc (Nat.le_refl _) _).trans ((But.setCells w.heap.size _ 0 _).below (Nat.le_refl _) (by simp))⟩
end Go.Proofs.YtfjbchmneojgaaaDoor
