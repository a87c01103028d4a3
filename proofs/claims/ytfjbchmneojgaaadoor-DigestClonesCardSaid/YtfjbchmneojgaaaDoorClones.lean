/- The walk of DigestClones. -/
import Derived.Test.YtfjbchmneojgaaaDoorAwake
import Derived.Test.YtfjbchmneojgaaaDoorWriteG
import Derived.LaidEqlPtr
namespace Go.Proofs.YtfjbchmneojgaaaDoor
open Go.RowKit

/-- A hash that has taken in these bytes. -/
def HL (w : World) (g : Nat) (L : List UInt8) : Prop := HR w g (ab (fun _ => 0) 0 L) L.length
theorem HR.but {w w' : World} {g k n : Nat} {f : Nat → BitVec 64} (h : HR w k f n) (hk : k ≠ g) (hb : But g w w') : HR w' k f n := h.same (hb.block k h.lt hk) hb.size
theorem HL.lt {w : World} {g : Nat} {L : List UInt8} (h : HL w g L) : g < w.heap.size := HR.lt h
theorem HL.below {w w' : World} {g : Nat} {L : List UInt8} (h : HL w g L) (hb : Below w.heap.size w w') : HL w' g L := HR.below h hb
theorem HL.but {w w' : World} {g k : Nat} {L : List UInt8} (h : HL w k L) (hk : k ≠ g) (hb : But g w w') : HL w' k L := HR.but h hk hb
theorem New_L (w : World) :
    Calls Tryd.prog 19 #[] w fun e w' => e = .returned (.pointer (some ⟨w.heap.size, 0, none⟩)) ∧ HL w' w.heap.size [] ∧ Below w.heap.size w w' := New_any w
theorem Sum_L (g : Nat) (L : List UInt8) (w : World) (hT : Tabs w) (h : HL w g L) :
    Calls Tryd.prog 20 #[.pointer (some ⟨g, 0, none⟩)] w fun e w' => e = .returned (.string (dgS L)) ∧ Below w.heap.size w w' := HSum_any _ _ _ w hT h
theorem Clone_L (g : Nat) (L : List UInt8) (w : World) (h : HL w g L) :
    Calls Tryd.prog 22 #[.pointer (some ⟨g, 0, none⟩)] w fun e w' => e = .returned (.pointer (some ⟨w.heap.size, 0, none⟩)) ∧ HL w' w.heap.size L ∧ Below w.heap.size w w' := Clone_any _ _ g w h
theorem Write_L (g b off k c : Nat) (L : List UInt8) (S : Nat → ByteArray) (V w : World) (hT : Tabs V) (hV : Below V.heap.size V w) (hgV : V.heap.size ≤ g) (hR : HL w g L) (hS : Strs w b off k S) (hbg : b ≠ g)
    (hl : ∀ j, j ≤ k → L.length + (catL S j).length ≤ 4611686018427387904) (hk : k ≤ 9223372036854775807) :
    Calls Tryd.prog 21 #[.pointer (some ⟨g, 0, none⟩), .slice (some ⟨b, off, none⟩) k c] w fun e w' => e = .returned (.int .i64 ((L ++ catL S k).length : Nat)) ∧ HL w' g (L ++ catL S k) ∧ But g w w' :=
  (Write_any _ _ g b off k c S V w hT hV hgV hR hS hbg hl hk).mono fun e w' ⟨h1, h2, h3⟩ => by
    refine ⟨?_, ?_, h3⟩
    · rw [h1, List.length_append]
    · unfold HL; rw [List.length_append, ab_app, Nat.zero_add]; exact h2
/-- One string, which lies alone in a new block. -/
theorem Write_L1 (g : Nat) (L : List UInt8) (s : ByteArray) (V w : World) (hT : Tabs V) (hV : Below V.heap.size V w) (hgV : V.heap.size ≤ g) (hR : HL w g L) (hl : L.length + s.size ≤ 4611686018427387904) :
    Calls Tryd.prog 21 #[.pointer (some ⟨g, 0, none⟩), .slice (some ⟨w.heap.size, 0, none⟩) 1 1] (w.alloc (.cells #[.string s] 9)) fun e w' => e = .returned (.int .i64 ((L ++ s.data.toList).length : Nat)) ∧ HL w' g (L ++ s.data.toList) ∧ But g w w' := by
  have ls : s.data.toList.length = s.size := by rw [Array.length_toList]; rfl
  have hS : Strs (w.alloc (.cells #[.string s] 9)) w.heap.size 0 1 (fun _ => s) := ⟨by simp, fun j hj => by
    obtain rfl : j = 0 := by omega
    exact World.cell?_alloc_mark w _ _ (0, 0) 0⟩
  have hne : w.heap.size ≠ g := by have := hR.lt; omega
  have hL : ∀ j, j ≤ 1 → L.length + (catL (fun _ => s) j).length ≤ 4611686018427387904 := fun j hj => by
    have : j = 0 ∨ j = 1 := by omega
    rcases this with rfl | rfl
    · show L.length + 0 ≤ _; omega
    · rw [cat1, ls]; omega
  have al := (Below.refl w.heap.size w).alloc (Nat.le_refl _) (.cells #[.string s] 9)
  have C := Write_L g w.heap.size 0 1 1 L (fun _ => s) V _ hT (hV.trans (al.mono hV.size)) hgV (hR.below al) hS hne hL (by decide)
  rw [cat1] at C
  exact C.mono fun e w' ⟨h1, h2, h3⟩ => ⟨h1, h2, (But.of_below al).trans h3⟩
theorem app_list (a b : ByteArray) : (a ++ b).data.toList = a.data.toList ++ b.data.toList := by rw [ByteArray.data_append, Array.toList_append]

set_option maxRecDepth 100000 in
set_option maxHeartbeats 2000000 in
theorem law_clones (p a b : ByteArray) (w : World) (hT : Tabs w) :
    Calls Tryd.prog 8 #[.string p, .string a, .string b] w fun e w' => e = .returned (.bool true) ∧ Below w.heap.size w w' := by
  by_cases hs : p.size ≤ 300 ∧ a.size ≤ 300 ∧ b.size ≤ 300
  · obtain ⟨s1, s2, s3⟩ := hs
    have i1 : ¬ (300 : Int) < (p.size : Int) := by omega
    have i2 : ¬ (300 : Int) < (a.size : Int) := by omega
    have i3 : ¬ (300 : Int) < (b.size : Int) := by omega
    have m1 : ¬ (9223372036854775807 < p.size + a.size) := by omega
    have m2 : ¬ (9223372036854775807 < p.size + b.size) := by omega
    have lp : p.data.toList.length = p.size := by rw [Array.length_toList]; rfl
    have la : a.data.toList.length = a.size := by rw [Array.length_toList]; rfl
    have lb : b.data.toList.length = b.size := by rw [Array.length_toList]; rfl
    have q1 : IntKind.i64.wrap ((p.size : Int) + (b.size : Int)) = (p.size : Int) + (b.size : Int) := IntWalk.i64_in _ ⟨by omega, by omega⟩
    have T := Lib.hid hT
    have S1 := Lib.hid s1; have S2 := Lib.hid s2; have S3 := Lib.hid s3
    have LP := Lib.hid lp; have LA := Lib.hid la; have LB := Lib.hid lb
    clear s1 s2 s3 lp la lb hT
    go_enter Tryd.func8, Tryd.ntmps8
    go_wp2_with fail
    refine (awake_any w T.out).mono ?_; rintro e w0 ⟨rfl, b0⟩
    have B0 := Lib.hid b0
    clear b0
    go_wp2_with fail
    refine (New_L w0).mono ?_; rintro e w1 ⟨rfl, h1, b1⟩
    have H1 := Lib.hid h1
    have B1 := Lib.hid (B0.out.trans (b1.mono B0.out.size))
    clear h1 b1
    go_wp2_with fail
    refine (Write_L1 w0.heap.size [] p w w1 T.out B1.out B0.out.size H1.out (by have := S1.out; simp; omega)).mono ?_; rintro e w2 ⟨rfl, h2, b2⟩
    have H2 := Lib.hid h2
    have B2 := Lib.hid (B1.out.trans (b2.below B0.out.size B1.out.size))
    clear h2 b2
    go_wp2_with fail
    refine (Clone_L w0.heap.size _ w2 H2.out).mono ?_; rintro e w3 ⟨rfl, c3, b3⟩
    have ne : w2.heap.size ≠ w0.heap.size := by have := H2.out.lt; omega
    have NE := Lib.hid ne
    clear ne
    have H3 := Lib.hid (H2.out.below b3)
    have C3 := Lib.hid c3
    have B3 := Lib.hid (B2.out.trans (b3.mono B2.out.size))
    have z3 : w.heap.size ≤ w2.heap.size := B2.out.size
    have Z3 := Lib.hid z3
    clear c3 b3 z3
    have hI : ∃ j, Tryd.prog.info? 54 = some j ∧ j.size ≠ 0 := by
      obtain ⟨i, hi, hz⟩ := Option.map_eq_some_iff.1 (show (Tryd.prog.info? 54).map (·.size) = some 26 by kernel_rfl)
      exact ⟨i, hi, by rw [hz]; decide⟩
    have pe : (binOp .eql 35 (.pointer (some ⟨w2.heap.size, 0, none⟩)) (.pointer (some ⟨w0.heap.size, 0, none⟩))).run Tryd.prog w3 = .ok (.bool false) w3 := by
      obtain ⟨j, hj, hj0⟩ := hI
      obtain ⟨c1, t1, r1⟩ := C3.out.r
      obtain ⟨c2, t2, r2⟩ := H3.out.r
      exact run_eql_ptr_other w3 (Tryd.underlying35) hj hj0 (fun e => by injection e with e _ _; exact NE.out e) r1 r2
    clear hI
    go_wp2_with fail
    clear pe
    refine (Write_L1 w0.heap.size _ a w w3 T.out B3.out B0.out.size H3.out (by have := S1.out; have := S2.out; have := LP.out; simp; omega)).mono ?_; rintro e w4 ⟨rfl, h4, b4⟩
    have H4 := Lib.hid h4
    have C4 := Lib.hid (C3.out.but NE.out b4)
    have B4 := Lib.hid (B3.out.trans (b4.below B0.out.size B3.out.size))
    clear h4 b4
    go_wp2_with fail
    refine (Sum_L w2.heap.size _ w4 (T.out.below B4.out) C4.out).mono ?_; rintro e w5 ⟨rfl, b5⟩
    have H5 := Lib.hid (H4.out.below b5)
    have C5 := Lib.hid (C4.out.below b5)
    have B5 := Lib.hid (B4.out.trans (b5.mono B4.out.size))
    clear b5
    go_wp2_with fail
    refine (Sum_any p w5 (T.out.below B5.out) (by have := S1.out; omega)).mono ?_; rintro e w6 ⟨rfl, b6⟩
    have H6 := Lib.hid (H5.out.below b6)
    have C6 := Lib.hid (C5.out.below b6)
    have B6 := Lib.hid (B5.out.trans (b6.mono B5.out.size))
    clear b6
    generalize dgS p.data.toList = D1
    go_wp2_with fail
    refine (Write_L1 w2.heap.size _ b w w6 T.out B6.out Z3.out C6.out (by have := S1.out; have := S3.out; have := LP.out; simp; omega)).mono ?_; rintro e w7 ⟨rfl, c7, b7⟩
    have C7 := Lib.hid c7
    have H7 := Lib.hid (H6.out.but (Ne.symm NE.out) b7)
    have B7 := Lib.hid (B6.out.trans (b7.below Z3.out B6.out.size))
    clear c7 b7
    go_wp2_with fail
    refine (Sum_L w0.heap.size _ w7 (T.out.below B7.out) H7.out).mono ?_; rintro e w8 ⟨rfl, b8⟩
    have C8 := Lib.hid (C7.out.below b8)
    have B8 := Lib.hid (B7.out.trans (b8.mono B7.out.size))
    clear b8
    go_wp2_with fail
    have ca := Sum_any (p ++ a) w8 (T.out.below B8.out) (by rw [ByteArray.size_append]; have := S1.out; have := S2.out; omega)
    rw [app_list] at ca
    refine ca.mono ?_; rintro e w9 ⟨rfl, b9⟩
    have C9 := Lib.hid (C8.out.below b9)
    have B9 := Lib.hid (B8.out.trans (b9.mono B8.out.size))
    clear b9 ca
    generalize dgS (p.data.toList ++ a.data.toList) = D2
    go_wp2_with fail
    refine (Sum_L w2.heap.size _ w9 (T.out.below B9.out) C9.out).mono ?_; rintro e w10 ⟨rfl, b10⟩
    have B10 := Lib.hid (B9.out.trans (b10.mono B9.out.size))
    clear b10
    go_wp2_with fail
    have ca := Sum_any (p ++ b) w10 (T.out.below B10.out) (by rw [ByteArray.size_append]; have := S1.out; have := S3.out; omega)
    rw [app_list] at ca
    refine ca.mono ?_; rintro e w11 ⟨rfl, b11⟩
    have B11 := Lib.hid (B10.out.trans (b11.mono B10.out.size))
    clear b11 ca
    generalize dgS (p.data.toList ++ b.data.toList) = D3
    go_wp2_with fail
    go_ret
    exact ⟨by first | rfl | simp, B11.out⟩
  · by_cases s1 : p.size ≤ 300
    · by_cases s2 : a.size ≤ 300
      · have i1 : (300 : Int) < (b.size : Int) := by omega
        have j1 : ¬ (300 : Int) < (p.size : Int) := by omega
        have j2 : ¬ (300 : Int) < (a.size : Int) := by omega
        go_enter Tryd.func8, Tryd.ntmps8
        go_wp2_with fail
        refine (awake_any w hT).mono ?_; rintro e w0 ⟨rfl, b0⟩
        clear hs
        go_wp2_with fail
        go_ret
        exact ⟨rfl, b0⟩
      · have i1 : (300 : Int) < (a.size : Int) := by omega
        have j1 : ¬ (300 : Int) < (p.size : Int) := by omega
        go_enter Tryd.func8, Tryd.ntmps8
        go_wp2_with fail
        refine (awake_any w hT).mono ?_; rintro e w0 ⟨rfl, b0⟩
        clear hs
        go_wp2_with fail
        go_ret
        exact ⟨rfl, b0⟩
    · have i1 : (300 : Int) < (p.size : Int) := by omega
      go_enter Tryd.func8, Tryd.ntmps8
      go_wp2_with fail
      refine (awake_any w hT).mono ?_; rintro e w0 ⟨rfl, b0⟩
      clear hs
      go_wp2_with fail
      go_ret
      exact ⟨rfl, b0⟩
end Go.Proofs.YtfjbchmneojgaaaDoor
