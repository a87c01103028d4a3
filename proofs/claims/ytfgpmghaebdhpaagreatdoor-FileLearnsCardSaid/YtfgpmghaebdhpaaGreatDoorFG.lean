/- Trigger. -/
import Derived.Test.YtfgpmghaebdhpaaGreatDoorFF
namespace Go.Proofs.YtfgpmghaebdhpaaGreatDoor
open Go.RowKit Go.Shelf

def fitN (s : ByteArray) (d : Int) (n : Nt) : Bool := n.nm.toList == s.toList && decide (n.r ≤ d)
/-- The latest of the notes that fit. -/
def noteT (l : List Nt) : (Int × Int) × Bool := if l = [] then ((0, 0), false) else (((bestL l).f, (bestL l).l), true)
def trg (x : Fl) (s : ByteArray) (d : Int) : (Int × Int) × Bool := if (s.toList == [111, 112, 101, 110, 101, 100]) = true then hap x.op d else if (s.toList == [99, 108, 111, 115, 101, 100]) = true then hap x.cl d else noteT (x.ns.filter (fitN s d))
set_option maxRecDepth 100000 in
set_option maxHeartbeats 8000000 in
theorem Trigger_any (x : Fl) (s : ByteArray) (d : Int) (w : World) (hv : IsNt w x.nv x.ns) (hn : x.ns.length ≤ 1000) :
    Calls Tryz.prog 8 #[x.val, .string s, .int .i64 d] w fun e w' => e = .returned (dv (trg x s d)) ∧ Below w.heap.size w w' := by
  obtain ⟨r, hr⟩ : ∃ r, r = trg x s d := ⟨_, rfl⟩
  rw [← hr]
  have HR := Lib.hid hr
  clear hr
  obtain ⟨id, of, op, cl, cs, ti, pt, ns, p, c⟩ := x
  replace hv : IsNt w (.slice p ns.length c) ns := hv
  replace hn : ns.length ≤ 1000 := hn
  show Calls Tryz.prog 8 #[.agg #[.int .i64 id, .int .i64 of, .int .i64 op, .int .i64 cl, .string cs, .string ti, .int .i64 pt, .slice p ns.length c], .string s, .int .i64 d] w fun e w' => e = .returned (dv r) ∧ Below w.heap.size w w'
  replace HR : Hid (r = if (s.toList == [111, 112, 101, 110, 101, 100]) = true then hap op d else if (s.toList == [99, 108, 111, 115, 101, 100]) = true then hap cl d else noteT (ns.filter (fitN s d))) := HR
  have B1 := (Below.refl w.heap.size w).alloc (Nat.le_refl _) (.cells #[.int .i64 id, .int .i64 of, .int .i64 op, .int .i64 cl, .string cs, .string ti, .int .i64 pt, .slice p ns.length c] 24)
  have C1 := fun i => nCell w #[.int .i64 id, .int .i64 of, .int .i64 op, .int .i64 cl, .string cs, .string ti, .int .i64 pt, .slice p ns.length c] 24 i
  have s1 : (w.alloc (.cells #[.int .i64 id, .int .i64 of, .int .i64 op, .int .i64 cl, .string cs, .string ti, .int .i64 pt, .slice p ns.length c] 24)).heap.size = w.heap.size + 1 := by simp
  obtain ⟨w1, hw1⟩ : ∃ w1, w1 = w.alloc (.cells #[.int .i64 id, .int .i64 of, .int .i64 op, .int .i64 cl, .string cs, .string ti, .int .i64 pt, .slice p ns.length c] 24) := ⟨_, rfl⟩
  rw [← hw1] at B1 C1 s1
  have B2 := (Below.refl w1.heap.size w1).alloc (Nat.le_refl _) (.cells #[.string s] 9)
  have C2 := nCell w1 #[.string s] 9 0
  have s2 : (w1.alloc (.cells #[.string s] 9)).heap.size = w.heap.size + 2 := by simp [s1]
  obtain ⟨w2, hw2⟩ : ∃ w2, w2 = w1.alloc (.cells #[.string s] 9) := ⟨_, rfl⟩
  rw [← hw2] at B2 C2 s2
  have B3 := (Below.refl w2.heap.size w2).alloc (Nat.le_refl _) (.cells #[.int .i64 d] 3)
  have C3 := nCell w2 #[.int .i64 d] 3 0
  have s3 : (w2.alloc (.cells #[.int .i64 d] 3)).heap.size = w.heap.size + 3 := by simp [s2]
  obtain ⟨w3, hw3⟩ : ∃ w3, w3 = w2.alloc (.cells #[.int .i64 d] 3) := ⟨_, rfl⟩
  rw [← hw3] at B3 C3 s3
  have B4 := (Below.refl w3.heap.size w3).alloc (Nat.le_refl _) (.cells #[.int .i64 0, .int .i64 0] 29)
  have X4 := Bx2.new w3 0 0
  have s4 : (w3.alloc (.cells #[.int .i64 0, .int .i64 0] 29)).heap.size = w.heap.size + 4 := by simp [s3]
  obtain ⟨w4, hw4⟩ : ∃ w4, w4 = w3.alloc (.cells #[.int .i64 0, .int .i64 0] 29) := ⟨_, rfl⟩
  rw [← hw4] at B4 X4 s4
  have B24 := B3.trans (B4.mono B3.size)
  have B14 := B2.trans (B24.mono B2.size)
  have BA := Lib.hid (B1.trans (B14.mono B1.size))
  have e2 : w4.cell? ⟨w.heap.size, 2, none⟩ = some (.int .i64 op) := (B14.cell (p := ⟨w.heap.size, 2, none⟩) (by show w.heap.size < w1.heap.size; omega)).trans (C1 2)
  have e3 : w4.cell? ⟨w.heap.size, 3, none⟩ = some (.int .i64 cl) := (B14.cell (p := ⟨w.heap.size, 3, none⟩) (by show w.heap.size < w1.heap.size; omega)).trans (C1 3)
  have e7 : w4.cell? ⟨w.heap.size, 7, none⟩ = some (.slice p ns.length c) := (B14.cell (p := ⟨w.heap.size, 7, none⟩) (by show w.heap.size < w1.heap.size; omega)).trans (C1 7)
  have es : w4.cell? ⟨w.heap.size + 1, 0, none⟩ = some (.string s) := by rw [s1] at C2; exact (B24.cell (p := ⟨w.heap.size + 1, 0, none⟩) (by show w.heap.size + 1 < w2.heap.size; omega)).trans C2
  have ed : w4.cell? ⟨w.heap.size + 1 + 1, 0, none⟩ = some (.int .i64 d) := by rw [s2] at C3; exact (B4.cell (p := ⟨w.heap.size + 2, 0, none⟩) (by show w.heap.size + 2 < w3.heap.size; omega)).trans C3
  rw [s3] at X4
  replace X4 := Lib.hid (show Bx2 w4 (w.heap.size + 1 + 1 + 1) 0 0 from X4)
  have IV := Lib.hid (hv.below BA.out)
  have S4 := Lib.hid s4
  have HW := Lib.hid (show w4 = (((w.alloc (.cells #[.int .i64 id, .int .i64 of, .int .i64 op, .int .i64 cl, .string cs, .string ti, .int .i64 pt, .slice p ns.length c] 24)).alloc (.cells #[.string s] 9)).alloc (.cells #[.int .i64 d] 3)).alloc (.cells #[.int .i64 0, .int .i64 0] 29) by rw [hw4, hw3, hw2, hw1])
  clear B1 C1 s1 B2 C2 s2 B3 C3 s3 B4 s4 B24 B14 hw1 hw2 hw3 hw4 hv w1 w2 w3
  go_enter Tryz.func8, Tryz.ntmps8
  go_upto_region 1 with (fail)
  have hw := HW.out
  rw [← hw]
  clear hw
  cases h1 : (s.toList == [111, 112, 101, 110, 101, 100]) with
  | true =>
    rw [h1, if_pos rfl] at HR
    have H1 := Lib.hid (happened_any op d w4)
    rw [← HR.out] at H1
    obtain ⟨⟨a, b⟩, o⟩ := r
    replace H1 : Hid (Calls Tryz.prog 20 #[.int .i64 op, .int .i64 d] w4 fun e w' => e = .returned (.tuple #[.agg #[.int .i64 a, .int .i64 b], .bool o]) ∧ Below w4.heap.size w4 w') := H1
    clear HR IV HW
    go_wp2_with fail
    refine H1.out.mono ?_; rintro e w5 ⟨rfl, b5⟩
    have B5 := Lib.hid (BA.out.trans (b5.mono BA.out.size))
    have X5 := X4.out.below b5
    have KB := Lib.hid X5.blk
    have Y := X5.set a b
    have RR := Lib.hid (And.intro Y.c0 Y.c1)
    have B6 := Lib.hid (setRow_bel B5.out (show w.heap.size ≤ w.heap.size + 1 + 1 + 1 by omega) #[.int .i64 a, .int .i64 b])
    clear b5 X5 Y X4 H1
    go_wp2_with (refine wpList_store_row rfl 29 _ _ rfl _ _ rfl rfl _ _ KB.out (szDat _ _) (size2 _ _ _ _) (one2 _ _) ?_)
    obtain ⟨r0, r1⟩ := RR.out
    exact bodyPost_ret (v := .tuple #[.agg #[.int .i64 a, .int .i64 b], .bool o]) (by simp [results, Tryz.results8, go_sem, r0, r1]) rfl ⟨rfl, B6.out⟩
  | false =>
  rw [h1, if_neg (by simp)] at HR
  cases h2 : (s.toList == [99, 108, 111, 115, 101, 100]) with
  | true =>
    rw [h2, if_pos rfl] at HR
    have H1 := Lib.hid (happened_any cl d w4)
    rw [← HR.out] at H1
    obtain ⟨⟨a, b⟩, o⟩ := r
    replace H1 : Hid (Calls Tryz.prog 20 #[.int .i64 cl, .int .i64 d] w4 fun e w' => e = .returned (.tuple #[.agg #[.int .i64 a, .int .i64 b], .bool o]) ∧ Below w4.heap.size w4 w') := H1
    clear HR IV HW
    go_wp2_with fail
    refine H1.out.mono ?_; rintro e w5 ⟨rfl, b5⟩
    have B5 := Lib.hid (BA.out.trans (b5.mono BA.out.size))
    have X5 := X4.out.below b5
    have KB := Lib.hid X5.blk
    have Y := X5.set a b
    have RR := Lib.hid (And.intro Y.c0 Y.c1)
    have B6 := Lib.hid (setRow_bel B5.out (show w.heap.size ≤ w.heap.size + 1 + 1 + 1 by omega) #[.int .i64 a, .int .i64 b])
    clear b5 X5 Y X4 H1
    go_wp2_with (refine wpList_store_row rfl 29 _ _ rfl _ _ rfl rfl _ _ KB.out (szDat _ _) (size2 _ _ _ _) (one2 _ _) ?_)
    obtain ⟨r0, r1⟩ := RR.out
    exact bodyPost_ret (v := .tuple #[.agg #[.int .i64 a, .int .i64 b], .bool o]) (by simp [results, Tryz.results8, go_sem, r0, r1]) rfl ⟨rfl, B6.out⟩
  | false =>
    rw [h2, if_neg (by simp)] at HR
    have lts := nLt es
    have ltd := nLt ed
    have SE := Lib.hid (selected_any 22 #[.pointer (some ⟨w.heap.size + 1, 0, none⟩), .pointer (some ⟨w.heap.size + 1 + 1, 0, none⟩)] (enters_of Tryz.func22 (by kernel_rfl) rfl) (fitN s d) (.slice p ns.length c) ns w4 IV.out hn
      (fun V y hV => trig1_any y s d (w.heap.size + 1) (w.heap.size + 1 + 1) V ((hV.cell (p := ⟨w.heap.size + 1, 0, none⟩) lts).trans es) ((hV.cell (p := ⟨w.heap.size + 1 + 1, 0, none⟩) ltd).trans ed)))
    have LN := Lib.hid (show (ns.filter (fitN s d)).length ≤ 1000 from Nat.le_trans (List.length_filter_le _ _) hn)
    generalize ns.filter (fitN s d) = l at SE HR LN
    clear IV lts ltd HW
    go_wp2_with fail
    refine SE.out.mono ?_; rintro e w5 ⟨u, rfl, hu, b5⟩
    have B5 := Lib.hid (BA.out.trans (b5.mono BA.out.size))
    have X5 := Lib.hid (X4.out.below b5)
    have HU := Lib.hid hu
    obtain ⟨p5, c5, rfl, -, -⟩ := hu
    clear b5 SE X4 e2 e3 e7 es ed
    cases l with
    | nil =>
      have R := Lib.hid (show dv r = .tuple #[.agg #[.int .i64 0, .int .i64 0], .bool false] by rw [HR.out]; rfl)
      have KB := Lib.hid X5.out.blk
      have Y := X5.out.set 0 0
      have RR := Lib.hid (And.intro Y.c0 Y.c1)
      have B6 := Lib.hid (setRow_bel B5.out (show w.heap.size ≤ w.heap.size + 1 + 1 + 1 by omega) #[.int .i64 0, .int .i64 0])
      clear Y HR
      go_wp2_with (refine wpList_store_row rfl 29 _ _ rfl _ _ rfl rfl _ _ KB.out (szDat _ _) (size2 _ _ _ _) (one2 _ _) ?_)
      obtain ⟨r0, r1⟩ := RR.out
      exact bodyPost_ret (v := .tuple #[.agg #[.int .i64 0, .int .i64 0], .bool false]) (by simp [results, Tryz.results8, go_sem, r0, r1]) rfl ⟨by rw [R.out], B6.out⟩
    | cons y t =>
      have MX := Lib.hid (maxFunc_any _ (y :: t) w5 HU.out (Nat.succ_pos _) LN.out)
      have R := HR.out
      unfold noteT at R
      rw [if_neg (by simp)] at R
      obtain ⟨m, hm⟩ : ∃ m, m = bestL (y :: t) := ⟨_, rfl⟩
      rw [← hm] at R MX
      obtain ⟨nm, f, l, q⟩ := m
      replace R := Lib.hid (show dv r = .tuple #[.agg #[.int .i64 f, .int .i64 l], .bool true] by rw [R]; rfl)
      replace MX : Hid (Calls Tryz.prog 23 #[.slice p5 (t.length + 1) c5, .func (.func 24) #[] #[]] w5 fun e w' => e = .returned (.agg #[.string nm, .int .i64 f, .int .i64 l, .int .i64 q]) ∧ Below w5.heap.size w5 w') := MX
      have ln : (((y :: t).length : Nat) : Int) = (t.length : Int) + 1 := by simp
      clear hm HR HU
      go_wp2_with fail
      refine MX.out.mono ?_; rintro e w6 ⟨rfl, b6⟩
      have B6 := Lib.hid (B5.out.trans (b6.mono B5.out.size))
      have A7 := (Below.refl w6.heap.size w6).alloc (Nat.le_refl _) (.cells #[.string nm, .int .i64 f, .int .i64 l, .int .i64 q] 39)
      have X7 := (X5.out.below b6).below A7
      have B7 := B6.out.trans (A7.mono B6.out.size)
      have KB := Lib.hid X7.blk
      have Y := X7.set f l
      have RR := Lib.hid (And.intro Y.c0 Y.c1)
      have B8 := Lib.hid (setRow_bel B7 (show w.heap.size ≤ w.heap.size + 1 + 1 + 1 by omega) #[.int .i64 f, .int .i64 l])
      clear Y b6 A7 X7 B7 MX ln
      go_wp2_with (refine wpList_store_row rfl 29 _ _ rfl _ _ rfl rfl _ _ KB.out (szDat _ _) (size2 _ _ _ _) (one2 _ _) ?_)
      obtain ⟨r0, r1⟩ := RR.out
      exact bodyPost_ret (v := .tuple #[.agg #[.int .i64 f, .int .i64 l], .bool true]) (by simp [results, Tryz.results8, go_sem, r0, r1]) rfl ⟨by rw [R.out], B8.out⟩
end Go.Proofs.YtfgpmghaebdhpaaGreatDoor
