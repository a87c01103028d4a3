/- The reference's Trigger. -/
import Derived.Test.YtfgpmghaebdhpaaGreatDoorFH
namespace Go.Proofs.YtfgpmghaebdhpaaGreatDoor
open Go.RowKit Go.Shelf

theorem late_pos (x m : Nt) : 0 < lateZ x m ↔ m.l < x.l ∨ (x.l = m.l ∧ m.f < x.f) := by
  unfold lateZ orZ cmpZ
  split <;> (repeat' split) <;> omega
theorem filter_ne {l : List Nt} {p : Nt → Bool} (h : l.filter p ≠ []) : 0 < (l.filter p).length := List.length_pos_iff.2 h
/-- What one more note that fits changes. -/
theorem noteT_snoc (L : List Nt) (x : Nt) : noteT (L ++ [x]) = if (noteT L).2 = false ∨ (noteT L).1.2 < x.l ∨ (x.l = (noteT L).1.2 ∧ (noteT L).1.1 < x.f) then ((x.f, x.l), true) else noteT L := by
  cases L with
  | nil => rfl
  | cons a t =>
    have e : bestL ((a :: t) ++ [x]) = if 0 < lateZ x (bestL (a :: t)) then x else bestL (a :: t) := by
      unfold bestL
      show List.foldl _ a (t ++ [x]) = _
      rw [List.foldl_append]
      rfl
    have E1 : noteT (a :: t) = (((bestL (a :: t)).f, (bestL (a :: t)).l), true) := if_neg (by simp)
    have E2 : noteT ((a :: t) ++ [x]) = (((bestL ((a :: t) ++ [x])).f, (bestL ((a :: t) ++ [x])).l), true) := if_neg (by simp)
    rw [E2, E1, e]
    by_cases h : 0 < lateZ x (bestL (a :: t))
    · rw [if_pos h, if_pos (Or.inr ((late_pos _ _).1 h))]
    · rw [if_neg h, if_neg]
      rintro (g | g)
      · cases g
      · exact h ((late_pos _ _).2 g)
theorem cell_grown {w w' : World} {g o B : Nat} {v : Value} (h : w.cell? ⟨g, o, none⟩ = some v) (hg : w.grownBy w' (some B)) (hne : g ≠ B) : w'.cell? ⟨g, o, none⟩ = some v := by
  have e := hg.block g (nLt h) (fun e => hne (by injection e))
  simp only [World.cell?] at h ⊢
  rw [e]; exact h
theorem NtAt.grown {w w' : World} {g off B : Nat} {x : Nt} (h : NtAt w g off x) (hg : w.grownBy w' (some B)) (hne : g ≠ B) : NtAt w' g off x :=
  ⟨Nat.lt_of_lt_of_le h.lt hg.size, cell_grown h.c0 hg hne, cell_grown h.c1 hg hne, cell_grown h.c2 hg hne, cell_grown h.c3 hg hne⟩
theorem grown_set {w w' : World} {B : Nat} (hg : w.grownBy w' (some B)) (cs : Array Value) : w.grownBy (w'.setRow B cs) (some B) :=
  ⟨hg.os, hg.tape, hg.output, by rw [setRow_size]; exact hg.size, fun k hk hne => (setRow_other _ _ _ _ (fun e => hne (by rw [e]))).trans (hg.block k hk hne)⟩
theorem grown_bel {w w' w2 : World} {r : Option Nat} (hg : w.grownBy w' r) (b : Below w'.heap.size w' w2) : w.grownBy w2 r :=
  ⟨b.os.trans hg.os, b.tape.trans hg.tape, b.output.trans hg.output, Nat.le_trans hg.size b.size, fun k hk hne => (b.block k (Nat.lt_of_lt_of_le hk hg.size)).trans (hg.block k hk hne)⟩
theorem grown_refl (w : World) (r : Option Nat) : w.grownBy w r := ⟨rfl, rfl, rfl, Nat.le_refl _, fun _ _ _ => rfl⟩
/-- What the loop keeps. -/
structure TrL (l : List Nt) (s : ByteArray) (w : World) (W : World) (k : Nat) (o : Bool) (wr : World) : Prop where
  z : Bx2 wr (w.heap.size + 1) 0 0
  m : ∃ a b, noteT ((l.take k).filter (fun n => n.nm.toList == s.toList)) = ((a, b), o) ∧ Bx2 wr (w.heap.size + 1 + 1) a b
  bel : Below w.heap.size w wr
  mid : W.grownBy wr (some (w.heap.size + 1 + 1))
set_option maxRecDepth 100000 in
set_option maxHeartbeats 8000000 in
theorem rTrigger_any (x : Fl) (s : ByteArray) (d : Int) (w : World) (hv : IsNt w x.nv x.ns) (hn : x.ns.length ≤ 1000) :
    Calls Tryz.prog 9 #[x.val, .string s, .int .i64 d] w fun e w' => e = .returned (dv (trg x s d)) ∧ Below w.heap.size w w' := by
  obtain ⟨r, hr⟩ : ∃ r, r = trg x s d := ⟨_, rfl⟩
  rw [← hr]
  have HR := Lib.hid hr
  have KN := Lib.hid (fun V hV => rKnown_any x d V (hv.below hV) hn)
  clear hr
  obtain ⟨id, of, op, cl, cs, ti, pt, ns, p, c⟩ := x
  replace hv : IsNt w (.slice p ns.length c) ns := hv
  replace hn : ns.length ≤ 1000 := hn
  replace KN : Hid (∀ V, Below w.heap.size w V → Calls Tryz.prog 12 #[.agg #[.int .i64 id, .int .i64 of, .int .i64 op, .int .i64 cl, .string cs, .string ti, .int .i64 pt, .slice p ns.length c], .int .i64 d] V fun e w' => ∃ u, e = .returned u ∧ IsNtF w' V.heap.size u (ns.filter fun n => decide (n.r ≤ d)) ∧ Below V.heap.size V w') := KN
  show Calls Tryz.prog 9 #[.agg #[.int .i64 id, .int .i64 of, .int .i64 op, .int .i64 cl, .string cs, .string ti, .int .i64 pt, .slice p ns.length c], .string s, .int .i64 d] w fun e w' => e = .returned (dv r) ∧ Below w.heap.size w w'
  replace HR : Hid (r = if (s.toList == [111, 112, 101, 110, 101, 100]) = true then hap op d else if (s.toList == [99, 108, 111, 115, 101, 100]) = true then hap cl d else noteT (ns.filter (fitN s d))) := HR
  have B1 := (Below.refl w.heap.size w).alloc (Nat.le_refl _) (.cells #[.int .i64 id, .int .i64 of, .int .i64 op, .int .i64 cl, .string cs, .string ti, .int .i64 pt, .slice p ns.length c] 24)
  have C1 := fun i => nCell w #[.int .i64 id, .int .i64 of, .int .i64 op, .int .i64 cl, .string cs, .string ti, .int .i64 pt, .slice p ns.length c] 24 i
  have s1 : (w.alloc (.cells #[.int .i64 id, .int .i64 of, .int .i64 op, .int .i64 cl, .string cs, .string ti, .int .i64 pt, .slice p ns.length c] 24)).heap.size = w.heap.size + 1 := by simp
  obtain ⟨w1, hw1⟩ : ∃ w1, w1 = w.alloc (.cells #[.int .i64 id, .int .i64 of, .int .i64 op, .int .i64 cl, .string cs, .string ti, .int .i64 pt, .slice p ns.length c] 24) := ⟨_, rfl⟩
  rw [← hw1] at B1 C1 s1
  have B2 := (Below.refl w1.heap.size w1).alloc (Nat.le_refl _) (.cells #[.int .i64 0, .int .i64 0] 29)
  have X4 := Bx2.new w1 0 0
  have s2 : (w1.alloc (.cells #[.int .i64 0, .int .i64 0] 29)).heap.size = w.heap.size + 2 := by simp [s1]
  obtain ⟨w4, hw4⟩ : ∃ w4, w4 = w1.alloc (.cells #[.int .i64 0, .int .i64 0] 29) := ⟨_, rfl⟩
  rw [← hw4] at B2 X4 s2
  have BA := Lib.hid (B1.trans (B2.mono B1.size))
  have e0 : w4.cell? ⟨w.heap.size, 0, none⟩ = some (.int .i64 id) := (B2.cell (p := ⟨w.heap.size, 0, none⟩) (by show w.heap.size < w1.heap.size; omega)).trans (C1 0)
  have e1 : w4.cell? ⟨w.heap.size, 1, none⟩ = some (.int .i64 of) := (B2.cell (p := ⟨w.heap.size, 1, none⟩) (by show w.heap.size < w1.heap.size; omega)).trans (C1 1)
  have e2 : w4.cell? ⟨w.heap.size, 2, none⟩ = some (.int .i64 op) := (B2.cell (p := ⟨w.heap.size, 2, none⟩) (by show w.heap.size < w1.heap.size; omega)).trans (C1 2)
  have e3 : w4.cell? ⟨w.heap.size, 3, none⟩ = some (.int .i64 cl) := (B2.cell (p := ⟨w.heap.size, 3, none⟩) (by show w.heap.size < w1.heap.size; omega)).trans (C1 3)
  have e4 : w4.cell? ⟨w.heap.size, 4, none⟩ = some (.string cs) := (B2.cell (p := ⟨w.heap.size, 4, none⟩) (by show w.heap.size < w1.heap.size; omega)).trans (C1 4)
  have e5 : w4.cell? ⟨w.heap.size, 5, none⟩ = some (.string ti) := (B2.cell (p := ⟨w.heap.size, 5, none⟩) (by show w.heap.size < w1.heap.size; omega)).trans (C1 5)
  have e6 : w4.cell? ⟨w.heap.size, 6, none⟩ = some (.int .i64 pt) := (B2.cell (p := ⟨w.heap.size, 6, none⟩) (by show w.heap.size < w1.heap.size; omega)).trans (C1 6)
  have e7 : w4.cell? ⟨w.heap.size, 7, none⟩ = some (.slice p ns.length c) := (B2.cell (p := ⟨w.heap.size, 7, none⟩) (by show w.heap.size < w1.heap.size; omega)).trans (C1 7)
  rw [s1] at X4
  replace X4 := Lib.hid X4
  have S4 := Lib.hid s2
  have HW := Lib.hid (show w4 = (w.alloc (.cells #[.int .i64 id, .int .i64 of, .int .i64 op, .int .i64 cl, .string cs, .string ti, .int .i64 pt, .slice p ns.length c] 24)).alloc (.cells #[.int .i64 0, .int .i64 0] 29) by rw [hw4, hw1])
  have LT := Lib.hid (nLt e0)
  clear B1 C1 s1 B2 s2 hw1 hw4 hv w1
  go_enter Tryz.func9, Tryz.ntmps9
  go_upto_region 1 with (fail)
  have hw := HW.out
  rw [← hw]
  clear hw
  cases h1 : (s.toList == [111, 112, 101, 110, 101, 100]) with
  | true =>
    rw [h1, if_pos rfl] at HR
    have H1 := Lib.hid (on_any op d w4)
    rw [← HR.out] at H1
    obtain ⟨⟨a, b⟩, o⟩ := r
    replace H1 : Hid (Calls Tryz.prog 27 #[.int .i64 op, .int .i64 d] w4 fun e w' => e = .returned (.tuple #[.agg #[.int .i64 a, .int .i64 b], .bool o]) ∧ Below w4.heap.size w4 w') := H1
    clear HR KN HW e0 e1 e4 e5 e6 e7
    go_wp2_with fail
    refine H1.out.mono ?_; rintro e w5 ⟨rfl, b5⟩
    have B5 := Lib.hid (BA.out.trans (b5.mono BA.out.size))
    have X5 := X4.out.below b5
    have KB := Lib.hid X5.blk
    have Y := X5.set a b
    have RR := Lib.hid (And.intro Y.c0 Y.c1)
    have B6 := Lib.hid (setRow_bel B5.out (show w.heap.size ≤ w.heap.size + 1 by omega) #[.int .i64 a, .int .i64 b])
    clear b5 X5 Y X4 H1
    go_wp2_with (refine wpList_store_row rfl 29 _ _ rfl _ _ rfl rfl _ _ KB.out (szDat _ _) (size2 _ _ _ _) (one2 _ _) ?_)
    obtain ⟨r0, r1⟩ := RR.out
    exact bodyPost_ret (v := .tuple #[.agg #[.int .i64 a, .int .i64 b], .bool o]) (by simp [results, Tryz.results9, go_sem, r0, r1]) rfl ⟨rfl, B6.out⟩
  | false =>
  rw [h1, if_neg (by simp)] at HR
  cases h2 : (s.toList == [99, 108, 111, 115, 101, 100]) with
  | true =>
    rw [h2, if_pos rfl] at HR
    have H1 := Lib.hid (on_any cl d w4)
    rw [← HR.out] at H1
    obtain ⟨⟨a, b⟩, o⟩ := r
    replace H1 : Hid (Calls Tryz.prog 27 #[.int .i64 cl, .int .i64 d] w4 fun e w' => e = .returned (.tuple #[.agg #[.int .i64 a, .int .i64 b], .bool o]) ∧ Below w4.heap.size w4 w') := H1
    clear HR KN HW e0 e1 e4 e5 e6 e7
    go_wp2_with fail
    refine H1.out.mono ?_; rintro e w5 ⟨rfl, b5⟩
    have B5 := Lib.hid (BA.out.trans (b5.mono BA.out.size))
    have X5 := X4.out.below b5
    have KB := Lib.hid X5.blk
    have Y := X5.set a b
    have RR := Lib.hid (And.intro Y.c0 Y.c1)
    have B6 := Lib.hid (setRow_bel B5.out (show w.heap.size ≤ w.heap.size + 1 by omega) #[.int .i64 a, .int .i64 b])
    clear b5 X5 Y X4 H1
    go_wp2_with (refine wpList_store_row rfl 29 _ _ rfl _ _ rfl rfl _ _ KB.out (szDat _ _) (size2 _ _ _ _) (one2 _ _) ?_)
    obtain ⟨r0, r1⟩ := RR.out
    exact bodyPost_ret (v := .tuple #[.agg #[.int .i64 a, .int .i64 b], .bool o]) (by simp [results, Tryz.results9, go_sem, r0, r1]) rfl ⟨rfl, B6.out⟩
  | false =>
    rw [h2, if_neg (by simp)] at HR
    have FF := Lib.hid (show ns.filter (fitN s d) = (ns.filter (fun n => decide (n.r ≤ d))).filter (fun n => n.nm.toList == s.toList) by
      rw [List.filter_filter]
      rfl)
    rw [FF.out] at HR
    have LN := Lib.hid (show (ns.filter (fun n => decide (n.r ≤ d))).length ≤ 1000 from Nat.le_trans (List.length_filter_le _ _) hn)
    have A5 := (Below.refl w4.heap.size w4).alloc (Nat.le_refl _) (.cells #[.int .i64 0, .int .i64 0] 29)
    have g0 := (A5.cell (p := ⟨w.heap.size, 0, none⟩) LT.out).trans e0
    have g1 := (A5.cell (p := ⟨w.heap.size, 1, none⟩) LT.out).trans e1
    have g2 := (A5.cell (p := ⟨w.heap.size, 2, none⟩) LT.out).trans e2
    have g3 := (A5.cell (p := ⟨w.heap.size, 3, none⟩) LT.out).trans e3
    have g4 := (A5.cell (p := ⟨w.heap.size, 4, none⟩) LT.out).trans e4
    have g5 := (A5.cell (p := ⟨w.heap.size, 5, none⟩) LT.out).trans e5
    have g6 := (A5.cell (p := ⟨w.heap.size, 6, none⟩) LT.out).trans e6
    have g7 := (A5.cell (p := ⟨w.heap.size, 7, none⟩) LT.out).trans e7
    have X5 := X4.out.below A5
    have Y5 := Bx2.new w4 0 0
    rw [S4.out] at Y5
    obtain ⟨w5, hw5⟩ : ∃ w5, w5 = w4.alloc (.cells #[.int .i64 0, .int .i64 0] 29) := ⟨_, rfl⟩
    rw [← hw5] at A5 g0 g1 g2 g3 g4 g5 g6 g7 X5 Y5
    have BA5 := Lib.hid (BA.out.trans (A5.mono BA.out.size))
    have HX5 := Lib.hid (show Bx2 w5 (w.heap.size + 1) 0 0 from X5)
    have HY5 := Lib.hid (show Bx2 w5 (w.heap.size + 1 + 1) 0 0 from Y5)
    have HS5 := Lib.hid (show w5.heap.size = w.heap.size + 1 + 1 + 1 by rw [hw5]; simp [S4.out])
    have HW5 := Lib.hid hw5
    have K1 := Lib.hid (KN.out w5 BA5.out)
    generalize ns.filter (fun n => decide (n.r ≤ d)) = l at K1 HR LN
    have hs4 := S4.out
    clear hw5 A5 X5 Y5 HW KN FF X4 e0 e1 e2 e3 e4 e5 e6 e7
    go_upto_region 6 with (fail)
    have h5 := HW5.out
    rw [← h5]
    try rw [hs4]
    clear h5 hs4
    go_wp2_with fail
    refine K1.out.mono ?_; rintro e w6 ⟨u, rfl, hu, b6⟩
    have B6 := Lib.hid (BA5.out.trans (b6.mono BA5.out.size))
    have X6 := Lib.hid (HX5.out.below b6)
    have Y6 := Lib.hid (HY5.out.below b6)
    obtain ⟨p6, c6, rfl, hc6, hp6⟩ := hu
    obtain ⟨n, hnn⟩ : ∃ n, n = l.length := ⟨_, rfl⟩
    rw [← hnn] at hc6 LN
    have HN := Lib.hid hnn
    have HP := Lib.hid hp6
    clear hp6 b6 K1 g0 g1 g2 g3 g4 g5 g6 g7 HX5 HY5 HW5
    rw [← hnn]
    clear hnn
    have hln := LN.out
    go_wp2_with fail
    go_loopw [9, 11] (fun s9 s11 wr => ∃ (k : Nat) (o : Bool), k ≤ n ∧ s11 = .int .i64 k ∧ s9 = .bool o ∧ Hid (TrL l s w w6 k o wr)) (fun _ si _ => n - (intOf si).toNat)
    case atStart => exact ⟨0, false, Nat.zero_le _, rfl, rfl, ⟨X6.out, ⟨0, 0, rfl, Y6.out⟩, B6.out, grown_refl _ _⟩⟩
    case round =>
      obtain ⟨k, o, hk, rfl, rfl, hrel⟩ := hrel
      have ZB := Lib.hid hrel.out.z
      have BL := Lib.hid hrel.out.bel
      have MI := Lib.hid hrel.out.mid
      obtain ⟨a, b, hE, hY⟩ := hrel.out.m
      clear hrel
      by_cases hlt : k < n
      · obtain ⟨x, hx⟩ : ∃ x, l[k]? = some x := ⟨_, List.getElem?_eq_getElem (by rw [← HN.out]; exact hlt)⟩
        obtain ⟨g, off, rfl, hgK, hcell⟩ := HP.out (by rw [← HN.out]; omega)
        have OA := (hcell k x hx).grown MI.out (by have := HS5.out; omega)
        have ST := Lib.hid (show noteT ((l.take (k + 1)).filter (fun n => n.nm.toList == s.toList)) = if (x.nm.toList == s.toList) = true then (if o = false ∨ b < x.l ∨ (x.l = b ∧ a < x.f) then ((x.f, x.l), true) else ((a, b), o)) else ((a, b), o) by
          rw [List.take_add_one, hx, List.filter_append]
          show noteT (_ ++ List.filter _ [x]) = _
          rw [List.filter_cons, List.filter_nil]
          cases h : (x.nm.toList == s.toList) with
          | true => rw [if_pos rfl, if_pos rfl, noteT_snoc, hE]
          | false => rw [if_neg (by simp), if_neg (by simp), List.append_nil, hE])
        have AL := (Below.refl wr.heap.size wr).alloc (Nat.le_refl _) (.cells #[.int .i64 x.f, .int .i64 x.l] 29)
        have O2 := OA.below AL
        have Y2 := Lib.hid (hY.below AL)
        have Z2 := Lib.hid (ZB.out.below AL)
        have B2 := Lib.hid (BL.out.trans (AL.mono BL.out.size))
        have M2 := Lib.hid (grown_bel MI.out AL)
        have NC := nCell wr #[.int .i64 x.f, .int .i64 x.l] 29
        clear hcell hx hE hY hgK
        obtain ⟨nm1, f1, l1, r1⟩ := x
        obtain ⟨lt0, c0, c1, c2, c3⟩ := OA
        replace c1 : wr.cell? ⟨g, off + k * 4 + 1, none⟩ = some (.int .i64 f1) := c1
        replace c2 : wr.cell? ⟨g, off + k * 4 + 2, none⟩ = some (.int .i64 l1) := c2
        replace Y2 : Hid (Bx2 (wr.alloc (.cells #[.int .i64 f1, .int .i64 l1] 29)) (w.heap.size + 1 + 1) a b) := Y2
        replace Z2 : Hid (Bx2 (wr.alloc (.cells #[.int .i64 f1, .int .i64 l1] 29)) (w.heap.size + 1) 0 0) := Z2
        replace B2 : Hid (Below w.heap.size w (wr.alloc (.cells #[.int .i64 f1, .int .i64 l1] 29))) := B2
        replace M2 : Hid (w6.grownBy (wr.alloc (.cells #[.int .i64 f1, .int .i64 l1] 29)) (some (w.heap.size + 1 + 1))) := M2
        replace ST : Hid (noteT ((l.take (k + 1)).filter (fun n => n.nm.toList == s.toList)) = if (nm1.toList == s.toList) = true then (if o = false ∨ b < l1 ∨ (l1 = b ∧ a < f1) then ((f1, l1), true) else ((a, b), o)) else ((a, b), o)) := ST
        have d0 : (wr.alloc (.cells #[.int .i64 f1, .int .i64 l1] 29)).cell? ⟨g, off + k * 4, none⟩ = some (.string nm1) := O2.c0
        have d1 : (wr.alloc (.cells #[.int .i64 f1, .int .i64 l1] 29)).cell? ⟨wr.heap.size, 0, none⟩ = some (.int .i64 f1) := NC 0
        have d2 : (wr.alloc (.cells #[.int .i64 f1, .int .i64 l1] 29)).cell? ⟨wr.heap.size, 1, none⟩ = some (.int .i64 l1) := NC 1
        have d3 : (wr.alloc (.cells #[.int .i64 f1, .int .i64 l1] 29)).cell? ⟨w.heap.size + 1 + 1, 0, none⟩ = some (.int .i64 a) := Y2.out.c0
        have d4 : (wr.alloc (.cells #[.int .i64 f1, .int .i64 l1] 29)).cell? ⟨w.heap.size + 1 + 1, 1, none⟩ = some (.int .i64 b) := Y2.out.c1
        have KB := Lib.hid Y2.out.blk
        have YT := Lib.hid (Y2.out.set f1 l1)
        have ZT := Lib.hid (show Bx2 ((wr.alloc (.cells #[.int .i64 f1, .int .i64 l1] 29)).setRow (w.heap.size + 1 + 1) #[.int .i64 f1, .int .i64 l1]) (w.heap.size + 1) 0 0 from ⟨(setRow_other _ _ _ _ (by omega)).trans Z2.out.blk⟩)
        have BT := Lib.hid (setRow_bel B2.out (show w.heap.size ≤ w.heap.size + 1 + 1 by omega) #[.int .i64 f1, .int .i64 l1])
        have MT := Lib.hid (grown_set M2.out #[.int .i64 f1, .int .i64 l1])
        have z1 : (0 : Int) ≤ (k : Int) := by omega
        have z2 : (k : Int) < (n : Int) := by omega
        clear O2 NC c0 c3
        cases hg : (nm1.toList == s.toList) with
        | false =>
          have EQ := Lib.hid (show noteT ((l.take (k + 1)).filter (fun n => n.nm.toList == s.toList)) = ((a, b), o) by rw [ST.out, hg, if_neg (by simp)])
          clear ST
          go_wp2_with fail
          go_roundw
          case rel => exact ⟨k + 1, o, by omega, by go_num, rfl, ⟨Z2.out, ⟨a, b, EQ.out, Y2.out⟩, B2.out, M2.out⟩⟩
          case measure => simp [intOf]; omega
        | true =>
          cases o with
          | false =>
            have EQ := Lib.hid (show noteT ((l.take (k + 1)).filter (fun n => n.nm.toList == s.toList)) = ((f1, l1), true) by rw [ST.out, hg, if_pos rfl, if_pos (Or.inl rfl)])
            clear ST
            go_upto_region 12 with (fail)
            clear d0 d3 d4 c1 c2 z1 z2 lt0 h1 h2
            go_upto_region 9 with (refine wpList_store_row rfl 29 _ _ rfl _ _ rfl rfl _ _ KB.out (szDat _ _) (size2 _ _ _ _) (one2 _ _) ?_)
            clear d1 d2
            go_wp2_with fail
            go_roundw
            case rel => exact ⟨k + 1, true, by omega, by go_num, rfl, ⟨ZT.out, ⟨f1, l1, EQ.out, YT.out⟩, BT.out, MT.out⟩⟩
            case measure => simp [intOf]; omega
          | true =>
            by_cases q1 : b < l1
            · have D1 : decide (b < l1) = true := decide_eq_true q1
              have EQ := Lib.hid (show noteT ((l.take (k + 1)).filter (fun n => n.nm.toList == s.toList)) = ((f1, l1), true) by rw [ST.out, hg, if_pos rfl, if_pos (Or.inr (Or.inl q1))])
              clear q1
              clear ST
              go_upto_region 12 with (fail)
              clear d0 d3 d4 c1 c2 z1 z2 lt0 h1 h2
              go_upto_region 9 with (refine wpList_store_row rfl 29 _ _ rfl _ _ rfl rfl _ _ KB.out (szDat _ _) (size2 _ _ _ _) (one2 _ _) ?_)
              clear d1 d2
              go_wp2_with fail
              go_roundw
              case rel => exact ⟨k + 1, true, by omega, by go_num, rfl, ⟨ZT.out, ⟨f1, l1, EQ.out, YT.out⟩, BT.out, MT.out⟩⟩
              case measure => simp [intOf]; omega
            · have D1 : decide (b < l1) = false := decide_eq_false q1
              by_cases q2 : l1 = b
              · have D2 : (l1 == b) = true := by simpa using q2
                by_cases q3 : a < f1
                · have D3 : decide (a < f1) = true := decide_eq_true q3
                  have EQ := Lib.hid (show noteT ((l.take (k + 1)).filter (fun n => n.nm.toList == s.toList)) = ((f1, l1), true) by rw [ST.out, hg, if_pos rfl, if_pos (Or.inr (Or.inr ⟨q2, q3⟩))])
                  clear q1 q2 q3
                  clear ST
                  go_upto_region 12 with (fail)
                  clear d0 d3 d4 c1 c2 z1 z2 lt0 h1 h2
                  go_upto_region 9 with (refine wpList_store_row rfl 29 _ _ rfl _ _ rfl rfl _ _ KB.out (szDat _ _) (size2 _ _ _ _) (one2 _ _) ?_)
                  clear d1 d2
                  go_wp2_with fail
                  go_roundw
                  case rel => exact ⟨k + 1, true, by omega, by go_num, rfl, ⟨ZT.out, ⟨f1, l1, EQ.out, YT.out⟩, BT.out, MT.out⟩⟩
                  case measure => simp [intOf]; omega
                · have D3 : decide (a < f1) = false := decide_eq_false q3
                  have EQ := Lib.hid (show noteT ((l.take (k + 1)).filter (fun n => n.nm.toList == s.toList)) = ((a, b), true) by rw [ST.out, hg, if_pos rfl, if_neg (fun h => h.elim (fun h => by cases h) (fun h => h.elim q1 (fun h => q3 h.2)))])
                  clear q1 q2 q3
                  clear ST
                  go_wp2_with fail
                  go_roundw
                  case rel => exact ⟨k + 1, true, by omega, by go_num, rfl, ⟨Z2.out, ⟨a, b, EQ.out, Y2.out⟩, B2.out, M2.out⟩⟩
                  case measure => simp [intOf]; omega
              · have D2 : (l1 == b) = false := by simpa using q2
                have EQ := Lib.hid (show noteT ((l.take (k + 1)).filter (fun n => n.nm.toList == s.toList)) = ((a, b), true) by rw [ST.out, hg, if_pos rfl, if_neg (fun h => h.elim (fun h => by cases h) (fun h => h.elim q1 (fun h => q2 h.1)))])
                clear q1 q2
                clear ST
                go_wp2_with fail
                go_roundw
                case rel => exact ⟨k + 1, true, by omega, by go_num, rfl, ⟨Z2.out, ⟨a, b, EQ.out, Y2.out⟩, B2.out, M2.out⟩⟩
                case measure => simp [intOf]; omega
      · obtain rfl : k = n := by omega
        rw [List.take_of_length_le (by rw [← HN.out]; exact Nat.le_refl _)] at hE
        rw [hE] at HR
        have y0 := hY.c0
        have y1 := hY.c1
        have KB := Lib.hid ZB.out.blk
        have Y := ZB.out.set a b
        have RR := Lib.hid (And.intro Y.c0 Y.c1)
        have B7 := Lib.hid (setRow_bel BL.out (show w.heap.size ≤ w.heap.size + 1 by omega) #[.int .i64 a, .int .i64 b])
        clear hE hY Y
        go_wp2_with (refine wpList_store_row rfl 29 _ _ rfl _ _ rfl rfl _ _ KB.out (szDat _ _) (size2 _ _ _ _) (one2 _ _) ?_)
        obtain ⟨r0, r1⟩ := RR.out
        exact bodyPost_ret (v := .tuple #[.agg #[.int .i64 a, .int .i64 b], .bool o]) (by simp [results, Tryz.results9, go_sem, r0, r1]) rfl ⟨by rw [HR.out]; rfl, B7.out⟩
end Go.Proofs.YtfgpmghaebdhpaaGreatDoor
