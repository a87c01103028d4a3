/- FileTriggers. -/
import Derived.Test.YtfgpmghaebdhpaaGreatDoorFT
namespace Go.Proofs.YtfgpmghaebdhpaaGreatDoor
open Go.RowKit Go.Maps Go.Shelf

/-- The boxes of a file and of two datings, and that nothing else has changed. -/
abbrev SF (u : World) (F D E : Nat) (x : Fl) (f l : Int) (W : World) : Prop :=
  W.cell? ⟨F, 0, none⟩ = some (.int .i64 x.id) ∧ W.cell? ⟨F, 1, none⟩ = some (.int .i64 x.of) ∧ W.cell? ⟨F, 2, none⟩ = some (.int .i64 x.op) ∧ W.cell? ⟨F, 3, none⟩ = some (.int .i64 x.cl) ∧ W.cell? ⟨F, 4, none⟩ = some (.string x.cs) ∧ W.cell? ⟨F, 5, none⟩ = some (.string x.ti) ∧ W.cell? ⟨F, 6, none⟩ = some (.int .i64 x.pt) ∧ W.cell? ⟨F, 7, none⟩ = some (.slice x.p x.ns.length x.c) ∧ W.cell? ⟨D, 0, none⟩ = some (.int .i64 f) ∧ W.cell? ⟨D, 1, none⟩ = some (.int .i64 l) ∧ W.cell? ⟨E, 0, none⟩ = some (.int .i64 f) ∧ W.cell? ⟨E, 1, none⟩ = some (.int .i64 l) ∧ (F < u.heap.size ∧ D < u.heap.size ∧ E < u.heap.size ∧ Below u.heap.size u W)
theorem SF.go {u : World} {F D E : Nat} {x : Fl} {f l : Int} {W w' : World} (h : SF u F D E x f l W) (hb : Below W.heap.size W w') : SF u F D E x f l w' := by
  obtain ⟨a0, a1, a2, a3, a4, a5, a6, a7, b0, b1, c0, c1, lf, ld, le, g⟩ := h
  have lf' := Nat.lt_of_lt_of_le lf g.size
  have ld' := Nat.lt_of_lt_of_le ld g.size
  have le' := Nat.lt_of_lt_of_le le g.size
  exact ⟨(hb.cell (p := ⟨F, 0, none⟩) lf').trans a0, (hb.cell (p := ⟨F, 1, none⟩) lf').trans a1, (hb.cell (p := ⟨F, 2, none⟩) lf').trans a2, (hb.cell (p := ⟨F, 3, none⟩) lf').trans a3, (hb.cell (p := ⟨F, 4, none⟩) lf').trans a4, (hb.cell (p := ⟨F, 5, none⟩) lf').trans a5, (hb.cell (p := ⟨F, 6, none⟩) lf').trans a6, (hb.cell (p := ⟨F, 7, none⟩) lf').trans a7, (hb.cell (p := ⟨D, 0, none⟩) ld').trans b0, (hb.cell (p := ⟨D, 1, none⟩) ld').trans b1, (hb.cell (p := ⟨E, 0, none⟩) le').trans c0, (hb.cell (p := ⟨E, 1, none⟩) le').trans c1, lf, ld, le, g.trans (hb.mono g.size)⟩
theorem SF.bel {u : World} {F D E : Nat} {x : Fl} {f l : Int} {W : World} (h : SF u F D E x f l W) : Below u.heap.size u W := h.2.2.2.2.2.2.2.2.2.2.2.2.2.2.2
theorem SF.call {u : World} {F D E : Nat} {x : Fl} {f l : Int} {W : World} {fn : FuncId} {args : Array Value} {Q : Ending → World → Prop} (hS : SF u F D E x f l W) (h : Calls Tryz.prog fn args W Q) (hQ : ∀ e w', Q e w' → Below W.heap.size W w') : Calls Tryz.prog fn args W fun e w' => Q e w' ∧ SF u F D E x f l w' :=
  h.mono fun e w' q => ⟨q, hS.go (hQ e w' q)⟩
set_option maxRecDepth 100000 in
set_option maxHeartbeats 16000000 in
theorem law_triggers (x : Fl) (s : ByteArray) (d : Int) (w : World) (hw : Lw w) (hv : IsNt w x.nv x.ns) :
    Calls Tryz.prog 3 #[fVal x, .string s, .int .i64 d] w fun e w' => e = .returned (.bool true) ∧ Below w.heap.size w w' := by
  have X1 := FAt.new w x
  have B1 := (Below.refl w.heap.size w).alloc (Nat.le_refl _) (.cells #[.int .i64 x.id, .int .i64 x.of, .int .i64 x.op, .int .i64 x.cl, .string x.cs, .string x.ti, .int .i64 x.pt, x.nv] 24)
  obtain ⟨w1, hw1⟩ : ∃ w1, w1 = w.alloc (.cells #[.int .i64 x.id, .int .i64 x.of, .int .i64 x.op, .int .i64 x.cl, .string x.cs, .string x.ti, .int .i64 x.pt, x.nv] 24) := ⟨_, rfl⟩
  rw [← hw1] at X1 B1
  have AW := Lib.hid (awake_any w1 (hw.below B1 hw.n0))
  have HF := Lib.hid (fun V (hV : Below w1.heap.size w1 V) => X1.below hV)
  have HV := Lib.hid (fun V (hV : Below w1.heap.size w1 V) => (hv.below B1).below hV)
  have FW := Lib.hid (fun (V : World) (hV : Below w1.heap.size w1 V) => few1_any x V.heap.size _ (FAt.new V x) (((hv.below B1).below hV).below ((Below.refl V.heap.size V).alloc (Nat.le_refl _) _)))
  have TG := Lib.hid (fun (V : World) (hV : Below w1.heap.size w1 V) (hn : x.ns.length ≤ 20) => Trigger_any x s d V ((hv.below B1).below hV) (by omega))
  have RT := Lib.hid (fun (V : World) (hV : Below w1.heap.size w1 V) (hn : x.ns.length ≤ 20) => rTrigger_any x s d V ((hv.below B1).below hV) (by omega))
  have KN := Lib.hid (fun (V : World) (hV : Below w1.heap.size w1 V) (hn : x.ns.length ≤ 20) => Known_any x d V ((hv.below B1).below hV) (by omega))
  have RK := Lib.hid (fun (V : World) (hV : Below w1.heap.size w1 V) (hn : x.ns.length ≤ 20) => rKnown_any x d V ((hv.below B1).below hV) (by omega))
  have ST := Lib.hid (fun (V : World) => State_any x d V)
  have RS := Lib.hid (fun (V : World) => rState_any x d V)
  have BA := Lib.hid B1
  have HW := Lib.hid hw1
  obtain ⟨r, hr⟩ : ∃ r, r = trg x s d := ⟨_, rfl⟩
  rw [← hr] at TG RT
  obtain ⟨zs, hzs⟩ : ∃ zs, zs = stZ x d := ⟨_, rfl⟩
  rw [← hzs] at ST RS
  clear hzs
  clear X1 B1 hw1 hw hv hr
  obtain ⟨id, of, op, cl, cs, ti, pt, ns, p, c⟩ := x
  replace HW : Hid (w1 = w.alloc (.cells #[.int .i64 id, .int .i64 of, .int .i64 op, .int .i64 cl, .string cs, .string ti, .int .i64 pt, .slice p ns.length c] 24)) := HW
  replace FW : Hid (∀ (V : World), Below w1.heap.size w1 V → Calls Tryz.prog 7 #[.slice (some ⟨V.heap.size, 0, none⟩) 1 1] (V.alloc (.cells #[.int .i64 id, .int .i64 of, .int .i64 op, .int .i64 cl, .string cs, .string ti, .int .i64 pt, .slice p ns.length c] 24)) (FewZ ns.length (V.alloc (.cells #[.int .i64 id, .int .i64 of, .int .i64 op, .int .i64 cl, .string cs, .string ti, .int .i64 pt, .slice p ns.length c] 24)))) := FW
  replace TG : Hid (∀ (V : World), Below w1.heap.size w1 V → ns.length ≤ 20 → Calls Tryz.prog 8 #[.agg #[.int .i64 id, .int .i64 of, .int .i64 op, .int .i64 cl, .string cs, .string ti, .int .i64 pt, .slice p ns.length c], .string s, .int .i64 d] V fun e w' => e = .returned (dv r) ∧ Below V.heap.size V w') := TG
  replace RT : Hid (∀ (V : World), Below w1.heap.size w1 V → ns.length ≤ 20 → Calls Tryz.prog 9 #[.agg #[.int .i64 id, .int .i64 of, .int .i64 op, .int .i64 cl, .string cs, .string ti, .int .i64 pt, .slice p ns.length c], .string s, .int .i64 d] V fun e w' => e = .returned (dv r) ∧ Below V.heap.size V w') := RT
  replace KN : Hid (∀ (V : World), Below w1.heap.size w1 V → ns.length ≤ 20 → Calls Tryz.prog 11 #[.agg #[.int .i64 id, .int .i64 of, .int .i64 op, .int .i64 cl, .string cs, .string ti, .int .i64 pt, .slice p ns.length c], .int .i64 d] V fun e w' => ∃ u, e = .returned u ∧ IsNt w' u (ns.filter fun n => decide (n.r ≤ d)) ∧ Below V.heap.size V w') := KN
  replace RK : Hid (∀ (V : World), Below w1.heap.size w1 V → ns.length ≤ 20 → Calls Tryz.prog 12 #[.agg #[.int .i64 id, .int .i64 of, .int .i64 op, .int .i64 cl, .string cs, .string ti, .int .i64 pt, .slice p ns.length c], .int .i64 d] V fun e w' => ∃ u, e = .returned u ∧ IsNtF w' V.heap.size u (ns.filter fun n => decide (n.r ≤ d)) ∧ Below V.heap.size V w') := RK
  replace ST : Hid (∀ (V : World), Calls Tryz.prog 13 #[.agg #[.int .i64 id, .int .i64 of, .int .i64 op, .int .i64 cl, .string cs, .string ti, .int .i64 pt, .slice p ns.length c], .int .i64 d] V fun e w' => e = .returned (.int .i64 zs) ∧ Below V.heap.size V w') := ST
  replace RS : Hid (∀ (V : World), Calls Tryz.prog 14 #[.agg #[.int .i64 id, .int .i64 of, .int .i64 op, .int .i64 cl, .string cs, .string ti, .int .i64 pt, .slice p ns.length c], .int .i64 d] V fun e w' => e = .returned (.int .i64 zs) ∧ Below V.heap.size V w') := RS
  show Calls Tryz.prog 3 #[.agg #[.int .i64 id, .int .i64 of, .int .i64 op, .int .i64 cl, .string cs, .string ti, .int .i64 pt, .slice p ns.length c], .string s, .int .i64 d] w fun e w' => e = .returned (.bool true) ∧ Below w.heap.size w w'
  go_enter Tryz.func3, Tryz.ntmps3
  go_upto_region 1 with (fail)
  have hw := HW.out
  rw [← hw]
  clear hw HW
  go_wp2_with fail
  refine AW.out.mono ?_
  rintro e w2 ⟨rfl, b2⟩
  have A2 := Lib.hid b2
  obtain ⟨_, x0, x1, x2, x3, x4, x5, x6, x7⟩ := HF.out w2 b2
  replace x0 : w2.cell? ⟨w.heap.size, 0, none⟩ = some (.int .i64 id) := x0
  replace x1 : w2.cell? ⟨w.heap.size, 1, none⟩ = some (.int .i64 of) := x1
  replace x2 : w2.cell? ⟨w.heap.size, 2, none⟩ = some (.int .i64 op) := x2
  replace x3 : w2.cell? ⟨w.heap.size, 3, none⟩ = some (.int .i64 cl) := x3
  replace x4 : w2.cell? ⟨w.heap.size, 4, none⟩ = some (.string cs) := x4
  replace x5 : w2.cell? ⟨w.heap.size, 5, none⟩ = some (.string ti) := x5
  replace x6 : w2.cell? ⟨w.heap.size, 6, none⟩ = some (.int .i64 pt) := x6
  replace x7 : w2.cell? ⟨w.heap.size, 7, none⟩ = some (.slice p ns.length c) := x7
  have F2 := Lib.hid (FW.out w2 b2)
  have A3 := Lib.hid (b2.alloc b2.size (.cells #[.int .i64 id, .int .i64 of, .int .i64 op, .int .i64 cl, .string cs, .string ti, .int .i64 pt, .slice p ns.length c] 24))
  clear b2 AW FW
  go_wp2_with fail
  refine F2.out.mono ?_
  rintro e w4 ⟨z, rfl, hz, b4⟩
  have A4 := Lib.hid (A3.out.trans (b4.mono A3.out.size))
  have B4 := Lib.hid (BA.out.trans (A4.out.mono BA.out.size))
  clear b4 F2 x0 x1 x2 x3 x4 x5 x6 x7
  cases z with
  | false =>
    clear hz
    go_wp2_with fail
    go_ret
    exact ⟨rfl, B4.out⟩
  | true =>
  by_cases h1 : 100 < s.size
  · have G1 : decide (100 < (s.size : Int)) = true := by simpa using (by omega : (100 : Int) < (s.size : Int))
    have G1' : decide (100 < s.size) = true := by simpa using h1
    clear hz h1
    go_wp2_with fail
    go_ret
    exact ⟨rfl, B4.out⟩
  have G1 : decide (100 < (s.size : Int)) = false := by simpa using (by omega : (s.size : Int) ≤ 100)
  have G1' : decide (100 < s.size) = false := by simpa using (by omega : s.size ≤ 100)
  have T4 := Lib.hid (TG.out w4 A4.out (hz rfl))
  have LEN := Lib.hid (hz rfl)
  clear TG h1 hz
  obtain ⟨⟨f, l⟩, o⟩ := r
  replace T4 : Hid (Calls Tryz.prog 8 #[.agg #[.int .i64 id, .int .i64 of, .int .i64 op, .int .i64 cl, .string cs, .string ti, .int .i64 pt, .slice p ns.length c], .string s, .int .i64 d] w4 fun e w' => e = .returned (.tuple #[.agg #[.int .i64 f, .int .i64 l], .bool o]) ∧ Below w4.heap.size w4 w') := T4
  replace RT : Hid (∀ (V : World), Below w1.heap.size w1 V → ns.length ≤ 20 → Calls Tryz.prog 9 #[.agg #[.int .i64 id, .int .i64 of, .int .i64 op, .int .i64 cl, .string cs, .string ti, .int .i64 pt, .slice p ns.length c], .string s, .int .i64 d] V fun e w' => e = .returned (.tuple #[.agg #[.int .i64 f, .int .i64 l], .bool o]) ∧ Below V.heap.size V w') := RT
  obtain ⟨_, x0, x1, x2, x3, x4, x5, x6, x7⟩ := HF.out w4 A4.out
  replace x0 : w4.cell? ⟨w.heap.size, 0, none⟩ = some (.int .i64 id) := x0
  replace x1 : w4.cell? ⟨w.heap.size, 1, none⟩ = some (.int .i64 of) := x1
  replace x2 : w4.cell? ⟨w.heap.size, 2, none⟩ = some (.int .i64 op) := x2
  replace x3 : w4.cell? ⟨w.heap.size, 3, none⟩ = some (.int .i64 cl) := x3
  replace x4 : w4.cell? ⟨w.heap.size, 4, none⟩ = some (.string cs) := x4
  replace x5 : w4.cell? ⟨w.heap.size, 5, none⟩ = some (.string ti) := x5
  replace x6 : w4.cell? ⟨w.heap.size, 6, none⟩ = some (.int .i64 pt) := x6
  replace x7 : w4.cell? ⟨w.heap.size, 7, none⟩ = some (.slice p ns.length c) := x7
  go_wp2_with fail
  refine T4.out.mono ?_
  rintro e w5 ⟨rfl, b5⟩
  have A5 := Lib.hid (A4.out.trans (b5.mono A4.out.size))
  clear b5 T4 x0 x1 x2 x3 x4 x5 x6 x7 G1 G1'
  have D6 := Bx2.new w5 f l
  have A56 := (Below.refl w5.heap.size w5).alloc (Nat.le_refl _) (.cells #[.int .i64 f, .int .i64 l] 29)
  obtain ⟨w6, hw6⟩ : ∃ w6, w6 = w5.alloc (.cells #[.int .i64 f, .int .i64 l] 29) := ⟨_, rfl⟩
  rw [← hw6] at D6 A56
  obtain ⟨D, hD⟩ : ∃ D, D = w5.heap.size := ⟨_, rfl⟩
  rw [← hD] at D6
  have A6 := Lib.hid (A5.out.trans (A56.mono A5.out.size))
  have HD := Lib.hid hD
  have HW6 := Lib.hid hw6
  replace D6 := Lib.hid D6
  have T6 := Lib.hid (RT.out w6 A6.out LEN.out)
  clear A56 hw6 hD RT
  obtain ⟨_, x0, x1, x2, x3, x4, x5, x6, x7⟩ := HF.out w6 A6.out
  replace x0 : w6.cell? ⟨w.heap.size, 0, none⟩ = some (.int .i64 id) := x0
  replace x1 : w6.cell? ⟨w.heap.size, 1, none⟩ = some (.int .i64 of) := x1
  replace x2 : w6.cell? ⟨w.heap.size, 2, none⟩ = some (.int .i64 op) := x2
  replace x3 : w6.cell? ⟨w.heap.size, 3, none⟩ = some (.int .i64 cl) := x3
  replace x4 : w6.cell? ⟨w.heap.size, 4, none⟩ = some (.string cs) := x4
  replace x5 : w6.cell? ⟨w.heap.size, 5, none⟩ = some (.string ti) := x5
  replace x6 : w6.cell? ⟨w.heap.size, 6, none⟩ = some (.int .i64 pt) := x6
  replace x7 : w6.cell? ⟨w.heap.size, 7, none⟩ = some (.slice p ns.length c) := x7
  go_upto_region 6 with (fail)
  have hw6 := HW6.out
  have hD := HD.out
  rw [← hw6, ← hD]
  clear hw6 hD HW6 HD
  go_wp2_with fail
  refine T6.out.mono ?_
  rintro e w7 ⟨rfl, b7⟩
  have A7 := Lib.hid (A6.out.trans (b7.mono A6.out.size))
  have D7 := Lib.hid (D6.out.below b7)
  clear b7 T6 D6 x0 x1 x2 x3 x4 x5 x6 x7
  have E8 := Bx2.new w7 f l
  have A78 := (Below.refl w7.heap.size w7).alloc (Nat.le_refl _) (.cells #[.int .i64 f, .int .i64 l] 29)
  have D8 := D7.out.below A78
  obtain ⟨w8, hw8⟩ : ∃ w8, w8 = w7.alloc (.cells #[.int .i64 f, .int .i64 l] 29) := ⟨_, rfl⟩
  rw [← hw8] at E8 A78 D8
  obtain ⟨E, hE⟩ : ∃ E, E = w7.heap.size := ⟨_, rfl⟩
  rw [← hE] at E8
  have A8 := Lib.hid (A7.out.trans (A78.mono A7.out.size))
  have HE := Lib.hid hE
  have HW8 := Lib.hid hw8
  obtain ⟨lf, x0, x1, x2, x3, x4, x5, x6, x7⟩ := HF.out w8 A8.out
  have S0 := Lib.hid (show SF w8 w.heap.size D E ⟨id, of, op, cl, cs, ti, pt, ns, p, c⟩ f l w8.drew from ⟨x0, x1, x2, x3, x4, x5, x6, x7, D8.c0, D8.c1, E8.c0, E8.c1, lf, D8.lt, E8.lt, (Below.refl _ _).drew⟩)
  obtain ⟨L, hL⟩ : ∃ L, L = ns.filter (fun n => decide (n.r ≤ d)) := ⟨_, rfl⟩
  have LL := Lib.hid (show L.length ≤ 1000 by rw [hL]; exact Nat.le_trans (List.length_filter_le _ _) (by have := LEN.out; omega))
  rw [← hL] at KN RK
  have KN2 := Lib.hid (fun (V : World) (h : SF w8 w.heap.size D E ⟨id, of, op, cl, cs, ti, pt, ns, p, c⟩ f l V) => SF.call h (KN.out V (A8.out.trans (h.bel.mono A8.out.size)) LEN.out) (fun _ _ ⟨_, _, _, q⟩ => q))
  have RK2 := Lib.hid (fun (V : World) (h : SF w8 w.heap.size D E ⟨id, of, op, cl, cs, ti, pt, ns, p, c⟩ f l V) => SF.call h (RK.out V (A8.out.trans (h.bel.mono A8.out.size)) LEN.out) (fun _ _ ⟨_, _, _, q⟩ => q))
  have SN2 := Lib.hid (fun (V : World) (a b : Value) (hab : IsNt V a L ∧ IsNt V b L) (h : SF w8 w.heap.size D E ⟨id, of, op, cl, cs, ti, pt, ns, p, c⟩ f l V) => SF.call h (sameNotes_any a b L V hab.1 hab.2 LL.out) (fun _ _ ⟨_, q⟩ => q))
  have ST2 := Lib.hid (fun (V : World) (h : SF w8 w.heap.size D E ⟨id, of, op, cl, cs, ti, pt, ns, p, c⟩ f l V) => SF.call h (ST.out V) (fun _ _ ⟨_, q⟩ => q))
  have RS2 := Lib.hid (fun (V : World) (h : SF w8 w.heap.size D E ⟨id, of, op, cl, cs, ti, pt, ns, p, c⟩ f l V) => SF.call h (RS.out V) (fun _ _ ⟨_, q⟩ => q))
  clear E8 D8 A78 hw8 hE lf x0 x1 x2 x3 x4 x5 x6 x7 hL KN RK ST RS HF HV D7
  go_upto_region 7 with (fail)
  have hw8 := HW8.out
  have hE := HE.out
  rw [← hw8, ← hE]
  clear hw8 hE HW8 HE
  have q := eqD f l f l
  have qg := eqDg f l f l
  have hS0 := S0.out
  cases o
  all_goals
    go_region_held3 (fun W => W.cell? ⟨w.heap.size, 0, none⟩ = some (.int .i64 id) ∧ W.cell? ⟨w.heap.size, 1, none⟩ = some (.int .i64 of) ∧ W.cell? ⟨w.heap.size, 2, none⟩ = some (.int .i64 op) ∧ W.cell? ⟨w.heap.size, 3, none⟩ = some (.int .i64 cl) ∧ W.cell? ⟨w.heap.size, 4, none⟩ = some (.string cs) ∧ W.cell? ⟨w.heap.size, 5, none⟩ = some (.string ti) ∧ W.cell? ⟨w.heap.size, 6, none⟩ = some (.int .i64 pt) ∧ W.cell? ⟨w.heap.size, 7, none⟩ = some (.slice p ns.length c) ∧ W.cell? ⟨D, 0, none⟩ = some (.int .i64 f) ∧ W.cell? ⟨D, 1, none⟩ = some (.int .i64 l) ∧ W.cell? ⟨E, 0, none⟩ = some (.int .i64 f) ∧ W.cell? ⟨E, 1, none⟩ = some (.int .i64 l) ∧ (w.heap.size < w8.heap.size ∧ D < w8.heap.size ∧ E < w8.heap.size ∧ Below w8.heap.size w8 W))
      (first | assumption | exact hS0)
      (first
        | (go_at_call 11; refine (KN2.out _ (by assumption)).mono ?_; rintro e w9 ⟨⟨u, rfl, hu, hb9⟩, hS9⟩; have HU := Lib.hid hu; clear hu hb9)
        | (go_at_call 12; refine (RK2.out _ (by assumption)).mono ?_; rintro e w10 ⟨⟨u2, rfl, hu2, hb10⟩, hS10⟩; have HAB := And.intro (HU.out.below hb10) hu2.isNt; clear hu2 hb10)
        | (go_at_call 10; refine (SN2.out _ _ _ (by assumption) (by assumption)).mono ?_; rintro e w11 ⟨⟨rfl, hb11⟩, hS11⟩; clear hb11)
        | (go_at_call 13; refine (ST2.out _ (by assumption)).mono ?_; rintro e w12 ⟨⟨rfl, hb12⟩, hS12⟩; clear hb12)
        | (go_at_call 14; refine (RS2.out _ (by assumption)).mono ?_; rintro e w13 ⟨⟨rfl, hb13⟩, hS13⟩; clear hb13))
    have BZ := Lib.hid (BA.out.trans ((A8.out.trans ((SF.bel (x := ⟨id, of, op, cl, cs, ti, pt, ns, p, c⟩) hS13).mono A8.out.size)).mono BA.out.size))
    clear hS9 hS10 hS11 hS12 hS13 hS0 HAB
    go_wp2_with fail
    go_ret
    exact ⟨rfl, BZ.out⟩
end Go.Proofs.YtfgpmghaebdhpaaGreatDoor
