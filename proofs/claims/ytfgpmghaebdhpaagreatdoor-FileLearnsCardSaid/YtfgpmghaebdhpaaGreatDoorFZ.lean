/- FileLearns. -/
import Derived.Test.YtfgpmghaebdhpaaGreatDoorGA
namespace Go.Proofs.YtfgpmghaebdhpaaGreatDoor
open Go.RowKit Go.Maps Go.Shelf

/-- The box of a file, and that nothing else has changed. -/
abbrev SG (u : World) (F : Nat) (x : Fl) (W : World) : Prop :=
  W.cell? ⟨F, 0, none⟩ = some (.int .i64 x.id) ∧ W.cell? ⟨F, 1, none⟩ = some (.int .i64 x.of) ∧ W.cell? ⟨F, 2, none⟩ = some (.int .i64 x.op) ∧ W.cell? ⟨F, 3, none⟩ = some (.int .i64 x.cl) ∧ W.cell? ⟨F, 4, none⟩ = some (.string x.cs) ∧ W.cell? ⟨F, 5, none⟩ = some (.string x.ti) ∧ W.cell? ⟨F, 6, none⟩ = some (.int .i64 x.pt) ∧ W.cell? ⟨F, 7, none⟩ = some (.slice x.p x.ns.length x.c) ∧ (F < u.heap.size ∧ Below u.heap.size u W)
theorem SG.go {u : World} {F : Nat} {x : Fl} {W w' : World} (h : SG u F x W) (hb : Below W.heap.size W w') : SG u F x w' := by
  obtain ⟨a0, a1, a2, a3, a4, a5, a6, a7, lf, g⟩ := h
  have lf' := Nat.lt_of_lt_of_le lf g.size
  exact ⟨(hb.cell (p := ⟨F, 0, none⟩) lf').trans a0, (hb.cell (p := ⟨F, 1, none⟩) lf').trans a1, (hb.cell (p := ⟨F, 2, none⟩) lf').trans a2, (hb.cell (p := ⟨F, 3, none⟩) lf').trans a3, (hb.cell (p := ⟨F, 4, none⟩) lf').trans a4, (hb.cell (p := ⟨F, 5, none⟩) lf').trans a5, (hb.cell (p := ⟨F, 6, none⟩) lf').trans a6, (hb.cell (p := ⟨F, 7, none⟩) lf').trans a7, lf, g.trans (hb.mono g.size)⟩
theorem SG.al {u : World} {F : Nat} {x : Fl} {W : World} (h : SG u F x W) (o : Obj) : SG u F x (W.alloc o) := h.go ((Below.refl _ W).alloc (Nat.le_refl _) o)
theorem SG.set {u : World} {F : Nat} {x : Fl} {W : World} (h : SG u F x W) {B : Nat} (hB : u.heap.size ≤ B) (i : Nat) (v : Value) : SG u F x (W.setCell ⟨B, i, none⟩ v) := by
  obtain ⟨a0, a1, a2, a3, a4, a5, a6, a7, lf, g⟩ := h
  have ne : ∀ j, (⟨B, i, none⟩ : Addr) ≠ ⟨F, j, none⟩ := fun j e => by injection e with e1; omega
  exact ⟨(World.cell?_setCell_other _ _ _ _ (ne 0)).trans a0, (World.cell?_setCell_other _ _ _ _ (ne 1)).trans a1, (World.cell?_setCell_other _ _ _ _ (ne 2)).trans a2, (World.cell?_setCell_other _ _ _ _ (ne 3)).trans a3, (World.cell?_setCell_other _ _ _ _ (ne 4)).trans a4, (World.cell?_setCell_other _ _ _ _ (ne 5)).trans a5, (World.cell?_setCell_other _ _ _ _ (ne 6)).trans a6, (World.cell?_setCell_other _ _ _ _ (ne 7)).trans a7, lf, g.setCell (p := ⟨B, i, none⟩) hB v⟩
theorem SG.bel {u : World} {F : Nat} {x : Fl} {W : World} (h : SG u F x W) : Below u.heap.size u W := h.2.2.2.2.2.2.2.2.2
theorem SG.call {u : World} {F : Nat} {x : Fl} {W : World} {fn : FuncId} {args : Array Value} {Q : Ending → World → Prop} (hS : SG u F x W) (h : Calls Tryz.prog fn args W Q) (hQ : ∀ e w', Q e w' → Below W.heap.size W w') : Calls Tryz.prog fn args W fun e w' => Q e w' ∧ SG u F x w' :=
  h.mono fun e w' q => ⟨q, hS.go (hQ e w' q)⟩
structure Bx1 (w : World) (B : Nat) (v : Value) : Prop where
  blk : w.heap[B]? = some (.cells #[v] 22 (0, 0))
theorem Bx1.lt {w : World} {B : Nat} {v : Value} (h : Bx1 w B v) : B < w.heap.size := (Array.getElem?_eq_some_iff.1 h.blk).1
theorem Bx1.c0 {w : World} {B : Nat} {v : Value} (h : Bx1 w B v) : w.cell? ⟨B, 0, none⟩ = some v := by simp [World.cell?, h.blk]
theorem Bx1.fz {w : World} {B : Nat} {v : Value} (h : Bx1 w B v) : w.frozen? ⟨B, 0, none⟩ = false := frozen_of_row w B 0 _ _ h.blk
theorem Bx1.below {w w' : World} {B : Nat} {v : Value} (h : Bx1 w B v) (hb : Below w.heap.size w w') : Bx1 w' B v := ⟨(hb.block B h.lt).trans h.blk⟩
theorem Bx1.new (w : World) (v : Value) : Bx1 (w.alloc (.cells #[v] 22)) w.heap.size v := ⟨heap_alloc_new w _⟩
theorem setS {w : World} {B : Nat} {v : Value} (h : w.cell? ⟨B, 0, none⟩ = some v) (u : Value) : (w.setCell ⟨B, 0, none⟩ u).cell? ⟨B, 0, none⟩ = some u := by
  exact World.cell?_setCell_same _ _ _ h
theorem knS {f : FuncId} {args : Array Value} {V : World} {L : List Nt} (h : Calls Tryz.prog f args V fun e w' => ∃ u, e = .returned u ∧ IsNtF w' V.heap.size u L ∧ Below V.heap.size V w') :
    Calls Tryz.prog f args V fun e w' => ∃ q k, e = .returned (.slice q L.length k) ∧ IsNtF w' V.heap.size (.slice q L.length k) L ∧ Below V.heap.size V w' :=
  h.mono fun e w' ⟨u, he, hu, hb⟩ => by
    obtain ⟨q, k, rfl, h2, h3⟩ := hu
    exact ⟨q, k, he, ⟨q, k, rfl, h2, h3⟩, hb⟩
/-- On a later day at least as much is known, and what is known ends later. -/
theorem note_mono {ns : List Nt} {s : ByteArray} {d e f l f2 l2 : Int} {o o2 : Bool} (hde : d ≤ e) (h : noteT (ns.filter (fitN s d)) = ((f, l), o)) (g : noteT (ns.filter (fitN s e)) = ((f2, l2), o2)) (ho : o = true) : o2 = true ∧ l ≤ l2 := by
  obtain ⟨_, h2, _⟩ := noteT_fit h
  obtain ⟨g1, _, _⟩ := noteT_fit g
  rw [ho, List.any_eq_true] at h2
  obtain ⟨x, hx, hp⟩ := h2
  rw [Bool.and_eq_true] at hp
  have hl := (of_decide_eq_true hp.2).2
  have ft : fitN s e x = true := by
    have := hp.1
    unfold fitN at this ⊢
    rw [Bool.and_eq_true] at this ⊢
    exact ⟨this.1, decide_eq_true (by have := of_decide_eq_true this.2; omega)⟩
  have := g1 x hx ft
  exact ⟨this.1, by omega⟩
theorem hap_mono {a d e f l f2 l2 : Int} {o o2 : Bool} (hde : d ≤ e) (h : hap a d = ((f, l), o)) (g : hap a e = ((f2, l2), o2)) (ho : o = true) : o2 = true ∧ l ≤ l2 := by
  unfold hap at h g
  by_cases h1 : d < a
  · rw [if_pos h1] at h; injection h with _ h; rw [ho] at h; cases h
  · rw [if_neg h1] at h
    rw [if_neg (by omega)] at g
    injection h with h _
    injection h with _ h
    injection g with g g2
    injection g with _ g
    exact ⟨g2.symm, by omega⟩
theorem trg_mono {x : Fl} {s : ByteArray} {d e f l f2 l2 : Int} {o o2 : Bool} (hde : d ≤ e) (h : trg x s d = ((f, l), o)) (g : trg x s e = ((f2, l2), o2)) (ho : o = true) : o2 = true ∧ l ≤ l2 := by
  unfold trg at h g
  by_cases c1 : (s.toList == [111, 112, 101, 110, 101, 100]) = true
  · rw [if_pos c1] at h g; exact hap_mono hde h g ho
  · rw [if_neg c1] at h g
    by_cases c2 : (s.toList == [99, 108, 111, 115, 101, 100]) = true
    · rw [if_pos c2] at h g; exact hap_mono hde h g ho
    · rw [if_neg c2] at h g; exact note_mono hde h g ho
theorem st_mono (x : Fl) {d e : Int} (h : d ≤ e) : stZ x d ≤ stZ x e := by
  unfold stZ
  repeat' split
  all_goals omega
theorem known_sub {ns : List Nt} {d e : Int} (h : d ≤ e) : ∀ x ∈ ns.filter (fun n => decide (n.r ≤ d)), x ∈ ns.filter (fun n => decide (n.r ≤ e)) := fun x hx => by
  obtain ⟨h1, h2⟩ := List.mem_filter.1 hx
  exact List.mem_filter.2 ⟨h1, decide_eq_true (by have := of_decide_eq_true h2; omega)⟩
theorem known_len (ns : List Nt) {d e : Int} (h : d ≤ e) : (ns.filter (fun n => decide (n.r ≤ d))).length ≤ (ns.filter (fun n => decide (n.r ≤ e))).length := by
  induction ns with
  | nil => simp
  | cons a t ih =>
    rw [List.filter_cons, List.filter_cons]
    by_cases h1 : a.r ≤ d
    · rw [if_pos (decide_eq_true h1), if_pos (decide_eq_true (by omega))]
      simpa using ih
    · rw [if_neg (by simpa using h1)]
      split
      · simp only [List.length_cons]; omega
      · exact ih
set_option maxRecDepth 100000 in
set_option maxHeartbeats 16000000 in
theorem law_learns (x : Fl) (s : ByteArray) (d : Int) (m : Int) (hm0 : 0 ≤ m) (hm1 : m ≤ 65535) (w : World) (hw : Lw w) (hv : IsNt w x.nv x.ns) :
    Calls Tryz.prog 4 #[fVal x, .string s, .int .i64 d, .int .u16 m] w fun e w' => e = .returned (.bool true) ∧ Below w.heap.size w w' := by
  have X1 := FAt.new w x
  have B1 := (Below.refl w.heap.size w).alloc (Nat.le_refl _) (.cells #[.int .i64 x.id, .int .i64 x.of, .int .i64 x.op, .int .i64 x.cl, .string x.cs, .string x.ti, .int .i64 x.pt, x.nv] 24)
  obtain ⟨w1, hw1⟩ : ∃ w1, w1 = w.alloc (.cells #[.int .i64 x.id, .int .i64 x.of, .int .i64 x.op, .int .i64 x.cl, .string x.cs, .string x.ti, .int .i64 x.pt, x.nv] 24) := ⟨_, rfl⟩
  rw [← hw1] at X1 B1
  have AW := Lib.hid (awake_any w1 (hw.below B1 hw.n0))
  have HF := Lib.hid (fun V (hV : Below w1.heap.size w1 V) => X1.below hV)
  have HV := Lib.hid (fun V (hV : Below w1.heap.size w1 V) => (hv.below B1).below hV)
  have FW := Lib.hid (fun (V : World) (hV : Below w1.heap.size w1 V) => few1_any x V.heap.size _ (FAt.new V x) (((hv.below B1).below hV).below ((Below.refl V.heap.size V).alloc (Nat.le_refl _) _)))
  have TG := Lib.hid (fun (V : World) (t : Int) (hV : Below w1.heap.size w1 V) (hn : x.ns.length ≤ 20) => Trigger_any x s t V ((hv.below B1).below hV) (by omega))
  have KN := Lib.hid (fun (V : World) (t : Int) (hV : Below w1.heap.size w1 V) (hn : x.ns.length ≤ 20) => KnownF_any x t V ((hv.below B1).below hV) (by omega))
  have ST := Lib.hid (fun (V : World) (t : Int) => State_any x t V)
  have BA := Lib.hid B1
  have HW := Lib.hid hw1
  obtain ⟨r, hr⟩ : ∃ r, r = trg x s d := ⟨_, rfl⟩
  obtain ⟨r2, hr2⟩ : ∃ r2, r2 = trg x s (d + m) := ⟨_, rfl⟩
  have MON := Lib.hid (show ∀ f l f2 l2 o o2, r = ((f, l), o) → r2 = ((f2, l2), o2) → o = true → o2 = true ∧ l ≤ l2 from fun f l f2 l2 o o2 h g => trg_mono (by omega) (hr.symm.trans h) (hr2.symm.trans g))
  have TG1 := Lib.hid (fun V => TG.out V d)
  have TG2 := Lib.hid (fun V => TG.out V (d + m))
  rw [← hr] at TG1
  rw [← hr2] at TG2
  obtain ⟨z1, hz1⟩ : ∃ z1, z1 = stZ x d := ⟨_, rfl⟩
  obtain ⟨z2, hz2⟩ : ∃ z2, z2 = stZ x (d + m) := ⟨_, rfl⟩
  have ZZ := Lib.hid (show z1 ≤ z2 by rw [hz1, hz2]; exact st_mono x (by omega))
  have ST1 := Lib.hid (fun V => ST.out V d)
  have ST2 := Lib.hid (fun V => ST.out V (d + m))
  rw [← hz1] at ST1
  rw [← hz2] at ST2
  clear TG ST hz1 hz2
  clear X1 B1 hw1 hw hv hr hr2
  obtain ⟨id, of, op, cl, cs, ti, pt, ns, p, c⟩ := x
  replace HW : Hid (w1 = w.alloc (.cells #[.int .i64 id, .int .i64 of, .int .i64 op, .int .i64 cl, .string cs, .string ti, .int .i64 pt, .slice p ns.length c] 24)) := HW
  replace FW : Hid (∀ (V : World), Below w1.heap.size w1 V → Calls Tryz.prog 7 #[.slice (some ⟨V.heap.size, 0, none⟩) 1 1] (V.alloc (.cells #[.int .i64 id, .int .i64 of, .int .i64 op, .int .i64 cl, .string cs, .string ti, .int .i64 pt, .slice p ns.length c] 24)) (FewZ ns.length (V.alloc (.cells #[.int .i64 id, .int .i64 of, .int .i64 op, .int .i64 cl, .string cs, .string ti, .int .i64 pt, .slice p ns.length c] 24)))) := FW
  replace TG1 : Hid (∀ (V : World), Below w1.heap.size w1 V → ns.length ≤ 20 → Calls Tryz.prog 8 #[.agg #[.int .i64 id, .int .i64 of, .int .i64 op, .int .i64 cl, .string cs, .string ti, .int .i64 pt, .slice p ns.length c], .string s, .int .i64 d] V fun e w' => e = .returned (dv r) ∧ Below V.heap.size V w') := TG1
  replace TG2 : Hid (∀ (V : World), Below w1.heap.size w1 V → ns.length ≤ 20 → Calls Tryz.prog 8 #[.agg #[.int .i64 id, .int .i64 of, .int .i64 op, .int .i64 cl, .string cs, .string ti, .int .i64 pt, .slice p ns.length c], .string s, .int .i64 (d + m)] V fun e w' => e = .returned (dv r2) ∧ Below V.heap.size V w') := TG2
  replace KN : Hid (∀ (V : World) (t : Int), Below w1.heap.size w1 V → ns.length ≤ 20 → Calls Tryz.prog 11 #[.agg #[.int .i64 id, .int .i64 of, .int .i64 op, .int .i64 cl, .string cs, .string ti, .int .i64 pt, .slice p ns.length c], .int .i64 t] V fun e w' => ∃ u, e = .returned u ∧ IsNtF w' V.heap.size u (ns.filter fun n => decide (n.r ≤ t)) ∧ Below V.heap.size V w') := KN
  replace ST1 : Hid (∀ (V : World), Calls Tryz.prog 13 #[.agg #[.int .i64 id, .int .i64 of, .int .i64 op, .int .i64 cl, .string cs, .string ti, .int .i64 pt, .slice p ns.length c], .int .i64 d] V fun e w' => e = .returned (.int .i64 z1) ∧ Below V.heap.size V w') := ST1
  replace ST2 : Hid (∀ (V : World), Calls Tryz.prog 13 #[.agg #[.int .i64 id, .int .i64 of, .int .i64 op, .int .i64 cl, .string cs, .string ti, .int .i64 pt, .slice p ns.length c], .int .i64 (d + m)] V fun e w' => e = .returned (.int .i64 z2) ∧ Below V.heap.size V w') := ST2
  show Calls Tryz.prog 4 #[.agg #[.int .i64 id, .int .i64 of, .int .i64 op, .int .i64 cl, .string cs, .string ti, .int .i64 pt, .slice p ns.length c], .string s, .int .i64 d, .int .u16 m] w fun e w' => e = .returned (.bool true) ∧ Below w.heap.size w w'
  go_enter Tryz.func4, Tryz.ntmps4
  go_upto_region 1 with (fail)
  have hw := HW.out
  rw [← hw]
  clear hw HW
  go_wp2_with fail
  refine AW.out.mono ?_
  rintro e w2 ⟨rfl, b2⟩
  have A2 := Lib.hid b2
  obtain ⟨_, x0, x1, x2, x3, x4, x5, x6, x7⟩ := HF.out w2 b2
  replace x0 : w2.cell? ⟨w.heap.size, 0, none⟩ = some (.int .i64 id) := x0
  replace x1 : w2.cell? ⟨w.heap.size, 1, none⟩ = some (.int .i64 of) := x1
  replace x2 : w2.cell? ⟨w.heap.size, 2, none⟩ = some (.int .i64 op) := x2
  replace x3 : w2.cell? ⟨w.heap.size, 3, none⟩ = some (.int .i64 cl) := x3
  replace x4 : w2.cell? ⟨w.heap.size, 4, none⟩ = some (.string cs) := x4
  replace x5 : w2.cell? ⟨w.heap.size, 5, none⟩ = some (.string ti) := x5
  replace x6 : w2.cell? ⟨w.heap.size, 6, none⟩ = some (.int .i64 pt) := x6
  replace x7 : w2.cell? ⟨w.heap.size, 7, none⟩ = some (.slice p ns.length c) := x7
  have F2 := Lib.hid (FW.out w2 b2)
  have A3 := Lib.hid (b2.alloc b2.size (.cells #[.int .i64 id, .int .i64 of, .int .i64 op, .int .i64 cl, .string cs, .string ti, .int .i64 pt, .slice p ns.length c] 24))
  clear b2 AW FW
  go_wp2_with fail
  refine F2.out.mono ?_
  rintro e w4 ⟨z, rfl, hz, b4⟩
  have A4 := Lib.hid (A3.out.trans (b4.mono A3.out.size))
  have B4 := Lib.hid (BA.out.trans (A4.out.mono BA.out.size))
  clear b4 F2 x0 x1 x2 x3 x4 x5 x6 x7
  cases z with
  | false =>
    clear hz
    go_wp2_with fail
    go_ret
    exact ⟨rfl, B4.out⟩
  | true =>
  by_cases h1 : 1048575 < d
  · have G1 : decide (1048575 < d) = true := decide_eq_true h1
    clear hz h1
    go_wp2_with fail
    go_ret
    exact ⟨rfl, B4.out⟩
  have G1 : decide (1048575 < d) = false := decide_eq_false h1
  by_cases h2 : d < -1048575
  · have G2 : decide (d < -1048575) = true := decide_eq_true h2
    clear hz h1 h2
    go_wp2_with fail
    go_ret
    exact ⟨rfl, B4.out⟩
  have G2 : decide (d < -1048575) = false := decide_eq_false h2
  have LEN := Lib.hid (hz rfl)
  have wm : IntKind.i64.wrap m = m := IntWalk.i64_in _ ⟨by omega, by omega⟩
  have wd : IntKind.i64.wrap (d + m) = d + m := IntWalk.i64_in _ ⟨by omega, by omega⟩
  have HM := Lib.hid hm0
  obtain ⟨lf, x0, x1, x2, x3, x4, x5, x6, x7⟩ := HF.out w4 A4.out
  have S0 := Lib.hid (show SG w4 w.heap.size ⟨id, of, op, cl, cs, ti, pt, ns, p, c⟩ w4.drew from ⟨x0, x1, x2, x3, x4, x5, x6, x7, lf, (Below.refl _ _).drew⟩)
  have KN2 := Lib.hid (fun (V : World) (t : Int) (h : SG w4 w.heap.size ⟨id, of, op, cl, cs, ti, pt, ns, p, c⟩ V) => SG.call h (knS (KN.out V t (A4.out.trans (h.bel.mono A4.out.size)) LEN.out)) (fun _ _ ⟨_, _, _, _, q⟩ => q))
  obtain ⟨FL, hFL⟩ : ∃ FL : Int → List Nt, FL = fun t => ns.filter (fun n => decide (n.r ≤ t)) := ⟨_, rfl⟩
  have KN3 := Lib.hid (show ∀ (V : World) (t : Int) (h : SG w4 w.heap.size ⟨id, of, op, cl, cs, ti, pt, ns, p, c⟩ V), Calls Tryz.prog 11 #[.agg #[.int .i64 id, .int .i64 of, .int .i64 op, .int .i64 cl, .string cs, .string ti, .int .i64 pt, .slice p ns.length c], .int .i64 t] V fun e w' => (∃ q k, e = .returned (.slice q (FL t).length k) ∧ IsNtF w' V.heap.size (.slice q (FL t).length k) (FL t) ∧ Below V.heap.size V w') ∧ SG w4 w.heap.size ⟨id, of, op, cl, cs, ti, pt, ns, p, c⟩ w' by rw [hFL]; exact KN2.out)
  have HFL := Lib.hid hFL
  obtain ⟨d2, hd2⟩ : ∃ d2, d2 = d + m := ⟨_, rfl⟩
  have HD2 := Lib.hid hd2
  clear hz h1 h2 lf x0 x1 x2 x3 x4 x5 x6 x7 KN hFL KN2
  go_upto_region 6 with (fail)
  rw [← hd2]
  clear G1 G2 wm wd hm1 hd2
  have hS0 := S0.out
  go_cut [10, 11] (fun s10 s11 wx => ∃ (q1 q2 : Option Addr) (k1 k2 Z : Nat), s10 = .slice q1 (FL d).length k1 ∧ s11 = .pointer (some ⟨Z, 0, none⟩) ∧ Hid (wx.cell? ⟨Z, 0, none⟩ = some (.slice q2 (FL d2).length k2) ∧ IsNt wx (.slice q1 (FL d).length k1) (FL d) ∧ IsNt wx (.slice q2 (FL d2).length k2) (FL d2) ∧ SG w4 w.heap.size ⟨id, of, op, cl, cs, ti, pt, ns, p, c⟩ wx))
  case first =>
    go_region_held3 (fun W => W.cell? ⟨w.heap.size, 0, none⟩ = some (.int .i64 id) ∧ W.cell? ⟨w.heap.size, 1, none⟩ = some (.int .i64 of) ∧ W.cell? ⟨w.heap.size, 2, none⟩ = some (.int .i64 op) ∧ W.cell? ⟨w.heap.size, 3, none⟩ = some (.int .i64 cl) ∧ W.cell? ⟨w.heap.size, 4, none⟩ = some (.string cs) ∧ W.cell? ⟨w.heap.size, 5, none⟩ = some (.string ti) ∧ W.cell? ⟨w.heap.size, 6, none⟩ = some (.int .i64 pt) ∧ W.cell? ⟨w.heap.size, 7, none⟩ = some (.slice p ns.length c) ∧ (w.heap.size < w4.heap.size ∧ Below w4.heap.size w4 W))
      (first | assumption | exact hS0 | exact SG.al (x := ⟨id, of, op, cl, cs, ti, pt, ns, p, c⟩) (by assumption) _ | exact SG.set (x := ⟨id, of, op, cl, cs, ti, pt, ns, p, c⟩) (by assumption) (by first | exact Nat.le_refl _ | exact (SG.bel (x := ⟨id, of, op, cl, cs, ti, pt, ns, p, c⟩) (by assumption)).size) _ _)
      ((go_at_call 11; refine (KN3.out _ _ (by assumption)).mono ?_; rintro e w9 ⟨⟨u, ku, rfl, hu, hb9⟩, hS9⟩; (first | (with_reducible (have zz := Bx1.below (Bx1.new _ (.slice none 0 0)) hb9)) | (with_reducible (have zz := Bx1.below (Bx1.below (Bx1.new _ (.slice none 0 0)) (Below.refl _ _).drew) hb9)) | (have zz := Bx1.below (by assumption) hb9) | skip); (first | (have zc := zz.c0; have zf := zz.fz) | skip); (first | (have hu2 : IsNtF w9 _ (.slice u (FL d2).length ku) (FL d2) := hu; have hb2 := hb9; have hS2 := hS9) | (have hu1 : IsNtF w9 _ (.slice u (FL d).length ku) (FL d) := hu; have hb1 := hb9; have hS1 := hS9))))
    · go_wp2_with fail
      go_meet
      case rel =>
        have A := (Below.refl w9.heap.size w9).alloc (Nat.le_refl _) (.cells #[.slice u (FL d2).length ku] 22)
        exact ⟨_, _, _, _, _, rfl, rfl, ⟨nCell w9 _ _ 0, (hu1.isNt.below hb2).below A, hu2.isNt.below A, SG.al (x := ⟨id, of, op, cl, cs, ti, pt, ns, p, c⟩) hS2 _⟩⟩
    · go_wp2_with fail
      go_meet
      case rel =>
        have A := hb2.size
        have hB := (SG.bel (x := ⟨id, of, op, cl, cs, ti, pt, ns, p, c⟩) hS1).size
        rw [World.size_alloc] at A hu2
        have B2 := ((Below.refl _ _).alloc (Nat.le_refl _) (.cells #[.slice none 0 0] 22)).trans (hb2.mono (by simp))
        exact ⟨_, _, _, _, _, rfl, rfl, ⟨setS zz.c0 _, hu1.isNt.below (B2.setCell (p := ⟨_, 0, none⟩) (Nat.le_refl _) _), (hu2.set (Nat.lt_succ_self _)).isNt, SG.set (x := ⟨id, of, op, cl, cs, ti, pt, ns, p, c⟩) hS2 hB 0 _⟩⟩
    · go_wp2_with fail
      go_meet
      case rel =>
        have A := hb1.size
        have E : (w4.alloc (.cells #[.slice none 0 0] 22)).drew.heap.size = w4.heap.size + 1 := World.size_alloc _ _
        rw [E] at A hu1
        exact ⟨_, _, _, _, _, rfl, rfl, ⟨setS zz.c0 _, ((hu1.below hb2).set (Nat.lt_succ_self _)).isNt, (hu2.set (by omega)).isNt, SG.set (x := ⟨id, of, op, cl, cs, ti, pt, ns, p, c⟩) hS2 (Nat.le_refl _) 0 _⟩⟩
  case rest =>
    obtain ⟨q1, q2, k1, k2, Z, rfl, rfl, hc⟩ := hcut
    obtain ⟨hz, i1, i2, sg⟩ := hc.out
    have lz := nLt hz
    have HDE := Lib.hid (show d ≤ d2 by have := HD2.out; have := HM.out; omega)
    have L1 := Lib.hid (show (FL d).length ≤ 1000 by rw [HFL.out]; exact Nat.le_trans (List.length_filter_le _ _) (by have := LEN.out; omega))
    have L2 := Lib.hid (show (FL d2).length ≤ ns.length by rw [HFL.out]; exact List.length_filter_le _ _)
    have L3 := Lib.hid (show (FL d).length ≤ (FL d2).length by rw [HFL.out]; exact known_len ns HDE.out)
    have CF := Lib.hid (containsNF_any 16 #[.pointer (some ⟨Z, 0, none⟩)] (enters_of Tryz.func16 (by kernel_rfl) rfl) (fun _ => false) (.slice q1 (FL d).length k1) (FL d) _ i1 L1.out
      (fun V x hx hV => learns1_any x Z _ (FL d2) V ((hV.cell (p := ⟨Z, 0, none⟩) lz).trans hz) (i2.below hV) (Nat.le_trans L2.out (by have := LEN.out; omega)) (by have := known_sub (ns := ns) HDE.out; rw [HFL.out] at hx ⊢; exact this x hx)))
    rw [show (FL d).any (fun _ => false) = false by simp] at CF
    have HZ := Lib.hid hz
    have SX := Lib.hid sg
    have LZ := Lib.hid lz
    clear hc hz i1 i2 sg lz hS0 S0 KN3
    obtain ⟨a1, ha1⟩ : ∃ a1, a1 = (FL d).length := ⟨_, rfl⟩
    obtain ⟨a2, ha2⟩ : ∃ a2, a2 = (FL d2).length := ⟨_, rfl⟩
    rw [← ha1] at CF L1 L3
    rw [← ha2] at HZ L2 L3
    rw [← ha1]
    clear ha1 ha2
    go_wp2_with fail
    refine CF.out.mono ?_
    rintro e w10 ⟨rfl, b10⟩
    have S10 := Lib.hid (SG.go (x := ⟨id, of, op, cl, cs, ti, pt, ns, p, c⟩) SX.out b10)
    have z10 : w10.cell? ⟨Z, 0, none⟩ = some (.slice q2 a2 k2) := (b10.cell (p := ⟨Z, 0, none⟩) LZ.out).trans HZ.out
    clear b10 CF SX HZ LZ
    have A10 := Lib.hid (A4.out.trans ((SG.bel (x := ⟨id, of, op, cl, cs, ti, pt, ns, p, c⟩) S10.out).mono A4.out.size))
    obtain ⟨x0, x1, x2, x3, x4, x5, x6, x7, -, -⟩ := S10.out
    replace x0 : w10.cell? ⟨w.heap.size, 0, none⟩ = some (.int .i64 id) := x0
    replace x1 : w10.cell? ⟨w.heap.size, 1, none⟩ = some (.int .i64 of) := x1
    replace x2 : w10.cell? ⟨w.heap.size, 2, none⟩ = some (.int .i64 op) := x2
    replace x3 : w10.cell? ⟨w.heap.size, 3, none⟩ = some (.int .i64 cl) := x3
    replace x4 : w10.cell? ⟨w.heap.size, 4, none⟩ = some (.string cs) := x4
    replace x5 : w10.cell? ⟨w.heap.size, 5, none⟩ = some (.string ti) := x5
    replace x6 : w10.cell? ⟨w.heap.size, 6, none⟩ = some (.int .i64 pt) := x6
    replace x7 : w10.cell? ⟨w.heap.size, 7, none⟩ = some (.slice p ns.length c) := x7
    have D1 : decide ((a2 : Int) < (a1 : Int)) = false := decide_eq_false (by have := L3.out; omega)
    have D1' : decide (a2 < a1) = false := decide_eq_false (by have := L3.out; omega)
    have D2 : decide ((ns.length : Int) < (a2 : Int)) = false := decide_eq_false (by have := L2.out; omega)
    have D2' : decide (ns.length < a2) = false := decide_eq_false (by have := L2.out; omega)
    obtain ⟨⟨f, l⟩, o⟩ := r
    obtain ⟨⟨f2, l2⟩, o2⟩ := r2
    have MO := Lib.hid (MON.out f l f2 l2 o o2 rfl rfl)
    have T1 := Lib.hid (TG1.out w10 A10.out LEN.out)
    replace T1 : Hid (Calls Tryz.prog 8 #[.agg #[.int .i64 id, .int .i64 of, .int .i64 op, .int .i64 cl, .string cs, .string ti, .int .i64 pt, .slice p ns.length c], .string s, .int .i64 d] w10 fun e w' => e = .returned (.tuple #[.agg #[.int .i64 f, .int .i64 l], .bool o]) ∧ Below w10.heap.size w10 w') := T1
    rw [← HD2.out] at TG2 ST2
    replace TG2 : Hid (∀ (V : World), Below w1.heap.size w1 V → ns.length ≤ 20 → Calls Tryz.prog 8 #[.agg #[.int .i64 id, .int .i64 of, .int .i64 op, .int .i64 cl, .string cs, .string ti, .int .i64 pt, .slice p ns.length c], .string s, .int .i64 d2] V fun e w' => e = .returned (.tuple #[.agg #[.int .i64 f2, .int .i64 l2], .bool o2]) ∧ Below V.heap.size V w') := TG2
    clear TG1 MON
    go_wp2_with fail
    refine T1.out.mono ?_
    rintro e w11 ⟨rfl, b11⟩
    clear T1 x0 x1 x2 x3 x4 x5 x6 x7 z10 D1 D1' D2 D2'
    have D6 := Bx2.new w11 f l
    have A56 := (Below.refl w11.heap.size w11).alloc (Nat.le_refl _) (.cells #[.int .i64 f, .int .i64 l] 29)
    have S12 := SG.go (x := ⟨id, of, op, cl, cs, ti, pt, ns, p, c⟩) (SG.go (x := ⟨id, of, op, cl, cs, ti, pt, ns, p, c⟩) S10.out b11) A56
    obtain ⟨w12, hw12⟩ : ∃ w12, w12 = w11.alloc (.cells #[.int .i64 f, .int .i64 l] 29) := ⟨_, rfl⟩
    rw [← hw12] at D6 A56 S12
    obtain ⟨D, hD⟩ : ∃ D, D = w11.heap.size := ⟨_, rfl⟩
    rw [← hD] at D6
    replace S12 := Lib.hid S12
    have A12 := Lib.hid (A4.out.trans ((SG.bel (x := ⟨id, of, op, cl, cs, ti, pt, ns, p, c⟩) S12.out).mono A4.out.size))
    have HD := Lib.hid hD
    have HW12 := Lib.hid hw12
    replace D6 := Lib.hid D6
    have T2 := Lib.hid (TG2.out w12 A12.out LEN.out)
    clear A56 hw12 hD TG2 b11 S10
    obtain ⟨x0, x1, x2, x3, x4, x5, x6, x7, -, -⟩ := S12.out
    replace x0 : w12.cell? ⟨w.heap.size, 0, none⟩ = some (.int .i64 id) := x0
    replace x1 : w12.cell? ⟨w.heap.size, 1, none⟩ = some (.int .i64 of) := x1
    replace x2 : w12.cell? ⟨w.heap.size, 2, none⟩ = some (.int .i64 op) := x2
    replace x3 : w12.cell? ⟨w.heap.size, 3, none⟩ = some (.int .i64 cl) := x3
    replace x4 : w12.cell? ⟨w.heap.size, 4, none⟩ = some (.string cs) := x4
    replace x5 : w12.cell? ⟨w.heap.size, 5, none⟩ = some (.string ti) := x5
    replace x6 : w12.cell? ⟨w.heap.size, 6, none⟩ = some (.int .i64 pt) := x6
    replace x7 : w12.cell? ⟨w.heap.size, 7, none⟩ = some (.slice p ns.length c) := x7
    go_upto_region 10 with (fail)
    have hw12 := HW12.out
    have hD := HD.out
    rw [← hw12, ← hD]
    clear hw12 hD HW12 HD
    go_wp2_with fail
    refine T2.out.mono ?_
    rintro e w13 ⟨rfl, b13⟩
    clear T2 x0 x1 x2 x3 x4 x5 x6 x7
    have E8 := Bx2.new w13 f2 l2
    have A78 := (Below.refl w13.heap.size w13).alloc (Nat.le_refl _) (.cells #[.int .i64 f2, .int .i64 l2] 29)
    have D8 := (D6.out.below b13).below A78
    have S14 := SG.go (x := ⟨id, of, op, cl, cs, ti, pt, ns, p, c⟩) (SG.go (x := ⟨id, of, op, cl, cs, ti, pt, ns, p, c⟩) S12.out b13) A78
    obtain ⟨w14, hw14⟩ : ∃ w14, w14 = w13.alloc (.cells #[.int .i64 f2, .int .i64 l2] 29) := ⟨_, rfl⟩
    rw [← hw14] at E8 A78 D8 S14
    obtain ⟨E, hE⟩ : ∃ E, E = w13.heap.size := ⟨_, rfl⟩
    rw [← hE] at E8
    replace S14 := Lib.hid S14
    have HE := Lib.hid hE
    have HW14 := Lib.hid hw14
    have y1 := D8.c1
    have y2 := E8.c1
    clear A78 hw14 hE b13 S12 D6 D8 E8
    go_upto_region 11 with (fail)
    have hw14 := HW14.out
    have hE := HE.out
    rw [← hw14, ← hE]
    clear hw14 hE HW14 HE
    have CS : o = false ∨ (o = true ∧ o2 = true ∧ decide (l2 < l) = false) := by
      cases o with
      | false => exact Or.inl rfl
      | true => have := MO.out rfl; exact Or.inr ⟨rfl, this.1, decide_eq_false (by omega)⟩
    have S0' := Lib.hid (show SG w4 w.heap.size ⟨id, of, op, cl, cs, ti, pt, ns, p, c⟩ w14.drew from S14.out.go (Below.refl _ _).drew)
    have ST1' := Lib.hid (fun (V : World) (h : SG w4 w.heap.size ⟨id, of, op, cl, cs, ti, pt, ns, p, c⟩ V) => SG.call h (ST1.out V) (fun _ _ ⟨_, q⟩ => q))
    have ST2' := Lib.hid (fun (V : World) (h : SG w4 w.heap.size ⟨id, of, op, cl, cs, ti, pt, ns, p, c⟩ V) => SG.call h (ST2.out V) (fun _ _ ⟨_, q⟩ => q))
    have ZD : decide (z1 ≤ z2) = true := decide_eq_true ZZ.out
    clear ST1 ST2 MO
    rcases CS with rfl | ⟨rfl, rfl, D3⟩
    all_goals
      go_upto_region 13 with (fail)
      clear y1 y2
      have hS0 := S0'.out
      go_region_held3 (fun W => W.cell? ⟨w.heap.size, 0, none⟩ = some (.int .i64 id) ∧ W.cell? ⟨w.heap.size, 1, none⟩ = some (.int .i64 of) ∧ W.cell? ⟨w.heap.size, 2, none⟩ = some (.int .i64 op) ∧ W.cell? ⟨w.heap.size, 3, none⟩ = some (.int .i64 cl) ∧ W.cell? ⟨w.heap.size, 4, none⟩ = some (.string cs) ∧ W.cell? ⟨w.heap.size, 5, none⟩ = some (.string ti) ∧ W.cell? ⟨w.heap.size, 6, none⟩ = some (.int .i64 pt) ∧ W.cell? ⟨w.heap.size, 7, none⟩ = some (.slice p ns.length c) ∧ (w.heap.size < w4.heap.size ∧ Below w4.heap.size w4 W))
        (first | assumption | exact hS0)
        (first
          | (go_at_call 13; with_reducible refine (ST1'.out _ (by assumption)).mono ?_; rintro e w15 ⟨⟨rfl, hb15⟩, hS15⟩; clear hb15)
          | (go_at_call 13; refine (ST2'.out _ (by assumption)).mono ?_; rintro e w16 ⟨⟨rfl, hb16⟩, hS16⟩; clear hb16))
      have BZ := Lib.hid (BA.out.trans ((A4.out.trans ((SG.bel (x := ⟨id, of, op, cl, cs, ti, pt, ns, p, c⟩) hS16).mono A4.out.size)).mono BA.out.size))
      clear hS15 hS16 hS0
      go_wp2_with fail
      go_ret
      exact ⟨rfl, BZ.out⟩
end Go.Proofs.YtfgpmghaebdhpaaGreatDoor
