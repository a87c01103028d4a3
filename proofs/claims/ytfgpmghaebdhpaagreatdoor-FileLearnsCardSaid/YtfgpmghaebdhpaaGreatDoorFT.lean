/- FileLatest. -/
import Derived.Test.YtfgpmghaebdhpaaGreatDoorFS
import Derived.Laws.StructEq
namespace Go.Proofs.YtfgpmghaebdhpaaGreatDoor
open Go.RowKit Go.Maps Go.Shelf

/-- '==' of two datings. -/
theorem eqD (a b c d : Int) (w : World) : (binOp .eql 29 (.agg #[.int .i64 a, .int .i64 b]) (.agg #[.int .i64 c, .int .i64 d])).run Tryz.prog w = .ok (.bool (decide (a = c ∧ b = d))) w := by
  have u3 := Tryz.underlying3
  have a3 := Tryz.isAgg3
  have z3 := Tryz.sizeOf3
  have hS : Tryz.prog.underlying 29 = some (.struct (Tryz.prog.fieldsOf 29)) := by kernel_rfl
  have hp : Tryz.prog.stoodInHeld 29 = false := by kernel_rfl
  rw [run_eql_struct, show (10000 : Nat) = 9999 + 1 from rfl, run_equalIn_agg w 9999 29 _ _ hS hp]
  simp only [Program.fieldsOf, Tryz.underlying29]
  go_simp
  by_cases h1 : a = c <;> by_cases h2 : b = d <;> simp [h1, h2]
theorem eqDg (a b c d : Int) (op : BinOp) (x y : Operand) (w : World) : (eqGuard op 29 x y (.agg #[.int .i64 a, .int .i64 b]) (.agg #[.int .i64 c, .int .i64 d])).run Tryz.prog w = .ok () w :=
  run_eqGuard_agg w op _ x y _ _ (by kernel_rfl)
theorem best_fold (t : List Nt) : ∀ m0 : Nt, (t.foldl (fun m x => if 0 < lateZ x m then x else m) m0 = m0 ∨ t.foldl (fun m x => if 0 < lateZ x m then x else m) m0 ∈ t) ∧ m0.l ≤ (t.foldl (fun m x => if 0 < lateZ x m then x else m) m0).l ∧ ∀ x ∈ t, x.l ≤ (t.foldl (fun m x => if 0 < lateZ x m then x else m) m0).l := by
  induction t with
  | nil => intro m0; exact ⟨Or.inl rfl, Int.le_refl _, fun x h => by cases h⟩
  | cons a t ih =>
    intro m0
    rw [List.foldl_cons]
    by_cases h : 0 < lateZ a m0
    · rw [if_pos h]
      obtain ⟨h1, h2, h3⟩ := ih a
      have := (late_pos a m0).1 h
      refine ⟨?_, by omega, fun x hx => ?_⟩
      · rcases h1 with h1 | h1
        · rw [h1]; exact Or.inr (List.mem_cons_self ..)
        · exact Or.inr (List.mem_cons_of_mem _ h1)
      · rcases List.mem_cons.1 hx with rfl | hx
        · exact h2
        · exact h3 x hx
    · rw [if_neg h]
      obtain ⟨h1, h2, h3⟩ := ih m0
      have : ¬ (m0.l < a.l) := fun g => h ((late_pos a m0).2 (Or.inl g))
      refine ⟨?_, h2, fun x hx => ?_⟩
      · rcases h1 with h1 | h1
        · exact Or.inl h1
        · exact Or.inr (List.mem_cons_of_mem _ h1)
      · rcases List.mem_cons.1 hx with rfl | hx
        · omega
        · exact h3 x hx
theorem bestL_mem {L : List Nt} (h : L ≠ []) : bestL L ∈ L := by
  cases L with
  | nil => exact absurd rfl h
  | cons a t =>
    rcases (best_fold t a).1 with e | e
    · show List.foldl _ a t ∈ _
      rw [e]; exact List.mem_cons_self ..
    · exact List.mem_cons_of_mem _ e
theorem bestL_ge {L : List Nt} {x : Nt} (h : x ∈ L) : x.l ≤ (bestL L).l := by
  cases L with
  | nil => cases h
  | cons a t =>
    rcases List.mem_cons.1 h with rfl | h
    · exact (best_fold t x).2.1
    · exact (best_fold t a).2.2 x h
/-- What FileLatest asks of a trigger that is none of the two names. -/
theorem noteT_fit {ns : List Nt} {s : ByteArray} {d f l : Int} {o : Bool} (h : noteT (ns.filter (fitN s d)) = ((f, l), o)) :
    (∀ x ∈ ns, fitN s d x = true → o = true ∧ x.l ≤ l) ∧ (ns.any (fun x => fitN s d x && decide (x.f = f ∧ x.l = l)) = o) ∧ (o = false → f = 0 ∧ l = 0) := by
  by_cases e : ns.filter (fitN s d) = []
  · unfold noteT at h
    rw [if_pos e] at h
    injection h with h1 h2
    injection h1 with h3 h4
    subst h2 h3 h4
    have no : ∀ x ∈ ns, fitN s d x = false := fun x hx => by
      cases g : fitN s d x with
      | false => rfl
      | true =>
        have : x ∈ ns.filter (fitN s d) := List.mem_filter.2 ⟨hx, g⟩
        rw [e] at this
        cases this
    refine ⟨fun x hx g => (by rw [no x hx] at g; cases g), ?_, fun _ => ⟨rfl, rfl⟩⟩
    rw [List.any_eq_false]
    intro x hx
    rw [no x hx]
    simp
  · unfold noteT at h
    rw [if_neg e] at h
    injection h with h1 h2
    injection h1 with h3 h4
    subst h2 h3 h4
    refine ⟨fun x hx g => ⟨rfl, bestL_ge (List.mem_filter.2 ⟨hx, g⟩)⟩, ?_, fun h => by cases h⟩
    rw [List.any_eq_true]
    obtain ⟨h1, h2⟩ := List.mem_filter.1 (bestL_mem e)
    exact ⟨_, h1, by rw [h2]; simp⟩
theorem fVal_eq (x : Fl) : x.val = fVal x := rfl
set_option maxRecDepth 100000 in
set_option maxHeartbeats 16000000 in
theorem law_latest (x : Fl) (s : ByteArray) (d : Int) (w : World) (hw : Lw w) (hv : IsNt w x.nv x.ns) :
    Calls Tryz.prog 5 #[fVal x, .string s, .int .i64 d] w fun e w' => e = .returned (.bool true) ∧ Below w.heap.size w w' := by
  have X1 := FAt.new w x
  have B1 := (Below.refl w.heap.size w).alloc (Nat.le_refl _) (.cells #[.int .i64 x.id, .int .i64 x.of, .int .i64 x.op, .int .i64 x.cl, .string x.cs, .string x.ti, .int .i64 x.pt, x.nv] 24)
  obtain ⟨w1, hw1⟩ : ∃ w1, w1 = w.alloc (.cells #[.int .i64 x.id, .int .i64 x.of, .int .i64 x.op, .int .i64 x.cl, .string x.cs, .string x.ti, .int .i64 x.pt, x.nv] 24) := ⟨_, rfl⟩
  rw [← hw1] at X1 B1
  have AW := Lib.hid (awake_any w1 (hw.below B1 hw.n0))
  have HF := Lib.hid (fun V (hV : Below w1.heap.size w1 V) => X1.below hV)
  have HV := Lib.hid (fun V (hV : Below w1.heap.size w1 V) => (hv.below B1).below hV)
  have FW := Lib.hid (fun (V : World) (hV : Below w1.heap.size w1 V) => few1_any x V.heap.size _ (FAt.new V x) (((hv.below B1).below hV).below ((Below.refl V.heap.size V).alloc (Nat.le_refl _) _)))
  have TG := Lib.hid (fun (V : World) (hV : Below w1.heap.size w1 V) (hn : x.ns.length ≤ 20) => Trigger_any x s d V ((hv.below B1).below hV) (by omega))
  have TE := Lib.hid (show ∀ (h1 : (s.toList == [111, 112, 101, 110, 101, 100]) = false) (h2 : (s.toList == [99, 108, 111, 115, 101, 100]) = false), trg x s d = noteT (x.ns.filter (fitN s d)) from fun h1 h2 => by unfold trg; rw [h1, h2]; rfl)
  have BA := Lib.hid B1
  have HW := Lib.hid hw1
  obtain ⟨r, hr⟩ : ∃ r, r = trg x s d := ⟨_, rfl⟩
  rw [← hr] at TG TE
  clear X1 B1 hw1 hw hv hr
  obtain ⟨id, of, op, cl, cs, ti, pt, ns, p, c⟩ := x
  replace HW : Hid (w1 = w.alloc (.cells #[.int .i64 id, .int .i64 of, .int .i64 op, .int .i64 cl, .string cs, .string ti, .int .i64 pt, .slice p ns.length c] 24)) := HW
  replace FW : Hid (∀ (V : World), Below w1.heap.size w1 V → Calls Tryz.prog 7 #[.slice (some ⟨V.heap.size, 0, none⟩) 1 1] (V.alloc (.cells #[.int .i64 id, .int .i64 of, .int .i64 op, .int .i64 cl, .string cs, .string ti, .int .i64 pt, .slice p ns.length c] 24)) (FewZ ns.length (V.alloc (.cells #[.int .i64 id, .int .i64 of, .int .i64 op, .int .i64 cl, .string cs, .string ti, .int .i64 pt, .slice p ns.length c] 24)))) := FW
  replace TG : Hid (∀ (V : World), Below w1.heap.size w1 V → ns.length ≤ 20 → Calls Tryz.prog 8 #[.agg #[.int .i64 id, .int .i64 of, .int .i64 op, .int .i64 cl, .string cs, .string ti, .int .i64 pt, .slice p ns.length c], .string s, .int .i64 d] V fun e w' => e = .returned (dv r) ∧ Below V.heap.size V w') := TG
  show Calls Tryz.prog 5 #[.agg #[.int .i64 id, .int .i64 of, .int .i64 op, .int .i64 cl, .string cs, .string ti, .int .i64 pt, .slice p ns.length c], .string s, .int .i64 d] w fun e w' => e = .returned (.bool true) ∧ Below w.heap.size w w'
  go_enter Tryz.func5, Tryz.ntmps5
  go_upto_region 1 with (fail)
  have hw := HW.out
  rw [← hw]
  clear hw HW
  go_wp2_with fail
  refine AW.out.mono ?_
  rintro e w2 ⟨rfl, b2⟩
  have A2 := Lib.hid b2
  obtain ⟨_, x0, x1, x2, x3, x4, x5, x6, x7⟩ := HF.out w2 b2
  replace x0 : w2.cell? ⟨w.heap.size, 0, none⟩ = some (.int .i64 id) := x0
  replace x1 : w2.cell? ⟨w.heap.size, 1, none⟩ = some (.int .i64 of) := x1
  replace x2 : w2.cell? ⟨w.heap.size, 2, none⟩ = some (.int .i64 op) := x2
  replace x3 : w2.cell? ⟨w.heap.size, 3, none⟩ = some (.int .i64 cl) := x3
  replace x4 : w2.cell? ⟨w.heap.size, 4, none⟩ = some (.string cs) := x4
  replace x5 : w2.cell? ⟨w.heap.size, 5, none⟩ = some (.string ti) := x5
  replace x6 : w2.cell? ⟨w.heap.size, 6, none⟩ = some (.int .i64 pt) := x6
  replace x7 : w2.cell? ⟨w.heap.size, 7, none⟩ = some (.slice p ns.length c) := x7
  have F2 := Lib.hid (FW.out w2 b2)
  have A3 := Lib.hid (b2.alloc b2.size (.cells #[.int .i64 id, .int .i64 of, .int .i64 op, .int .i64 cl, .string cs, .string ti, .int .i64 pt, .slice p ns.length c] 24))
  clear b2 AW FW
  go_wp2_with fail
  refine F2.out.mono ?_
  rintro e w4 ⟨z, rfl, hz, b4⟩
  have A4 := Lib.hid (A3.out.trans (b4.mono A3.out.size))
  have B4 := Lib.hid (BA.out.trans (A4.out.mono BA.out.size))
  clear b4 F2 x0 x1 x2 x3 x4 x5 x6 x7
  cases z with
  | false =>
    clear hz
    go_wp2_with fail
    go_ret
    exact ⟨rfl, B4.out⟩
  | true =>
  cases h1 : (s.toList == [111, 112, 101, 110, 101, 100]) with
  | true =>
    clear hz
    go_wp2_with fail
    go_ret
    exact ⟨rfl, B4.out⟩
  | false =>
  cases h2 : (s.toList == [99, 108, 111, 115, 101, 100]) with
  | true =>
    clear hz
    go_wp2_with fail
    go_ret
    exact ⟨rfl, B4.out⟩
  | false =>
  have T4 := Lib.hid (TG.out w4 A4.out (hz rfl))
  have TT := Lib.hid (TE.out h1 h2)
  have LEN := Lib.hid (hz rfl)
  clear TG TE
  obtain ⟨⟨f, l⟩, o⟩ := r
  replace T4 : Hid (Calls Tryz.prog 8 #[.agg #[.int .i64 id, .int .i64 of, .int .i64 op, .int .i64 cl, .string cs, .string ti, .int .i64 pt, .slice p ns.length c], .string s, .int .i64 d] w4 fun e w' => e = .returned (.tuple #[.agg #[.int .i64 f, .int .i64 l], .bool o]) ∧ Below w4.heap.size w4 w') := T4
  obtain ⟨q1, q2, q3⟩ := noteT_fit TT.out.symm
  have Q1 := Lib.hid q1
  have Q2 := Lib.hid q2
  have Q3 := Lib.hid q3
  clear q1 q2 q3 TT hz
  obtain ⟨_, x0, x1, x2, x3, x4, x5, x6, x7⟩ := HF.out w4 A4.out
  replace x0 : w4.cell? ⟨w.heap.size, 0, none⟩ = some (.int .i64 id) := x0
  replace x1 : w4.cell? ⟨w.heap.size, 1, none⟩ = some (.int .i64 of) := x1
  replace x2 : w4.cell? ⟨w.heap.size, 2, none⟩ = some (.int .i64 op) := x2
  replace x3 : w4.cell? ⟨w.heap.size, 3, none⟩ = some (.int .i64 cl) := x3
  replace x4 : w4.cell? ⟨w.heap.size, 4, none⟩ = some (.string cs) := x4
  replace x5 : w4.cell? ⟨w.heap.size, 5, none⟩ = some (.string ti) := x5
  replace x6 : w4.cell? ⟨w.heap.size, 6, none⟩ = some (.int .i64 pt) := x6
  replace x7 : w4.cell? ⟨w.heap.size, 7, none⟩ = some (.slice p ns.length c) := x7
  go_wp2_with fail
  refine T4.out.mono ?_
  rintro e w5 ⟨rfl, b5⟩
  have A5 := Lib.hid (A4.out.trans (b5.mono A4.out.size))
  clear b5 T4 x0 x1 x2 x3 x4 x5 x6 x7
  have D6 := Bx2.new w5 f l
  have A6 := A5.out.alloc A5.out.size (.cells #[.int .i64 f, .int .i64 l] 29)
  obtain ⟨w6, hw6⟩ : ∃ w6, w6 = w5.alloc (.cells #[.int .i64 f, .int .i64 l] 29) := ⟨_, rfl⟩
  rw [← hw6] at D6 A6
  obtain ⟨E, hE⟩ : ∃ E, E = w5.heap.size := ⟨_, rfl⟩
  rw [← hE] at D6
  have HE := Lib.hid hE
  have HW6 := Lib.hid hw6
  replace D6 := Lib.hid D6
  have y7 : w6.cell? ⟨w.heap.size, 7, none⟩ = some (.slice p ns.length c) := (HF.out w6 A6).c7
  replace y7 := Lib.hid y7
  obtain ⟨p', c', e', hc, hp⟩ := HV.out w6 A6
  obtain ⟨rfl, -, rfl⟩ := Value.slice.inj (show Value.slice p ns.length c = .slice p' ns.length c' from e')
  replace hp : 0 < ns.length → ∃ g off, p = some ⟨g, off, none⟩ ∧ ∀ (j : Nat) x, ns[j]? = some x → NtAt w6 g (off + j * 4) x := hp
  have HP := Lib.hid hp
  replace A6 := Lib.hid A6
  clear hp e' hw6 hE HF HV
  go_upto_region 6 with (fail)
  have hw6 := HW6.out
  have hE := HE.out
  rw [← hw6, ← hE]
  clear hw6 hE HW6 HE
  obtain ⟨n, hnn⟩ : ∃ n, n = ns.length := ⟨_, rfl⟩
  have Y7 := y7.out
  rw [← hnn] at Y7 LEN hc
  rw [← hnn]
  have HN := Lib.hid hnn
  have hn := LEN.out
  clear hnn y7
  go_wp2_with fail
  go_loopw [9, 36] (fun s9 s36 wr => ∃ k : Nat, k ≤ n ∧ s36 = .int .i64 k ∧ s9 = .bool ((ns.take k).any (fun x => fitN s d x && decide (x.f = f ∧ x.l = l))) ∧ Hid (Below w6.heap.size w6 wr)) (fun _ si _ => n - (intOf si).toNat)
  case atStart => exact ⟨0, Nat.zero_le _, rfl, rfl, Below.refl _ _⟩
  case round =>
    obtain ⟨k, hk, rfl, rfl, BL⟩ := hrel
    clear Y7
    by_cases hlt : k < n
    · obtain ⟨x, hx⟩ : ∃ x, ns[k]? = some x := ⟨_, List.getElem?_eq_getElem (by rw [← HN.out]; exact hlt)⟩
      obtain ⟨g, off, rfl, hcell⟩ := HP.out (by rw [← HN.out]; omega)
      have OA := (hcell k x hx).below BL.out
      have FI := Lib.hid (fun h => Q1.out x (List.mem_of_getElem? hx) h)
      have SN := Lib.hid (show (ns.take (k + 1)).any (fun x => fitN s d x && decide (x.f = f ∧ x.l = l)) = ((ns.take k).any (fun x => fitN s d x && decide (x.f = f ∧ x.l = l)) || (fitN s d x && decide (x.f = f ∧ x.l = l))) by
        rw [List.take_add_one, hx, List.any_append]
        simp)
      have AL := (Below.refl wr.heap.size wr).alloc (Nat.le_refl _) (.cells #[.string x.nm, .int .i64 x.f, .int .i64 x.l, .int .i64 x.r] 39)
      have NC := nCell wr #[.string x.nm, .int .i64 x.f, .int .i64 x.l, .int .i64 x.r] 39
      have D7 := (D6.out.below BL.out).below AL
      have B7 := Lib.hid (BL.out.trans (AL.mono BL.out.size))
      clear hcell hx
      obtain ⟨nm1, f1, l1, r1⟩ := x
      obtain ⟨lt0, c0, c1, c2, c3⟩ := OA
      replace c0 : wr.cell? ⟨g, off + k * 4, none⟩ = some (.string nm1) := c0
      replace c1 : wr.cell? ⟨g, off + k * 4 + 1, none⟩ = some (.int .i64 f1) := c1
      replace c2 : wr.cell? ⟨g, off + k * 4 + 2, none⟩ = some (.int .i64 l1) := c2
      replace c3 : wr.cell? ⟨g, off + k * 4 + 3, none⟩ = some (.int .i64 r1) := c3
      have d0 : (wr.alloc (.cells #[.string nm1, .int .i64 f1, .int .i64 l1, .int .i64 r1] 39)).cell? ⟨wr.heap.size, 0, none⟩ = some (.string nm1) := NC 0
      have d1 : (wr.alloc (.cells #[.string nm1, .int .i64 f1, .int .i64 l1, .int .i64 r1] 39)).cell? ⟨wr.heap.size, 1, none⟩ = some (.int .i64 f1) := NC 1
      have d2 : (wr.alloc (.cells #[.string nm1, .int .i64 f1, .int .i64 l1, .int .i64 r1] 39)).cell? ⟨wr.heap.size, 2, none⟩ = some (.int .i64 l1) := NC 2
      have d3 : (wr.alloc (.cells #[.string nm1, .int .i64 f1, .int .i64 l1, .int .i64 r1] 39)).cell? ⟨wr.heap.size, 3, none⟩ = some (.int .i64 r1) := NC 3
      have m0 : (wr.alloc (.cells #[.string nm1, .int .i64 f1, .int .i64 l1, .int .i64 r1] 39)).cell? ⟨E, 0, none⟩ = some (.int .i64 f) := D7.c0
      have m1 : (wr.alloc (.cells #[.string nm1, .int .i64 f1, .int .i64 l1, .int .i64 r1] 39)).cell? ⟨E, 1, none⟩ = some (.int .i64 l) := D7.c1
      replace B7 : Hid (Below w6.heap.size w6 (wr.alloc (.cells #[.string nm1, .int .i64 f1, .int .i64 l1, .int .i64 r1] 39))) := B7
      replace FI : Hid ((nm1.toList == s.toList && decide (r1 ≤ d)) = true → o = true ∧ l1 ≤ l) := FI
      replace SN : Hid ((ns.take (k + 1)).any (fun x => fitN s d x && decide (x.f = f ∧ x.l = l)) = ((ns.take k).any (fun x => fitN s d x && decide (x.f = f ∧ x.l = l)) || ((nm1.toList == s.toList && decide (r1 ≤ d)) && decide (f1 = f ∧ l1 = l)))) := SN
      generalize (ns.take k).any (fun x => fitN s d x && decide (x.f = f ∧ x.l = l)) = fd at SN
      have z1 : (0 : Int) ≤ (k : Int) := by omega
      have z2 : (k : Int) < (n : Int) := by omega
      clear NC D7 AL
      cases hg : (nm1.toList == s.toList) with
      | false =>
        rw [hg, Bool.false_and, Bool.false_and, Bool.or_false] at SN
        clear FI
        go_wp2_with fail
        go_roundw
        case rel => exact ⟨k + 1, by omega, by go_num, by rw [SN.out], B7⟩
        case measure => simp [intOf]; omega
      | true =>
        rw [hg, Bool.true_and] at SN FI
        by_cases hr : d < r1
        · have R1 : decide (d < r1) = true := decide_eq_true hr
          rw [decide_eq_false (by omega : ¬ r1 ≤ d), Bool.false_and, Bool.or_false] at SN
          clear FI hr
          go_wp2_with fail
          go_roundw
          case rel => exact ⟨k + 1, by omega, by go_num, by rw [SN.out], B7⟩
          case measure => simp [intOf]; omega
        · have R1 : decide (d < r1) = false := decide_eq_false hr
          rw [decide_eq_true (by omega : r1 ≤ d), Bool.true_and] at SN
          obtain ⟨rfl, hl⟩ := FI.out (decide_eq_true (by omega : r1 ≤ d))
          have L1 : decide (l < l1) = false := decide_eq_false (by omega)
          have q := eqD f1 l1 f l
          have qg := eqDg f1 l1 f l
          clear FI hr hl
          cases fd with
          | true =>
            rw [Bool.true_or] at SN
            clear q qg
            go_wp2_with fail
            go_roundw
            case rel => exact ⟨k + 1, by omega, by go_num, by rw [SN.out], B7⟩
            case measure => simp [intOf]; omega
          | false =>
            rw [Bool.false_or] at SN
            generalize decide (f1 = f ∧ l1 = l) = eq at SN q
            go_wp2_with fail
            go_roundw
            case rel => exact ⟨k + 1, by omega, by go_num, by rw [SN.out], B7⟩
            case measure => simp [intOf]; omega
    · obtain rfl : k = n := by omega
      have FA := Q2.out
      rw [← List.take_of_length_le (l := ns) (by rw [← HN.out]; exact Nat.le_refl k)] at FA
      have D7 := D6.out.below BL.out
      have m0 := D7.c0
      have m1 := D7.c1
      have BZ := Lib.hid (BA.out.trans (A6.out.trans (BL.out.mono A6.out.size) |>.mono BA.out.size))
      generalize (ns.take k).any (fun x => fitN s d x && decide (x.f = f ∧ x.l = l)) = fd at FA
      subst FA
      clear D7
      cases fd with
      | true =>
        go_wp2_with fail
        go_ret
        exact ⟨rfl, BZ.out⟩
      | false =>
        obtain ⟨rfl, rfl⟩ := Q3.out rfl
        have q := eqD 0 0 0 0
        have qg := eqDg 0 0 0 0
        go_wp2_with fail
        go_ret
        exact ⟨rfl, BZ.out⟩
end Go.Proofs.YtfgpmghaebdhpaaGreatDoor
