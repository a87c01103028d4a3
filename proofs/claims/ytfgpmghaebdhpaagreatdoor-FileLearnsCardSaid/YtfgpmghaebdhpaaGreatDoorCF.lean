/- Parse: the walk. -/
import Derived.Test.YtfgpmghaebdhpaaGreatDoorCE
namespace Go.Proofs.YtfgpmghaebdhpaaGreatDoor
open Go.RowKit Go.Shelf
attribute [local go_sem] Oper.semAt_some

theorem cell_g {W W' : World} {row : Option Nat} {b : Nat} {v : Value} (h : W.cell? ⟨b, 0, none⟩ = some v) (g : W.grownBy W' row) (hr : row ≠ some b) : W'.cell? ⟨b, 0, none⟩ = some v := by
  have hb : b < W.heap.size := by
    unfold World.cell? at h
    refine Classical.byContradiction fun hn => ?_
    rw [Array.getElem?_eq_none (by simpa using hn)] at h
    cases h
  exact (World.cell?_of_block (a := ⟨b, 0, none⟩) (g.block b hb hr.symm)).trans h
theorem froz_g {W W' : World} {row : Option Nat} {b : Nat} {v : Value} (h : W.cell? ⟨b, 0, none⟩ = some v) (f : W.frozen? ⟨b, 0, none⟩ = false) (g : W.grownBy W' row) (hr : row ≠ some b) : W'.frozen? ⟨b, 0, none⟩ = false := by
  have hb : b < W.heap.size := by
    unfold World.cell? at h
    refine Classical.byContradiction fun hn => ?_
    rw [Array.getElem?_eq_none (by simpa using hn)] at h
    cases h
  have e := g.block b hb hr.symm
  unfold World.frozen? at f ⊢
  simpa [e] using f
/-- A box that may be written. -/
def Bw (W : World) (b : Nat) (v : Value) : Prop := W.cell? ⟨b, 0, none⟩ = some v ∧ W.frozen? ⟨b, 0, none⟩ = false
theorem Bw.g {W W' : World} {row : Option Nat} {b : Nat} {v : Value} (h : Bw W b v) (g : W.grownBy W' row) (hr : row ≠ some b) : Bw W' b v := ⟨cell_g h.1 g hr, froz_g h.1 h.2 g hr⟩
theorem Bw.set {W : World} {b : Nat} {v v' : Value} (h : Bw W b v) : Bw (W.setCell ⟨b, 0, none⟩ v') b v' := ⟨World.cell?_setCell_same' _ _ _ (by rw [h.1]; rfl), by rw [World.frozen?_setCell]; exact h.2⟩
theorem Bw.other {W : World} {b d : Nat} {v v' : Value} (h : Bw W b v) (hd : d ≠ b) : Bw (W.setCell ⟨d, 0, none⟩ v') b v := ⟨by rw [World.cell?_setCell_other _ _ _ _ (fun e => hd (by cases e; rfl))]; exact h.1, by rw [World.frozen?_setCell]; exact h.2⟩
theorem Bw.al {W : World} {b : Nat} {v : Value} (h : Bw W b v) (o : Obj) : Bw (W.alloc o) b v := ⟨c_al o h.1, f_al o h.1 h.2⟩
/-- Between two rounds. -/
structure PI (w : World) (pre : List Txt) (W : World) : Prop where
  r0 : Bw W w.heap.size (.slice none 0 0)
  r1 : Bw W (w.heap.size + 1) (.int .i64 0)
  lv : ∃ v, ∃ ns : List Nat, Bw W (w.heap.size + 2) v ∧ W.ownsRow (w.heap.size + 6) 3 1 v ns.length (ns.map encN) ∧ ns.map dec = pre.map bts ∧ (∀ n ∈ ns, 1 ≤ n ∧ n ≤ 999) ∧ ns.length ≤ 6
  bel : Below w.heap.size w W
  sz : w.heap.size + 6 ≤ W.heap.size
/-- A fault was found. -/
structure PX (w : World) (pre : List Txt) (W : World) : Prop where
  r0 : W.cell? ⟨w.heap.size, 0, none⟩ = some (.slice none 0 0)
  r1 : W.cell? ⟨w.heap.size + 1, 0, none⟩ = some (.int .i64 3)
  bad : Bad (pre.map bts)
  bel : Below w.heap.size w W
def RowOk (w W : World) (row : Option Nat) : Prop := ∀ r, row = some r → r = w.heap.size + 3 ∨ (w.heap.size + 6 ≤ r ∧ ∃ o : Obj, W.heap[r]? = some o ∧ o.isCells = false)
theorem RowOk.ne {w W : World} {row : Option Nat} (h : RowOk w W row) {b : Nat} (hb : b < w.heap.size + 3) : row ≠ some b := fun e => by rcases h b e with a | ⟨a, _⟩ <;> omega
theorem PI.grown {w : World} {pre : List Txt} {W W' : World} {row : Option Nat} (h : PI w pre W) (g : W.grownBy W' row) (hr : RowOk w W row) : PI w pre W' where
  r0 := h.r0.g g (hr.ne (by omega))
  r1 := h.r1.g g (hr.ne (by omega))
  lv := by
    obtain ⟨v, ns, h1, h2, h3⟩ := h.lv
    refine ⟨v, ns, h1.g g (hr.ne (by omega)), h2.kept g ?_, h3⟩
    rcases h2.2 with ⟨rfl, _⟩ | ⟨gg, cap, cur, rfl, hb, hgg, _⟩
    · exact Or.inl rfl
    · refine Or.inr fun e => ?_
      have e : some gg = row := e
      rcases hr gg e.symm with a | ⟨_, o, ho, hc⟩
      · omega
      · rw [hgg] at ho
        cases ho
        simp [Obj.isCells] at hc
  bel := h.bel.grown g h.bel.size (fun k e => by rcases hr k e with a | ⟨a, _⟩ <;> omega)
  sz := Nat.le_trans h.sz g.size
theorem PX.grown {w : World} {pre : List Txt} {W W' : World} {row : Option Nat} (h : PX w pre W) (g : W.grownBy W' row) (hr : RowOk w W row) : PX w pre W' where
  r0 := cell_g h.r0 g (hr.ne (by omega))
  r1 := cell_g h.r1 g (hr.ne (by omega))
  bad := h.bad
  bel := h.bel.grown g h.bel.size (fun k e => by rcases hr k e with a | ⟨a, _⟩ <;> omega)

theorem gb_below {w w' : World} {r : Option Nat} (h : Below w.heap.size w w') : w.grownBy w' r := ⟨h.os, h.tape, h.output, h.size, fun k hk _ => h.block k hk⟩
theorem own_ge {w : World} {K n size : Nat} {e : TypeId} {v : Value} {xs : List Value} (h : w.ownsRow K e size v n xs) {b : Nat} (hb : b < K) : v.ownBlock = none ∨ v.ownBlock ≠ some b := by
  rcases h.2 with ⟨rfl, _⟩ | ⟨g, cap, cur, rfl, hg, _⟩
  · exact Or.inl rfl
  · refine Or.inr fun e => ?_
    have e : some g = some b := e
    injection e; omega
theorem KpB.of {c : Nat} {W W' : World} {row : Option Nat} (g : W.grownBy W' row) (hr : ∀ r, row = some r → r < c + 3 ∨ c + 6 ≤ r) (hs : c + 6 ≤ W.heap.size) : KpB (c + 3) W W' := fun k hk => g.block k (by omega) (fun e => by rcases hr k e.symm with a | a <;> omega)
theorem own_cells {w : World} {K n size : Nat} {e : TypeId} {v : Value} {xs : List Value} (h : w.ownsRow K e size v n xs) : ∀ (j : Nat) (o : Obj), v.ownBlock = some j → w.heap[j]? = some o → o.isCells = true := fun j o hj ho => by
  rcases h.2 with ⟨rfl, _⟩ | ⟨g, cap, cur, rfl, _, hg, _⟩
  · simp [Value.ownBlock] at hj
  · simp [Value.ownBlock] at hj
    subst hj
    rw [hg] at ho
    cases ho
    rfl
theorem own_from {w : World} {K n size : Nat} {e : TypeId} {v : Value} {xs : List Value} (h : w.ownsRow K e size v n xs) : ∀ k, v.ownBlock = some k → K ≤ k := fun k hk => by
  rcases h.2 with ⟨rfl, _⟩ | ⟨g, cap, cur, rfl, hb, _⟩
  · simp [Value.ownBlock] at hk
  · simp [Value.ownBlock] at hk
    omega
/-- A round that has found a number. -/
theorem PI.next {w W W1 w5 : World} {pre : List Txt} {x : Txt} {v v' : Value} {ns : List Nat} {n : Nat} {o : Obj} (h : PI w pre W1) (b1 : Below W.heap.size W W1) (hs : w.heap.size + 6 ≤ W.heap.size)
    (ho : (W1.alloc o).ownsRow (w.heap.size + 6) 3 1 v ns.length (ns.map encN)) (b2 : Bw W1 (w.heap.size + 2) v)
    (g5 : (W1.alloc o).grownBy w5 v.ownBlock) (o5 : w5.ownsRow (w.heap.size + 6) 3 1 v' (ns.length + 1) (ns.map encN ++ [.int .i64 n]))
    (ht : ns.map dec = pre.map bts) (hr : ∀ n ∈ ns, 1 ≤ n ∧ n ≤ 999) (hl : ns.length < 6) (n1 : 1 ≤ n) (n2 : n ≤ 999) (n3 : dec n = bts x) :
    KeepsOthers W (w5.setCell ⟨w.heap.size + 2, 0, none⟩ v') ∧ KpB (w.heap.size + 3) W (w5.setCell ⟨w.heap.size + 2, 0, none⟩ v') ∧ PI w (pre ++ [x]) (w5.setCell ⟨w.heap.size + 2, 0, none⟩ v') := by
  have of := own_from ho
  have ne : ∀ b, b < w.heap.size + 6 → v.ownBlock ≠ some b := fun b hb e => by have := of b e; omega
  have s1 := Nat.le_trans hs b1.size
  have s2 : w.heap.size + 6 ≤ (W1.alloc o).heap.size := by simp; omega
  have s3 := Nat.le_trans s2 g5.size
  refine ⟨?_, ?_, ?_⟩
  · exact (KeepsOthers.of_grownBy (gb_below (r := none) b1) (fun j o e => by cases e)).trans ((KeepsOthers.alloc _ _).trans ((KeepsOthers.of_grownBy g5 (own_cells ho)).trans (KeepsOthers.setCell _ _ _)))
  · exact ((KpB.of (gb_below (r := none) b1) (fun r e => by cases e) hs).trans (KpB.of (World.grownBy_alloc W1 o none) (fun r e => by cases e) s1)).trans ((KpB.of g5 (fun r e => Or.inr (of r e)) s2).trans (KpB.of gb_set (fun r e => Or.inl (by cases e; omega)) s3))
  · have own' : (w5.setCell ⟨w.heap.size + 2, 0, none⟩ v').ownsRow (w.heap.size + 6) 3 1 v' (ns.length + 1) (ns.map encN ++ [.int .i64 n]) := o5.kept gb_set (own_ge o5 (by omega))
    refine ⟨((h.r0.al o).g g5 (ne _ (by omega))).other (by omega), ((h.r1.al o).g g5 (ne _ (by omega))).other (by omega), ⟨v', ns ++ [n], ((b2.al o).g g5 (ne _ (by omega))).set, ?_, ?_, ?_, ?_⟩, ?_, ?_⟩
    · rw [List.length_append, List.map_append]; exact own'
    · rw [List.map_append, List.map_append, ht]; simp [n3]
    · intro m hm
      rcases List.mem_append.1 hm with a | a
      · exact hr m a
      · obtain rfl := List.mem_singleton.1 a; exact ⟨n1, n2⟩
    · rw [List.length_append, List.length_singleton]; omega
    · exact ((h.bel.alloc (by omega) o).grown g5 (by omega) (fun k e => by have := of k e; omega)).setCell (p := ⟨w.heap.size + 2, 0, none⟩) (by show w.heap.size ≤ w.heap.size + 2; omega) _
    · simpa using s3
/-- What Parse returns. -/
def ParR (l : List UInt8) (w : World) (e : Ending) (w' : World) : Prop :=
  ((∃ v, ∃ ns : List Nat, PR l ns ∧ e = .returned (.tuple #[v, .int .i64 0]) ∧ w'.ownsRow (w.heap.size + 6) 3 1 v ns.length (ns.map encN)) ∨ ((∀ ns, ¬ PR l ns) ∧ e = .returned (.tuple #[.slice none 0 0, .int .i64 3]))) ∧ Below w.heap.size w w'

set_option maxRecDepth 100000 in
set_option maxHeartbeats 2000000 in
theorem Parse_any (s : Txt) (w : World) (hw : Lw w) :
    Calls Tryz.prog 54 #[.string s.1] w (ParR (bts s) w) := by
  obtain ⟨i0, i1, hz0, hz1, hz2⟩ := info_parts (P := Tryz.prog) (e := 3) (z := .int .i64 0) (size := 1) (bytes := 8) (by kernel_rfl)
  have US : Tryz.prog.underlying 66 = some (.slice 3) := by kernel_rfl
  obtain ⟨V, hV⟩ : ∃ V, V = ((w.alloc (.cells #[.slice none 0 0] 66)).alloc (.cells #[.int .i64 0] 44)).alloc (.cells #[.slice none 0 0] 66) := ⟨_, rfl⟩
  have z : V.heap.size = w.heap.size + 3 := by rw [hV]; simp
  have SS := SplitSeq_any s.1 V
  have SB := split_box s V 5 (by omega)
  have BV : Below w.heap.size w V := by rw [hV]; exact (((Below.refl _ w).alloc (Nat.le_refl _) _).alloc (by simp) _).alloc (by simp; omega) _
  have I0 : Bw V w.heap.size (.slice none 0 0) ∧ Bw V (w.heap.size + 1) (.int .i64 0) ∧ Bw V (w.heap.size + 2) (.slice none 0 0) := by
    have a := c_new w (.slice none 0 0) 66
    have b := c_new (w.alloc (.cells #[.slice none 0 0] 66)) (.int .i64 0) 44
    have c := c_new ((w.alloc (.cells #[.slice none 0 0] 66)).alloc (.cells #[.int .i64 0] 44)) (.slice none 0 0) 66
    rw [World.size_alloc] at b
    rw [World.size_alloc, World.size_alloc] at c
    rw [hV]
    exact ⟨⟨c_al _ (c_al _ a.1), f_al _ (c_al _ a.1) (f_al _ a.1 a.2)⟩, ⟨c_al _ b.1, f_al _ b.1 b.2⟩, c⟩
  rw [z] at SS SB
  refine (callsIn_wide (n := 6)).1 ?_
  refine callsIn_of_wp_marks Tryz.func54 rfl trivial ?_ rfl
  simp only [Tryz.ntmps54, List.size_toArray, List.length_cons, List.length_nil, Nat.reduceAdd, Nat.reduceSub, Array.replicate_succ, Array.replicate_zero, List.push_toArray, List.append_toArray, List.nil_append, List.cons_append]
  have hfS : Fence.wide.fn 68 := trivial
  subst hV
  gi_wp2_with (gi_at_call 68; refine (callsIn_wide.2 SS).mono ?_; rintro e V' ⟨rfl, hV0⟩; have HV := Lib.hid hV0; clear hV0)
  rw [← HV.out] at SB
  have z' : V'.heap.size = w.heap.size + 6 := by rw [HV.out]; simp
  have P0 : PI w [] V' := by
    rw [HV.out]
    exact ⟨((I0.1.al _).al _).al _, ((I0.2.1.al _).al _).al _, ⟨_, [], ((I0.2.2.al _).al _).al _, World.ownsRow_nil _ _ _ _, rfl, fun n h => absurd h (List.not_mem_nil), by simp⟩, ((BV.alloc BV.size _).alloc (by simp; omega) _).alloc (by simp; omega) _, by rw [← HV.out, z']; omega⟩
  clear I0 SS BV HV z
  refine rangeFunc_box (F := Fence.wide) (n := 6) rfl (by omega) (gf := 82) rfl trivial (enters_of Tryz.func82 (by kernel_rfl) rfl) SB (by rw [z']; omega) KpB.trans (fun W l o h _ k hk => World.putObj_heap_other (by rw [z'] at h; omega))
    (PI w) (PX w) (fun _ W W' row h g hr => h.grown g (fun r e => by rw [z'] at hr; exact hr r e)) (fun _ W W' row h g hr => h.grown g (fun r e => by rw [z'] at hr; exact hr r e)) P0
    (fun x => { tmps := #[.string s.1, undef, .pointer (some ⟨w.heap.size, 0, none⟩), .pointer (some ⟨w.heap.size + 1, 0, none⟩), .pointer (some ⟨w.heap.size + 2, 0, none⟩), .string x.1, undef, undef, .string s.1, .func (.func 82) #[] #[.pointer (some ⟨w.heap.size + 3 + 1, 0, none⟩), .pointer (some ⟨w.heap.size + 3, 0, none⟩), .pointer (some ⟨w.heap.size + 3 + 2, 0, none⟩)], .string x.1, undef, undef, undef, undef, undef, undef, undef, undef, undef, undef, undef, undef, undef, undef, undef, undef, undef], defers := [] }) ?assign ?body ?done ?stop
  case assign =>
    intro l x W K hK
    gi_wp2
    exact hK
  case body =>
    intro l pre x W hi hlen
    have NU := number_any x.1 x.2 W (hw.below hi.bel hw.n0)
    have h1 : 1 ≤ 6 - 1 - 1 := by omega
    obtain ⟨v, ns, b2, ho, ht, hr, hl⟩ := hi.lv
    have HI := Lib.hid hi
    have HO := Lib.hid ho
    have HT := Lib.hid ht
    have HR := Lib.hid hr
    have cnt : ns.length = pre.length := by have := congrArg List.length ht; simpa using this
    have LN := Lib.hid hl
    have CN := Lib.hid cnt
    have B2 := Lib.hid b2
    clear hi ho ht hr hl cnt b2
    by_cases ex : ∃ n : Nat, 1 ≤ n ∧ n ≤ 999 ∧ dec n = bts x
    · obtain ⟨n, n1, n2, n3⟩ := ex
      have NU2 : Calls Tryz.prog 69 #[.string x.1] W fun e w' => e = .returned (.tuple #[.int .i64 n, .bool true]) ∧ Below W.heap.size W w' := NU.mono fun e w' ⟨⟨v, ok, h, hn⟩, hb⟩ => by
        obtain ⟨rfl, rfl⟩ := hn.2 n n1 n2 n3
        exact ⟨h, hb⟩
      by_cases h6 : ns.length = 6
      · have BD := Lib.hid (show Bad ((pre ++ [x]).map bts) from fun ms _ e => by
          have := congrArg List.length e
          have c := CN.out
          simp at this
          omega)
        rcases HO.out.2 with ⟨_, h0⟩ | ⟨gg, cap, cur, hv, _⟩
        · omega
        · subst hv
          rw [h6] at B2
          gi_wp2_with (refine ⟨trivial, ?_⟩; gi_at_call 69; refine (CallsIn.inRound l (callsIn_wide.2 NU2)).mono ?_; rintro e W1 ⟨rfl, b1⟩; have p1 := HI.out.grown (gb_below (r := none) b1) (fun r e => by cases e); have q0 := p1.r0.1; have q1 := p1.r0.2; have q2 := p1.r1.1; have q3 := p1.r1.2; have q4 := (B2.out.g (gb_below (r := none) b1) (by simp)).1; have P1 := Lib.hid p1; have KB := Lib.hid (KeepsOthers.of_grownBy (gb_below (r := none) b1) (fun j o e => by cases e)); clear p1 b1)
          exact ⟨KB.out.trans ((KeepsOthers.setCell _ _ _).trans (KeepsOthers.setCell _ _ _)), (P1.out.r0.set.other (by omega)).1, (Bw.set (P1.out.r1.other (by omega))).1, BD.out, (P1.out.bel.setCell (p := ⟨w.heap.size, 0, none⟩) (Nat.le_refl _) _).setCell (p := ⟨w.heap.size + 1, 0, none⟩) (Nat.le_succ _) _⟩
      · have L1 := Lib.hid (show ns.length + 1 ≤ maxLen by unfold maxLen; have := LN.out; omega)
        have L2 := Lib.hid (show (ns.length + 1) * 8 ≤ 140737488355328 by have := LN.out; omega)
        have h6' : (ns.length : Int) ≠ 6 := by omega
        rcases HO.out.2 with ⟨hv, h0⟩ | ⟨gg, cap, cur, hv, _⟩
        · subst hv
          obtain rfl := List.length_eq_zero_iff.1 h0
          clear h0
          gi_wp2_with (first
            | (refine ⟨trivial, ?_⟩; gi_at_call 69; refine (CallsIn.inRound l (callsIn_wide.2 NU2)).mono ?_; rintro e W1 ⟨rfl, b1⟩; have p1 := HI.out.grown (gb_below (r := none) b1) (fun r e => by cases e); have b2 := B2.out.g (gb_below (r := none) b1) (by simp); have q4 := b2.1; have OA := Lib.hid ((HO.out.kept (gb_below (r := none) b1) (Or.inl rfl)).alloc (.cells #[.int .i64 n] 3)); have q5 := (b2.al (.cells #[.int .i64 n] 3)); have BB := Lib.hid b2; have P1 := Lib.hid p1; have LB := Lib.hid b1; have SZ := Lib.hid (show w.heap.size + 6 ≤ (W1.alloc (.cells #[.int .i64 n] 3)).heap.size from Nat.le_trans p1.sz (by simp)); have Q5 := Lib.hid q5; clear p1 b1 b2 q5)
            | (gi_at_builtin; refine wpListIn_append_own _ rfl _ _ 66 rfl (w.heap.size + 6) 3 i0 (.int .i64 0) 1 8 US i1 hz0 hz1 hz2 rfl (by decide) _ _ _ rfl OA.out ⟨W1.heap.size, 0, none⟩ 1 1 [.int .i64 n] rfl rfl (cell_one_new _ _ _) (by simp [Value.oneCell']) L1.out L2.out SZ.out ?_; intro v5 w5 own5 g5 _; obtain ⟨g', cap', rfl⟩ := ownsRow_succ own5; have q6 := Q5.out.g g5 (by intro e; have := own_from OA.out _ e; omega); have q7 := q6.1; have q8 := q6.2; have O5 := Lib.hid own5; have G5 := Lib.hid g5; clear own5 g5 q6))
          exact PI.next P1.out LB.out HI.out.sz OA.out BB.out G5.out O5.out HT.out HR.out (by have := LN.out; omega) n1 n2 n3
        · subst hv
          gi_wp2_with (first
            | (refine ⟨trivial, ?_⟩; gi_at_call 69; refine (CallsIn.inRound l (callsIn_wide.2 NU2)).mono ?_; rintro e W1 ⟨rfl, b1⟩; have p1 := HI.out.grown (gb_below (r := none) b1) (fun r e => by cases e); have b2 := B2.out.g (gb_below (r := none) b1) (by simp); have q4 := b2.1; have OA := Lib.hid ((HO.out.kept (gb_below (r := none) b1) (Or.inr (by simp [Value.ownBlock]))).alloc (.cells #[.int .i64 n] 3)); have q5 := (b2.al (.cells #[.int .i64 n] 3)); have BB := Lib.hid b2; have P1 := Lib.hid p1; have LB := Lib.hid b1; have SZ := Lib.hid (show w.heap.size + 6 ≤ (W1.alloc (.cells #[.int .i64 n] 3)).heap.size from Nat.le_trans p1.sz (by simp)); have Q5 := Lib.hid q5; clear p1 b1 b2 q5)
            | (gi_at_builtin; refine wpListIn_append_own _ rfl _ _ 66 rfl (w.heap.size + 6) 3 i0 (.int .i64 0) 1 8 US i1 hz0 hz1 hz2 rfl (by decide) _ _ _ rfl OA.out ⟨W1.heap.size, 0, none⟩ 1 1 [.int .i64 n] rfl rfl (cell_one_new _ _ _) (by simp [Value.oneCell']) L1.out L2.out SZ.out ?_; intro v5 w5 own5 g5 _; obtain ⟨g', cap', rfl⟩ := ownsRow_succ own5; have q6 := Q5.out.g g5 (by intro e; have := own_from OA.out _ e; omega); have q7 := q6.1; have q8 := q6.2; have O5 := Lib.hid own5; have G5 := Lib.hid g5; clear own5 g5 q6))
          exact PI.next P1.out LB.out HI.out.sz OA.out BB.out G5.out O5.out HT.out HR.out (by have := LN.out; omega) n1 n2 n3
    · have NU2 : Calls Tryz.prog 69 #[.string x.1] W fun e w' => (∃ nv, e = .returned (.tuple #[.int .i64 nv, .bool false])) ∧ Below W.heap.size W w' := NU.mono fun e w' ⟨⟨v, ok, h, hn⟩, hb⟩ => by
        cases ok with
        | false => exact ⟨⟨v, h⟩, hb⟩
        | true =>
          obtain ⟨a, b, c⟩ := hn.1 rfl
          exact absurd ⟨v.toNat, by omega, by omega, c⟩ ex
      have BD := Lib.hid (show Bad ((pre ++ [x]).map bts) from fun ms hm e => by
        exfalso
        rw [List.map_append, List.map_cons, List.map_nil] at e
        have hx : bts x ∈ ms.map dec := by rw [e]; simp
        obtain ⟨n, hn, hd⟩ := List.mem_map.1 hx
        exact ex ⟨n, (hm n hn).1, (hm n hn).2, hd⟩)
      gi_wp2_with (refine ⟨trivial, ?_⟩; gi_at_call 69; refine (CallsIn.inRound l (callsIn_wide.2 NU2)).mono ?_; rintro e W1 ⟨⟨nv, rfl⟩, b1⟩; have p1 := HI.out.grown (gb_below (r := none) b1) (fun r e => by cases e); have q0 := p1.r0.1; have q1 := p1.r0.2; have q2 := p1.r1.1; have q3 := p1.r1.2; have P1 := Lib.hid p1; have KB := Lib.hid (KeepsOthers.of_grownBy (gb_below (r := none) b1) (fun j o e => by cases e)); clear p1 b1)
      exact ⟨KB.out.trans ((KeepsOthers.setCell _ _ _).trans (KeepsOthers.setCell _ _ _)), (P1.out.r0.set.other (by omega)).1, (Bw.set (P1.out.r1.other (by omega))).1, BD.out, (P1.out.bel.setCell (p := ⟨w.heap.size, 0, none⟩) (Nat.le_refl _) _).setCell (p := ⟨w.heap.size + 1, 0, none⟩) (Nat.le_succ _) _⟩
  case done =>
    intro D xs W hD hS hi hK
    obtain ⟨v, ns, b2, ho, ht, hr, hl⟩ := hi.lv
    have l2 : W.cell? ⟨w.heap.size + 1 + 1, 0, none⟩ = some v := b2.1
    have r0 := hi.r0
    have r1 := hi.r1
    obtain ⟨q0, q1⟩ := r0
    obtain ⟨q2, q3⟩ := r1
    have HI := Lib.hid hi
    have HO := Lib.hid ho
    have PRn := Lib.hid (show PR (bts s) ns from ⟨hr, hl, by rw [ht, hS]⟩)
    clear hi ho ht hr hl b2 hS
    rcases HO.out.2 with ⟨rfl, _⟩ | ⟨gg, cap, cur, rfl, _⟩
    · gi_wp2
      have hh := HI.out
      have o1 := HO.out.kept (gb_set (o := 0) (x := (.slice none 0 0))) (own_ge HO.out (b := w.heap.size) (by omega))
      have o2 := o1.kept (gb_set (g := w.heap.size + 1) (o := 0) (x := .int .i64 0)) (own_ge o1 (by omega))
      have b1 : Below w.heap.size w ((W.setCell ⟨w.heap.size, 0, none⟩ (.slice none 0 0)).setCell ⟨w.heap.size + 1, 0, none⟩ (.int .i64 0)) := (hh.bel.setCell (p := ⟨w.heap.size, 0, none⟩) (Nat.le_refl _) _).setCell (p := ⟨w.heap.size + 1, 0, none⟩) (Nat.le_succ _) _
      have k1 := (KeepsOthers.setCell ((W.setCell ⟨w.heap.size, 0, none⟩ (.slice none 0 0))) ⟨w.heap.size + 1, 0, none⟩ (.int .i64 0)).same D _ ((KeepsOthers.setCell W ⟨w.heap.size, 0, none⟩ (.slice none 0 0)).same D _ hK rfl) rfl
      have c0 : Bw ((W.setCell ⟨w.heap.size, 0, none⟩ (.slice none 0 0)).setCell ⟨w.heap.size + 1, 0, none⟩ (.int .i64 0)) w.heap.size (.slice none 0 0) := (hh.r0.set).other (by omega)
      have c1 : Bw ((W.setCell ⟨w.heap.size, 0, none⟩ (.slice none 0 0)).setCell ⟨w.heap.size + 1, 0, none⟩ (.int .i64 0)) (w.heap.size + 1) (.int .i64 0) := (hh.r1.other (by omega)).set
      generalize (W.setCell ⟨w.heap.size, 0, none⟩ (.slice none 0 0)).setCell ⟨w.heap.size + 1, 0, none⟩ (.int .i64 0) = W2 at *
      have g2 := grownBy_putObj' W2 D (.deferred none)
      have f0 := (c0.g g2 (by simp; omega)).1
      have f1 := (c1.g g2 (by simp; omega)).1
      have o3 := o2.kept g2 (by
        rcases o2.2 with ⟨h, _⟩ | ⟨g', cap', cur', h, hg', hgg', _⟩
        · rw [h]; exact Or.inl rfl
        · rw [h]
          refine Or.inr fun e => ?_
          have e : some g' = some D := e
          injection e with e
          rw [e, k1] at hgg'
          cases hgg')
      refine ⟨by simp, .inl ⟨_, _, rfl, run_takeDeferred k1, ?_⟩⟩
      refine ⟨.tuple #[(.slice none 0 0), .int .i64 0], by simp [results, Tryz.results54, go_sem, f0, f1], Or.inl ⟨_, ns, PRn.out, rfl, o3⟩, b1.grown g2 b1.size (fun k e => by cases e; omega)⟩
    · gi_wp2
      have hh := HI.out
      have o1 := HO.out.kept (gb_set (o := 0) (x := (.slice (some ⟨gg, 0, none⟩) ns.length cap))) (own_ge HO.out (b := w.heap.size) (by omega))
      have o2 := o1.kept (gb_set (g := w.heap.size + 1) (o := 0) (x := .int .i64 0)) (own_ge o1 (by omega))
      have b1 : Below w.heap.size w ((W.setCell ⟨w.heap.size, 0, none⟩ (.slice (some ⟨gg, 0, none⟩) ns.length cap)).setCell ⟨w.heap.size + 1, 0, none⟩ (.int .i64 0)) := (hh.bel.setCell (p := ⟨w.heap.size, 0, none⟩) (Nat.le_refl _) _).setCell (p := ⟨w.heap.size + 1, 0, none⟩) (Nat.le_succ _) _
      have k1 := (KeepsOthers.setCell ((W.setCell ⟨w.heap.size, 0, none⟩ (.slice (some ⟨gg, 0, none⟩) ns.length cap))) ⟨w.heap.size + 1, 0, none⟩ (.int .i64 0)).same D _ ((KeepsOthers.setCell W ⟨w.heap.size, 0, none⟩ (.slice (some ⟨gg, 0, none⟩) ns.length cap)).same D _ hK rfl) rfl
      have c0 : Bw ((W.setCell ⟨w.heap.size, 0, none⟩ (.slice (some ⟨gg, 0, none⟩) ns.length cap)).setCell ⟨w.heap.size + 1, 0, none⟩ (.int .i64 0)) w.heap.size (.slice (some ⟨gg, 0, none⟩) ns.length cap) := (hh.r0.set).other (by omega)
      have c1 : Bw ((W.setCell ⟨w.heap.size, 0, none⟩ (.slice (some ⟨gg, 0, none⟩) ns.length cap)).setCell ⟨w.heap.size + 1, 0, none⟩ (.int .i64 0)) (w.heap.size + 1) (.int .i64 0) := (hh.r1.other (by omega)).set
      generalize (W.setCell ⟨w.heap.size, 0, none⟩ (.slice (some ⟨gg, 0, none⟩) ns.length cap)).setCell ⟨w.heap.size + 1, 0, none⟩ (.int .i64 0) = W2 at *
      have g2 := grownBy_putObj' W2 D (.deferred none)
      have f0 := (c0.g g2 (by simp; omega)).1
      have f1 := (c1.g g2 (by simp; omega)).1
      have o3 := o2.kept g2 (by
        rcases o2.2 with ⟨h, _⟩ | ⟨g', cap', cur', h, hg', hgg', _⟩
        · rw [h]; exact Or.inl rfl
        · rw [h]
          refine Or.inr fun e => ?_
          have e : some g' = some D := e
          injection e with e
          rw [e, k1] at hgg'
          cases hgg')
      refine ⟨by simp, .inl ⟨_, _, rfl, run_takeDeferred k1, ?_⟩⟩
      refine ⟨.tuple #[(.slice (some ⟨gg, 0, none⟩) ns.length cap), .int .i64 0], by simp [results, Tryz.results54, go_sem, f0, f1], Or.inl ⟨_, ns, PRn.out, rfl, o3⟩, b1.grown g2 b1.size (fun k e => by cases e; omega)⟩
  case stop =>
    intro D pre W hD hS hi hK
    gi_wp2
    have q0 := hi.r0
    have q1 := hi.r1
    have g2 := grownBy_putObj' W D (.deferred none)
    have f0 := cell_g q0 g2 (by simp; omega)
    have f1 := cell_g q1 g2 (by simp; omega)
    refine ⟨by simp, .inl ⟨_, _, rfl, run_takeDeferred hK, ?_⟩⟩
    exact ⟨.tuple #[.slice none 0 0, .int .i64 3], by simp [results, Tryz.results54, go_sem, f0, f1], Or.inr ⟨bad_all hi.bad hS, rfl⟩, hi.bel.grown g2 hi.bel.size (fun k e => by cases e; omega)⟩
end Go.Proofs.YtfgpmghaebdhpaaGreatDoor
