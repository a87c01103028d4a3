/- The reference's Good, Chain, Heir. -/
import Derived.Test.YtlmgjgcdfhccaaaOP
namespace Go.Proofs.Ytlmgjgcdfhccaaa
open Go.RowKit Go.Maps Go.Shelf

set_option maxHeartbeats 4000000 in
theorem rGood_any (v : Value) (os : List Of) (w : World) (hv : IsO w v os) (hn : os.length ≤ 1000) (hr : NumO os) :
    Calls Try.prog 34 #[v] w fun e w' => e = .returned (.bool ((ckV os).2 == 0)) ∧ Below w.heap.size w w' := by
  have CK := Lib.hid (rCheck_any v os w hv hn hr)
  generalize (ckV os).1 = F at *
  clear hv hn hr
  go_enter Try.func34, Try.ntmps34
  go_wp2_with fail
  refine CK.out.mono ?_; rintro e w1 ⟨rfl, b1⟩
  have B1 := Lib.hid b1
  clear b1 CK
  go_wp2_with fail
  go_ret
  exact ⟨rfl, B1.out⟩
/-- What the loop of the reference's Chain keeps. -/
structure RhL (os : List Of) (day : Int) (i0 : Nat) (w : World) (i : Nat) (o : Of) (pre : List Int) (u : Value) (wr : World) : Prop where
  ho : os[i]? = some o
  own : wr.ownsRow w.heap.size 3 1 u pre.length (pre.map encZ)
  bel : Below w.heap.size w wr
  ch : ∀ L, Ch os day i L → Ch os day i0 (pre ++ L)
  len : (pre.length : Int) ≤ o.fr
set_option maxRecDepth 100000 in
set_option maxHeartbeats 8000000 in
theorem rChain_any (v : Value) (os : List Of) (id day : Int) (w : World) (hv : IsO w v os) (hn : os.length ≤ 1000) (hr : NumO os) {L : List Int} (hL : CV os id day L) :
    Calls Try.prog 15 #[v, .int .i64 id, .int .i64 day] w fun e w' => ∃ u, e = .returned u ∧ IsZ w' u L ∧ Below w.heap.size w w' := by
  have W0b := (Below.refl w.heap.size w).alloc (Nat.le_refl _) (.cells #[] 3)
  have FD := Lib.hid (fun (V : World) (x : Int) (hb : Below w.heap.size w V) => rFind_any v os x V (hv.below hb) hn)
  have GD := Lib.hid (fun (V : World) (hb : Below w.heap.size w V) => rGood_any v os V (hv.below hb) hn hr)
  have F0 := Lib.hid (FD.out _ id W0b)
  have G0 := Lib.hid (GD.out _ W0b)
  have B0 := Lib.hid W0b
  have O0 := Lib.hid (own_emptyZ w)
  by_cases stop : (ckV os).2 ≠ 0 ∨ ixO os id = none
  · have hl : L = [] := by
      rcases hL with ⟨g, i, hi, _⟩ | ⟨_, e⟩
      · rcases stop with s | s
        · exact absurd g s
        · rw [hi] at s; cases s
      · exact e
    subst hl
    by_cases g : (ckV os).2 = 0
    · have hi : ixZ os id = -1 := by unfold ixZ; rw [stop.resolve_left (fun h => h g)]
      rw [hi] at F0
      have g1 : ((ckV os).2 == 0) = true := by simpa using g
      rw [g1] at G0
      clear hv hn hr hL stop g g1 hi W0b
      go_enter Try.func15, Try.ntmps15
      go_wp2_with fail
      refine F0.out.mono ?_; rintro e w1 ⟨rfl, rfl⟩
      go_wp2_with fail
      refine G0.out.mono ?_; rintro e w2 ⟨rfl, b2⟩
      have B2 := Lib.hid (B0.out.trans (b2.mono B0.out.size))
      have O2 := Lib.hid (own_isZ (zs := []) (own_below O0.out b2))
      clear b2
      go_wp2_with fail
      go_ret
      exact ⟨_, rfl, O2.out, B2.out⟩
    · have g1 : ((ckV os).2 == 0) = false := by simpa using g
      rw [g1] at G0
      generalize ixZ os id = z at *
      clear hv hn hr hL stop g g1 W0b
      go_enter Try.func15, Try.ntmps15
      go_wp2_with fail
      refine F0.out.mono ?_; rintro e w1 ⟨rfl, rfl⟩
      go_wp2_with fail
      refine G0.out.mono ?_; rintro e w2 ⟨rfl, b2⟩
      have B2 := Lib.hid (B0.out.trans (b2.mono B0.out.size))
      have O2 := Lib.hid (own_isZ (zs := []) (own_below O0.out b2))
      clear b2
      go_wp2_with fail
      go_ret
      exact ⟨_, rfl, O2.out, B2.out⟩
  have hc : (ckV os).2 = 0 ∧ ∃ i0, ixO os id = some i0 ∧ Ch os day i0 L := by
    rcases hL with h | ⟨h, _⟩
    · exact h
    · exact absurd h stop
  obtain ⟨hg, i0, h0, hch⟩ := hc
  obtain ⟨o0, ho0, -⟩ := ixO_at h0
  have hi : ixZ os id = (i0 : Int) := by unfold ixZ; rw [h0]
  rw [hi] at F0
  have g1 : ((ckV os).2 == 0) = true := by simpa using hg
  rw [g1] at G0
  have HC := Lib.hid hch
  have HG := Lib.hid hg
  have H0 := Lib.hid ho0
  have HR := Lib.hid hr
  have SP0 := Lib.hid (of_decide_eq_true (good_ok hg ho0).sp)
  obtain ⟨p, c, rfl, hcap, hp⟩ := hv
  obtain ⟨n, hnn⟩ : ∃ n, n = os.length := ⟨_, rfl⟩
  have HN := Lib.hid hnn
  obtain ⟨g, off, rfl, hcell⟩ := hp (by have := ixO_lt h0; omega)
  have HCL := Lib.hid hcell
  have i0n : i0 < n := by rw [hnn]; exact ixO_lt h0
  rw [← hnn] at hcap hn F0 G0 FD ⊢
  have D0 : decide ((i0 : Int) < 0) = false := by simp
  obtain ⟨ai, hii, hz0, hz1, hz2⟩ := info_parts (P := Try.prog) (e := 3) (z := .int .i64 0) (size := 1) (bytes := 8) (by kernel_rfl)
  have US : Try.prog.underlying 28 = some (.slice 3) := by kernel_rfl
  clear stop hL hch hg ho0 hr hp hcell hnn h0 hi g1 GD W0b
  go_enter Try.func15, Try.ntmps15
  go_wp2_with fail
  refine F0.out.mono ?_; rintro e w1 ⟨rfl, rfl⟩
  go_wp2_with fail
  refine G0.out.mono ?_; rintro e w2 ⟨rfl, b2⟩
  have B2 := Lib.hid (B0.out.trans (b2.mono B0.out.size))
  have O2 := Lib.hid (own_below O0.out b2)
  clear b2 F0 G0 B0 O0
  go_wp2_with fail
  go_loopg [7, 8] 1048577 (fun gg s7 s8 wr => ∃ (i : Nat) (o : Of) (pre : List Int), s8 = .int .i64 i ∧ i < n ∧ Hid (RhL os day i0 w i o pre s7 wr ∧ (1048576 - o.fr).toNat < gg))
  case atStart => exact ⟨i0, o0, [], rfl, i0n, ⟨H0.out, O2.out, B2.out, fun L h => h, by have := SP0.out; show (0 : Int) ≤ o0.fr; omega⟩, by have := SP0.out; omega⟩
  case round =>
    obtain ⟨i, o, pre, rfl, hin, hrel⟩ := hrel
    have HO1 := Lib.hid hrel.out.1.ho
    have GO := Lib.hid (good_ok HG.out hrel.out.1.ho)
    have OW := Lib.hid hrel.out.1.own
    have BL := Lib.hid hrel.out.1.bel
    have CH := Lib.hid hrel.out.1.ch
    have LE := Lib.hid hrel.out.1.len
    have GG := Lib.hid hrel.out.2
    have OAT := Lib.hid ((HCL.out i o hrel.out.1.ho).below hrel.out.1.bel)
    have STOP := Lib.hid (fun h => Ch.stop (day := day) hrel.out.1.ho h)
    have STEP := Lib.hid (fun (j : Nat) (x : Int) (r : List Int) (L : List Int) hb hx hj hL => Ch.step (day := day) (j := j) (x := x) (r := r) (L := L) hrel.out.1.ho hb hx hj hL)
    have SP1 := of_decide_eq_true GO.out.sp
    have HS := Lib.hid (In_any o.fr o.un day)
    clear hrel
    obtain ⟨id1, nm1, fr1, un1, nx1, q1, cc1⟩ := o
    replace SP1 : 0 ≤ fr1 ∧ fr1 < un1 ∧ un1 ≤ 1048576 := SP1
    replace HS : Hid (∀ V, Calls Try.prog 31 #[.agg #[.int .i64 fr1, .int .i64 un1], .int .i64 day] V fun e w' => e = .returned (.bool (hasB fr1 un1 day)) ∧ Below V.heap.size V w') := HS
    have LEN := Lib.hid (show pre.length ≤ 1048576 by
      have : (pre.length : Int) ≤ fr1 := LE.out
      omega)
    have a0 : wr.cell? ⟨g, off + i * 5, none⟩ = some (.int .i64 id1) := OAT.out.c0
    have OA := Lib.hid (OW.out.alloc (.cells #[.int .i64 id1] 3))
    have BA := Lib.hid (BL.out.alloc BL.out.size (.cells #[.int .i64 id1] 3))
    have SZ := Lib.hid (show w.heap.size ≤ (wr.alloc (.cells #[.int .i64 id1] 3)).heap.size by have := BL.out.size; simp; omega)
    have SP := Lib.hid SP1
    clear SP1
    go_wp2_with (at_builtin; refine wpList_append_own _ rfl _ _ 28 rfl w.heap.size 3 ai (.int .i64 0) 1 8 US hii hz0 hz1 hz2 rfl (by decide) _ _ _ rfl OA.out ⟨wr.heap.size, 0, none⟩ 1 1 [.int .i64 id1] rfl rfl (cell_one_new _ _ _) (by simp [Value.oneCell']) (by have := LEN.out; unfold maxLen; omega) (by have := LEN.out; omega) SZ.out ?_)
    intro v5 w5 own5 g5 _
    have B5 := BA.out.grown g5 BA.out.size (fun k hk => own_from OA.out k hk)
    have O5 := Lib.hid (show w5.ownsRow w.heap.size 3 1 v5 (pre ++ [id1]).length ((pre ++ [id1]).map encZ) by simpa [encZ] using own5)
    have OB := Lib.hid ((HCL.out i _ HO1.out).below B5)
    have HB5 := Lib.hid B5
    have e2 : w5.cell? ⟨g, off + i * 5 + 2, none⟩ = some (.int .i64 fr1) := OB.out.c2
    have e3 : w5.cell? ⟨g, off + i * 5 + 3, none⟩ = some (.int .i64 un1) := OB.out.c3
    have H5 := Lib.hid (HS.out w5)
    clear own5 g5 B5 a0 BA OA OW
    cases hb : hasB fr1 un1 day with
    | true =>
      rw [hb] at H5
      have CC := Lib.hid (CH.out _ (STOP.out (Or.inl hb)))
      have CL := Lib.hid (CC.out.one HC.out)
      clear hb STEP STOP CH CC
      go_wp2_with fail
      refine H5.out.mono ?_; rintro e w6 ⟨rfl, b6⟩
      have B6 := Lib.hid (HB5.out.trans (b6.mono HB5.out.size))
      have Z6 := Lib.hid (own_isZ (own_below O5.out b6))
      clear b6 H5
      go_wp2_with fail
      go_ret
      exact ⟨_, rfl, by rw [← CL.out]; exact Z6.out, B6.out⟩
    | false =>
      rw [hb] at H5
      have HB := Lib.hid hb
      clear hb
      cases nx1 with
      | nil =>
        have CC := Lib.hid (CH.out _ (STOP.out (Or.inr rfl)))
        have CL := Lib.hid (CC.out.one HC.out)
        clear STEP STOP CH CC
        go_wp2_with fail
        refine H5.out.mono ?_; rintro e w6 ⟨rfl, b6⟩
        have B6 := Lib.hid (HB5.out.trans (b6.mono HB5.out.size))
        have Z6 := Lib.hid (own_isZ (own_below O5.out b6))
        have e4 : w6.cell? ⟨g, off + i * 5 + 4, none⟩ = some (.slice q1 0 cc1) := (OB.out.below b6).c4
        clear b6 H5
        go_wp2_with fail
        go_ret
        exact ⟨_, rfl, by rw [← CL.out]; exact Z6.out, B6.out⟩
      | cons x r =>
        obtain ⟨j, o2, hj, ho2, -, hfr⟩ := GO.out.ix x (List.mem_cons_self ..)
        have hjn : j < n := by rw [HN.out]; exact (List.getElem?_eq_some_iff.1 ho2).1
        have SP2 := of_decide_eq_true (good_ok HG.out ho2).sp
        replace hfr : o2.fr = un1 := hfr
        have G6 := Lib.hid (show (1048576 - fr1).toNat < gk ∧ (1048576 - o2.fr).toNat < (1048576 - fr1).toNat ∧ (((pre ++ [id1]).length : Nat) : Int) ≤ o2.fr by
          have h1 : (1048576 - fr1).toNat < gk := GG.out
          have h2 : (pre.length : Int) ≤ fr1 := LE.out
          have h3 := SP.out
          refine ⟨h1, by omega, ?_⟩
          rw [List.length_append, List.length_singleton]
          omega)
        have CH2 := Lib.hid (fun (L : List Int) (h : Ch os day j L) => show Ch os day i0 ((pre ++ [id1]) ++ L) by
          have := CH.out _ (STEP.out j x r L HB.out rfl hj h)
          rw [List.append_assoc]; exact this)
        have HO2 := Lib.hid ho2
        have Z : ixZ os x = (j : Int) := by unfold ixZ; rw [hj]
        have FX := Lib.hid (fun (V : World) (hb : Below w.heap.size w V) => FD.out V x hb)
        simp only [Z] at FX
        obtain ⟨qq, cq, eq1, hcq, hq⟩ := OB.out.nx
        obtain ⟨g3, off3, rfl, hg3, hc3⟩ := hq (by simp)
        have x0 : w5.cell? ⟨g3, off3, none⟩ = some (.int .i64 x) := hc3 0 (by simp)
        obtain ⟨eqa, _, eqb⟩ := Value.slice.inj eq1
        subst eqa eqb
        clear STEP STOP CH GO hc3 hq SP2 hj ho2 eq1 hfr Z SP LE HO1 FD
        go_wp2_with fail
        refine H5.out.mono ?_; rintro e w6 ⟨rfl, b6⟩
        have B6 := Lib.hid (HB5.out.trans (b6.mono HB5.out.size))
        have O6 := Lib.hid (own_below O5.out b6)
        have e4 : w6.cell? ⟨g, off + i * 5 + 4, none⟩ = some (.slice (some ⟨g3, off3, none⟩) (r.length + 1) cc1) := (OB.out.below b6).c4
        have x6 := (b6.cell (p := ⟨g3, off3, none⟩) hg3).trans x0
        have F6 := Lib.hid (FX.out w6 B6.out)
        clear b6 H5 x0 e2 e3 FX
        go_wp2_with fail
        refine F6.out.mono ?_; rintro e w7 ⟨rfl, rfl⟩
        go_wp2_with fail
        go_roundg ((1048576 - fr1).toNat)
        case measure => exact G6.out.1
        case rel => exact ⟨j, o2, pre ++ [id1], rfl, hjn, ⟨HO2.out, O6.out, B6.out, CH2.out, G6.out.2.2⟩, G6.out.2.1⟩
theorem Ch.len {os : List Of} (hg : (ckV os).2 = 0) {day : Int} {i : Nat} {L : List Int} (h : Ch os day i L) : ∃ o, os[i]? = some o ∧ (L.length : Int) ≤ 1048577 - o.fr := by
  induction h with
  | stop ho _ =>
    have sp := of_decide_eq_true (good_ok hg ho).sp
    exact ⟨_, ho, by simp; omega⟩
  | step ho hb hx hj _ ih =>
    obtain ⟨o2, ho2, hl⟩ := ih
    obtain ⟨j', o3, hj', ho3, _, hf⟩ := (good_ok hg ho).ix _ (by rw [hx]; exact List.mem_cons_self ..)
    rw [hj] at hj'
    cases hj'
    rw [ho2] at ho3
    cases ho3
    have sp := of_decide_eq_true (good_ok hg ho).sp
    exact ⟨_, ho, by rw [List.length_cons]; omega⟩
theorem Ch.len' {os : List Of} (hg : (ckV os).2 = 0) {day : Int} {i : Nat} {L : List Int} (h : Ch os day i L) : L.length ≤ 1048577 := by
  obtain ⟨o, ho, hl⟩ := h.len hg
  have sp := of_decide_eq_true (good_ok hg ho).sp
  omega
set_option maxRecDepth 100000 in
set_option maxHeartbeats 8000000 in
theorem rHeir_any (v : Value) (os : List Of) (id day : Int) (w : World) (hv : IsO w v os) (hn : os.length ≤ 1000) (hr : NumO os) {L : List Int} (hL : CV os id day L) :
    Calls Try.prog 12 #[v, .int .i64 id, .int .i64 day] w fun e w' => e = .returned (.tuple #[.int .i64 (hrT os day L).1, .bool (hrT os day L).2]) ∧ Below w.heap.size w w' := by
  have CN := Lib.hid (rChain_any v os id day w hv hn hr hL)
  have FD := Lib.hid (fun (V : World) (x : Int) (hb : Below w.heap.size w V) => rFind_any v os x V (hv.below hb) hn)
  by_cases l0 : L = []
  · subst l0
    clear hL hv hn hr
    go_enter Try.func12, Try.ntmps12
    go_wp2_with fail
    refine CN.out.mono ?_; rintro e w1 ⟨u, rfl, ⟨p, c, rfl, -, -⟩, b1⟩
    have B1 := Lib.hid b1
    clear b1 CN
    go_wp2_with fail
    go_ret2
    exact ⟨rfl, B1.out⟩
  have hc : (ckV os).2 = 0 ∧ ∃ i0, ixO os id = some i0 ∧ Ch os day i0 L := by
    rcases hL with h | ⟨_, h⟩
    · exact h
    · exact absurd h l0
  obtain ⟨hg, i0, h0, hch⟩ := hc
  have HT := Lib.hid (show hrT os day L = hrV os day L from if_neg l0)
  rw [HT.out]
  obtain ⟨k, ol, hol, hlast⟩ := hch.mem (L.getLastD 0) (last_mem hch.pos)
  have hne : ixO os (L.getLastD 0) ≠ none := fun e => (ixO_none.1 e) ol (List.mem_of_getElem? hol) hlast
  obtain ⟨j, hj⟩ := Option.ne_none_iff_exists'.1 hne
  obtain ⟨o, ho, -⟩ := ixO_at hj
  have hjn := ixO_lt hj
  obtain ⟨p, c, rfl, hcap, hp⟩ := hv
  obtain ⟨g, off, rfl, hcell⟩ := hp (by omega)
  have OA := Lib.hid (hcell j o ho)
  have IN : inF os day (L.getLastD 0) = hasB o.fr o.un day := by
    unfold inF; rw [hj]; show (match os[j]? with | some o => hasB o.fr o.un day | none => false) = _; rw [ho]
  have RV := Lib.hid (show hrV os day L = if hasB o.fr o.un day = true then (L.getLastD 0, true) else (0, false) by unfold hrV; rw [IN])
  obtain ⟨R, hR⟩ : ∃ R, R = hrV os day L := ⟨_, rfl⟩
  rw [← hR] at RV ⊢
  have HS := Lib.hid (In_any o.fr o.un day)
  have POS := Lib.hid hch.pos
  have LB := Lib.hid (hch.len' hg)
  have Z : ixZ os (L.getLastD 0) = (j : Int) := by unfold ixZ; rw [hj]
  have FX := Lib.hid (fun (V : World) (hb : Below w.heap.size w V) => show Calls Try.prog 32 #[.slice (some ⟨g, off, none⟩) os.length c, .int .i64 (L.getLastD 0)] V fun e w' => e = .returned (.int .i64 (j : Int)) ∧ w' = V from by rw [← Z]; exact FD.out V _ hb)
  obtain ⟨n, hnn⟩ : ∃ n, n = os.length := ⟨_, rfl⟩
  rw [← hnn] at CN hjn hcap hn FX ⊢
  clear hp hol hlast hne hj ho IN hR hL hcell hg hr h0 hnn Z FD HT l0 hch
  obtain ⟨id1, nm1, fr1, un1, nx1, q1, cc1⟩ := o
  replace HS : Hid (∀ V, Calls Try.prog 31 #[.agg #[.int .i64 fr1, .int .i64 un1], .int .i64 day] V fun e w' => e = .returned (.bool (hasB fr1 un1 day)) ∧ Below V.heap.size V w') := HS
  replace RV : Hid (R = if hasB fr1 un1 day = true then (L.getLastD 0, true) else (0, false)) := RV
  go_enter Try.func12, Try.ntmps12
  go_wp2_with fail
  refine CN.out.mono ?_; rintro e w1 ⟨u, rfl, iz, b1⟩
  obtain ⟨g2, off2, c2, m, rfl, hm1, hg2, hlen, cl⟩ := isZ_last iz POS.out
  have B1 := Lib.hid b1
  have OB := OA.out.below b1
  have z2 : w1.cell? ⟨g, off + j * 5 + 2, none⟩ = some (.int .i64 fr1) := OB.c2
  have z3 : w1.cell? ⟨g, off + j * 5 + 3, none⟩ = some (.int .i64 un1) := OB.c3
  have mb : m + 1 ≤ 1048577 := by have := LB.out; omega
  obtain ⟨q, hq⟩ : ∃ q, q = m + 1 := ⟨_, rfl⟩
  have q1 : wrap64 ((q : Int) - 1) = (m : Int) := by rw [hq]; unfold wrap64; omega
  have q2 : (m : Int) < (q : Int) := by omega
  have q3 : m < q := by omega
  have q0 : ((q : Int) == 0) = false := by simp; omega
  have q4 : ¬ q = 0 := by omega
  rw [← hq] at hm1 ⊢
  have F1 := Lib.hid (FX.out w1 b1)
  have H1 := Lib.hid (HS.out w1)
  obtain ⟨l, hl⟩ : ∃ l, l = L.getLastD 0 := ⟨_, rfl⟩
  rw [← hl] at F1 RV cl
  clear iz b1 OB CN HS FX hl hlen mb hq
  go_wp2_with fail
  refine F1.out.mono ?_; rintro e w2 ⟨rfl, hw2⟩
  obtain rfl : w1 = w2 := hw2.symm
  go_wp2_with fail
  refine H1.out.mono ?_; rintro e w3 ⟨rfl, b3⟩
  have cl3 := (b3.cell (p := ⟨g2, off2 + m, none⟩) hg2).trans cl
  have B3 := Lib.hid (B1.out.trans (b3.mono B1.out.size))
  clear b3 H1 F1
  cases hb : hasB fr1 un1 day with
  | true =>
    rw [hb] at RV
    go_wp2_with fail
    go_ret2
    exact ⟨by rw [RV.out]; rfl, B3.out⟩
  | false =>
    rw [hb] at RV
    go_wp2_with fail
    go_ret2
    exact ⟨by rw [RV.out]; rfl, B3.out⟩
end Go.Proofs.Ytlmgjgcdfhccaaa
