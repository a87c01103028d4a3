/- Check. -/
import Derived.Test.YtlmgjgcdfhccaaaOH
namespace Go.Proofs.Ytlmgjgcdfhccaaa
open Go.RowKit Go.Maps Go.Shelf

/-- What is wrong with the office at an index. -/
def prevId (os : List Of) (i : Nat) : Int := ((os[i - 1]?).map (·.id)).getD 0
def fE (os : List Of) (i : Nat) : Int := match os[i]? with
  | none => 0
  | some o => if selfE o ≠ 0 then selfE o else if 0 < i ∧ o.id ≤ prevId os i then 5 else sucE os o
/-- The first fault of the first offices. -/
def ckI (os : List Of) : Nat → Int × Int
  | 0 => (-1, 0)
  | k + 1 => if (ckI os k).2 = 0 then (if fE os k = 0 then (-1, 0) else (k, fE os k)) else ckI os k
theorem ckI_zero (os : List Of) : ∀ k, (ckI os k).2 = 0 → ckI os k = (-1, 0)
  | 0, _ => rfl
  | k + 1, h => by
    have ih := ckI_zero os k
    unfold ckI at h ⊢
    by_cases e : (ckI os k).2 = 0
    · rw [if_pos e] at h ⊢
      by_cases f : fE os k = 0
      · rw [if_pos f]
      · rw [if_neg f] at h; exact absurd h f
    · rw [if_neg e] at h; exact absurd h e
theorem ckI_stop (os : List Of) {k n : Nat} (h : (ckI os k).2 ≠ 0) : k ≤ n → ckI os n = ckI os k := by
  intro hk
  induction n with
  | zero => rw [Nat.le_zero.1 hk]
  | succ n ih =>
    by_cases c : k = n + 1
    · rw [c]
    · have e := ih (by omega)
      show (if (ckI os n).2 = 0 then (if fE os n = 0 then (-1, 0) else ((n : Int), fE os n)) else ckI os n) = _
      rw [e, if_neg h]
theorem ckI_at (os : List Of) {k n : Nat} (h0 : (ckI os k).2 = 0) (h : fE os k ≠ 0) (hk : k < n) : ckI os n = ((k : Int), fE os k) := by
  have e : ckI os (k + 1) = ((k : Int), fE os k) := by
    show (if (ckI os k).2 = 0 then (if fE os k = 0 then (-1, 0) else ((k : Int), fE os k)) else ckI os k) = _
    rw [if_pos h0, if_neg h]
  rw [← e]
  exact ckI_stop os (by rw [e]; exact h) (by omega)
theorem ckI_next (os : List Of) {k : Nat} (h0 : (ckI os k).2 = 0) (h : fE os k = 0) : (ckI os (k + 1)).2 = 0 := by
  show (if (ckI os k).2 = 0 then (if fE os k = 0 then (-1, 0) else ((k : Int), fE os k)) else ckI os k).2 = 0
  rw [if_pos h0, if_pos h]
def ckV (os : List Of) : Int × Int := if 32 < os.length then (-1, 8) else ckI os os.length
theorem fE_self {os : List Of} {k : Nat} {o : Of} (ho : os[k]? = some o) (h : selfE o ≠ 0) : fE os k = selfE o := by unfold fE; rw [ho]; exact if_pos h
theorem fE_ord {os : List Of} {k : Nat} {o : Of} (ho : os[k]? = some o) (h : selfE o = 0) (g : 0 < k ∧ o.id ≤ prevId os k) : fE os k = 5 := by
  unfold fE; rw [ho]; show (if selfE o ≠ 0 then selfE o else if 0 < k ∧ o.id ≤ prevId os k then 5 else sucE os o) = 5
  rw [if_neg (fun e => e h), if_pos g]
theorem fE_suc {os : List Of} {k : Nat} {o : Of} (ho : os[k]? = some o) (h : selfE o = 0) (g : ¬ (0 < k ∧ o.id ≤ prevId os k)) : fE os k = sucE os o := by
  unfold fE; rw [ho]; show (if selfE o ≠ 0 then selfE o else if 0 < k ∧ o.id ≤ prevId os k then 5 else sucE os o) = _
  rw [if_neg (fun e => e h), if_neg g]

set_option maxRecDepth 100000 in
set_option maxHeartbeats 8000000 in
theorem Check_any (v : Value) (os : List Of) (w : World) (hw : Lw w) (hv : IsO w v os) (hn : os.length ≤ 1000) (hr : NumO os) :
    Calls Try.prog 23 #[v] w fun e w' => e = .returned (.tuple #[.int .i64 (ckV os).1, .int .i64 (ckV os).2]) ∧ Below w.heap.size w w' := by
  have HV := Lib.hid hv
  have IN := Lib.hid (indexed_any v os w hv hn hr)
  obtain ⟨p, c, rfl, hc, hp⟩ := hv
  obtain ⟨n, hnn⟩ : ∃ n, n = os.length := ⟨_, rfl⟩
  by_cases h32 : 32 < n
  · have N := Lib.hid (show ckV os = (-1, 8) by unfold ckV; rw [if_pos (by rw [← hnn]; exact h32)])
    have d : decide (32 < (n : Int)) = true := by simp; omega
    rw [N.out, ← hnn]
    clear IN HV hp hc hn h32 hnn
    go_enter Try.func23, Try.ntmps23
    go_wp2_with fail
    go_ret2
    exact ⟨rfl, Below.refl _ _⟩
  have d : decide (32 < (n : Int)) = false := by simp; omega
  have N := Lib.hid (show ckV os = ckI os n by unfold ckV; rw [if_neg (by rw [← hnn]; exact h32), ← hnn])
  rw [N.out]
  rw [← hnn] at hn hc IN HV ⊢
  have HN := Lib.hid hnn
  have HP := Lib.hid hp
  have HR := Lib.hid hr
  have HW := Lib.hid hw
  have n32 : n ≤ 32 := by omega
  clear hp hnn hr hw h32 N
  go_enter Try.func23, Try.ntmps23
  go_wp2_with fail
  refine IN.out.mono ?_; rintro e w1 ⟨rfl, ix1, b1⟩
  have I1 := Lib.hid ix1
  have B1 := Lib.hid b1
  have bl := ix1.lt
  clear ix1 b1 IN
  go_wp2_with fail
  go_loopw [15] (fun si wr => ∃ k : Nat, k ≤ n ∧ si = .int .i64 k ∧ Hid (Below w1.heap.size w1 wr ∧ (ckI os k).2 = 0)) (fun si _ => n - (intOf si).toNat)
  case atStart => exact ⟨0, Nat.zero_le _, rfl, Below.refl _ _, rfl⟩
  case round =>
    obtain ⟨k, hk, rfl, hrel⟩ := hrel
    by_cases hlt : k < n
    · obtain ⟨o, ho⟩ : ∃ o, os[k]? = some o := ⟨_, List.getElem?_eq_getElem (by rw [← HN.out]; exact hlt)⟩
      obtain ⟨g, off, rfl, hcell⟩ := HP.out (by rw [← HN.out]; omega)
      have BR := Lib.hid (B1.out.trans (hrel.out.1.mono B1.out.size))
      have OA := (hcell k o ho).below BR.out
      obtain ⟨NW, _, _, NX, NL⟩ := HR.out o (List.mem_of_getElem? ho)
      have KA := Lib.hid (fun h => ckI_at os hrel.out.2 (k := k) h hlt)
      have KN := Lib.hid (fun h => ckI_next os hrel.out.2 (k := k) h)
      have FS := Lib.hid (fun h => fE_self ho h)
      have FO := Lib.hid (fun h g => fE_ord ho h g)
      have FU := Lib.hid (fun h g => fE_suc ho h g)
      have FL := Lib.hid (fun V hV => fault_any o V hV)
      have NF := Lib.hid (fun (hl : o.nx.length ≤ 1000) (V : World) (hb : Below w1.heap.size w1 V) (hz : IsZ V o.nv o.nx) => nextFault_any (.slice (some ⟨g, off, none⟩) n c) os w.heap.size o V ((HV.out.below B1.out).below hb) (by rw [← HN.out]; exact hn) (I1.out.below hb) hz NX hl)
      have SL := Lib.hid (fun h => self_len (o := o) h)
      have ZZ := Lib.hid OA.nx
      have R1 := Lib.hid hrel.out.1
      obtain ⟨E1, hE1⟩ : ∃ E, E = selfE o := ⟨_, rfl⟩
      obtain ⟨E2, hE2⟩ : ∃ E, E = sucE os o := ⟨_, rfl⟩
      simp only [← hE1, ← hE2] at FS FO FU FL NF SL
      replace SL : Hid (E1 = 0 → o.nx.length ≤ 1000) := SL
      clear hE1 hE2 hrel ho NW NX NL
      obtain ⟨id, nm, fr, un, nx, q, cc⟩ := o
      obtain ⟨lt0, c0, c1, c2, c3, c4, _⟩ := OA
      replace c0 : wr.cell? ⟨g, off + k * 5, none⟩ = some (.int .i64 id) := c0
      replace c1 : wr.cell? ⟨g, off + k * 5 + 1, none⟩ = some (.string nm.1) := c1
      replace c2 : wr.cell? ⟨g, off + k * 5 + 2, none⟩ = some (.int .i64 fr) := c2
      replace c3 : wr.cell? ⟨g, off + k * 5 + 3, none⟩ = some (.int .i64 un) := c3
      replace c4 : wr.cell? ⟨g, off + k * 5 + 4, none⟩ = some (.slice q nx.length cc) := c4
      replace ZZ : Hid (IsZ wr (.slice q nx.length cc) nx) := ZZ
      replace FO : Hid (E1 = 0 → 0 < k ∧ id ≤ prevId os k → fE os k = 5) := FO
      replace FU : Hid (E1 = 0 → ¬ (0 < k ∧ id ≤ prevId os k) → fE os k = E2) := FU
      replace FL : Hid (∀ V, Lw V → Calls Try.prog 44 #[.agg #[.int .i64 id, .string nm.1, .int .i64 fr, .int .i64 un, .slice q nx.length cc]] V fun e w' => e = .returned (.int .i64 E1) ∧ Below V.heap.size V w') := FL
      replace SL : Hid (E1 = 0 → nx.length ≤ 1000) := SL
      replace NF : Hid (nx.length ≤ 1000 → ∀ V, Below w1.heap.size w1 V → IsZ V (.slice q nx.length cc) nx → Calls Try.prog 45 #[.slice (some ⟨g, off, none⟩) n c, .map (some w.heap.size), .agg #[.int .i64 id, .string nm.1, .int .i64 fr, .int .i64 un, .slice q nx.length cc]] V fun e w' => e = .returned (.int .i64 E2) ∧ Below V.heap.size V w') := NF
      have wk := wr.heap.size
      obtain ⟨W0, hW0⟩ : ∃ W0, W0 = wr.alloc (.cells #[.int .i64 id, .string nm.1, .int .i64 fr, .int .i64 un, .slice q nx.length cc] 43) := ⟨_, rfl⟩
      have z0 : W0.cell? ⟨wr.heap.size, 0, none⟩ = some (.int .i64 id) := by rw [hW0]; exact World.cell?_alloc_mark wr _ _ (0, 0) 0
      have z1 : W0.cell? ⟨wr.heap.size, 1, none⟩ = some (.string nm.1) := by rw [hW0]; exact World.cell?_alloc_mark wr _ _ (0, 0) 1
      have z2 : W0.cell? ⟨wr.heap.size, 2, none⟩ = some (.int .i64 fr) := by rw [hW0]; exact World.cell?_alloc_mark wr _ _ (0, 0) 2
      have z3 : W0.cell? ⟨wr.heap.size, 3, none⟩ = some (.int .i64 un) := by rw [hW0]; exact World.cell?_alloc_mark wr _ _ (0, 0) 3
      have z4 : W0.cell? ⟨wr.heap.size, 4, none⟩ = some (.slice q nx.length cc) := by rw [hW0]; exact World.cell?_alloc_mark wr _ _ (0, 0) 4
      have zs : wr.heap.size < W0.heap.size := by rw [hW0]; simp
      have B0 : Below wr.heap.size wr W0 := by rw [hW0]; exact (Below.refl _ wr).alloc (Nat.le_refl _) _
      have R0 := Lib.hid (R1.out.trans (B0.mono R1.out.size))
      have Z0 := Lib.hid (ZZ.out.below B0)
      have L0 := Lib.hid ((HW.out.below B1.out).below R0.out)
      have F0 := Lib.hid (FL.out W0 L0.out)
      clear FL B0 ZZ hcell
      go_wp2_with fail
      rw [← hW0]
      clear hW0 c0 c1 c2 c3 c4
      go_wp2_with fail
      refine F0.out.mono ?_; rintro e w2 ⟨rfl, b2⟩
      have R2 := Lib.hid (R0.out.trans (b2.mono R0.out.size))
      have Z2 := Lib.hid (Z0.out.below b2)
      have y0 := (b2.cell (p := ⟨wr.heap.size, 0, none⟩) zs).trans z0
      have y1 := (b2.cell (p := ⟨wr.heap.size, 1, none⟩) zs).trans z1
      have y2 := (b2.cell (p := ⟨wr.heap.size, 2, none⟩) zs).trans z2
      have y3 := (b2.cell (p := ⟨wr.heap.size, 3, none⟩) zs).trans z3
      have y4 := (b2.cell (p := ⟨wr.heap.size, 4, none⟩) zs).trans z4
      clear z0 z1 z2 z3 z4 F0 Z0 R0 R1
      have zs2 : wr.heap.size < w2.heap.size := Nat.lt_of_lt_of_le zs b2.size
      have BB := Lib.hid (B1.out.trans (R2.out.mono B1.out.size))
      have CI := Lib.hid (fun (m : Nat) (hm : m < n) => show ∃ d, w2.cell? ⟨g, off + m * 5, none⟩ = some (.int .i64 d) ∧ prevId os (m + 1) = d from by
        obtain ⟨o', ho'⟩ : ∃ o', os[m]? = some o' := ⟨_, List.getElem?_eq_getElem (by rw [← HN.out]; exact hm)⟩
        obtain ⟨g', off', e', hc'⟩ := HP.out (by rw [← HN.out]; omega)
        cases e'
        refine ⟨o'.id, ((hc' m o' ho').below BB.out).c0, ?_⟩
        unfold prevId
        rw [Nat.add_sub_cancel, ho']; rfl)
      clear b2 BR zs lt0
      by_cases e0 : E1 = 0
      rotate_left
      · have N := Lib.hid (show ckI os n = ((k : Int), E1) by rw [KA.out (by rw [FS.out e0]; exact e0), FS.out e0])
        have g1 : (E1 == 0) = false := by simpa using e0
        have g2 : (E1 != 0) = true := by simpa using e0
        clear KA KN FS FO FU NF CI e0 Z2 SL
        go_wp2_with fail
        go_quiet (fail)
        go_wp2_with fail
        go_ret2
        exact ⟨by rw [N.out]; rfl, BdN BB.out _⟩
      subst e0
      have KN0 := KN
      have NEXT := Lib.hid (fun (j : Nat) => NF.out (SL.out rfl) (w2.drewN j) (BdN R2.out j) (Z2.out.below (below_drewN w2 j)))
      have FU := Lib.hid (FU.out rfl)
      have FO := Lib.hid (FO.out rfl)
      clear NF FS Z2 KN0 SL
      by_cases k0 : k = 0
      · have FE := Lib.hid (FU.out (fun h => by omega))
        have g0 : decide (0 < k) = false := by simp; omega
        have g0' : decide ((0 : Int) < (k : Int)) = false := by simp; omega
        clear FU FO CI
        go_wp2_with fail
        go_quiet (fail)
        go_wp2_with fail
        refine (NEXT.out nq).mono ?_; rintro e w3 ⟨rfl, b3⟩
        have B3 := Lib.hid ((BdN BB.out nq).trans (b3.mono BB.out.size))
        have R3 := Lib.hid ((BdN R2.out nq).trans (b3.mono R2.out.size))
        clear b3 NEXT
        by_cases e2 : E2 = 0
        · have N := Lib.hid (KN.out (by rw [FE.out]; exact e2))
          subst e2
          clear KN KA
          go_wp2_with fail
          go_roundw
          case rel => exact ⟨k + 1, by omega, by go_num, R3.out, N.out⟩
          case measure => simp [intOf]; omega
        · have N := Lib.hid (show ckI os n = ((k : Int), E2) by rw [KA.out (by rw [FE.out]; exact e2), FE.out])
          have g2 : (E2 != 0) = true := by simpa using e2
          have g3 : (E2 == 0) = false := by simpa using e2
          clear KN KA e2
          go_wp2_with fail
          go_ret2
          exact ⟨by rw [N.out, k0]; rfl, B3.out⟩
      · obtain ⟨m, rfl⟩ : ∃ m, k = m + 1 := ⟨k - 1, by omega⟩
        obtain ⟨d, cd, hd⟩ := CI.out m (by omega)
        rw [hd] at FU FO
        have g0 : decide (0 < m + 1) = true := by simp
        have g0' : decide ((0 : Int) < ((m + 1 : Nat) : Int)) = true := by simp
        have s1 : IntKind.i64.wrap (((m + 1 : Nat) : Int) - 1) = (m : Int) := by rw [show ((m + 1 : Nat) : Int) - 1 = (m : Int) from by omega]; exact IntWalk.i64_in _ ⟨by omega, by omega⟩
        have s5 : IntKind.i64.wrap ((m : Int) + 1 - 1) = (m : Int) := by rw [show (m : Int) + 1 - 1 = (m : Int) from by omega]; exact IntWalk.i64_in _ ⟨by omega, by omega⟩
        have s6 : IntKind.i64.wrap (m : Int) = (m : Int) := IntWalk.i64_in _ ⟨by omega, by omega⟩
        have s2 : (0 : Int) ≤ (m : Int) := by omega
        have s3 : (m : Int) < (n : Int) := by omega
        have s4 : ((m : Int)).toNat = m := by omega
        clear CI hd
        by_cases le : id ≤ d
        · have FE := Lib.hid (FO.out ⟨by omega, le⟩)
          have N := Lib.hid (show ckI os n = (((m + 1 : Nat) : Int), 5) by rw [KA.out (by rw [FE.out]; decide), FE.out])
          have g2 : decide (id ≤ d) = true := by simpa using le
          clear FU FO KA KN NEXT le
          go_wp2_with fail
          go_quiet (fail)
          go_wp2_with fail
          go_ret2
          exact ⟨by rw [N.out]; rfl, BdN BB.out _⟩
        · have FE := Lib.hid (FU.out (fun h => le h.2))
          have g2 : decide (id ≤ d) = false := by simpa using le
          clear FU FO le
          go_wp2_with fail
          go_quiet (fail)
          clear s1 s5 s6
          go_wp2_with fail
          refine (NEXT.out nq).mono ?_; rintro e w3 ⟨rfl, b3⟩
          have B3 := Lib.hid ((BdN BB.out nq).trans (b3.mono BB.out.size))
          have R3 := Lib.hid ((BdN R2.out nq).trans (b3.mono R2.out.size))
          clear b3 NEXT
          by_cases e2 : E2 = 0
          · have N := Lib.hid (KN.out (by rw [FE.out]; exact e2))
            subst e2
            clear KN KA
            go_wp2_with fail
            go_roundw
            case rel => exact ⟨m + 1 + 1, by omega, by go_num, R3.out, N.out⟩
            case measure => simp [intOf]; omega
          · have N := Lib.hid (show ckI os n = (((m + 1 : Nat) : Int), E2) by rw [KA.out (by rw [FE.out]; exact e2), FE.out])
            have g3 : (E2 != 0) = true := by simpa using e2
            have g4 : (E2 == 0) = false := by simpa using e2
            clear KN KA e2
            go_wp2_with fail
            go_ret2
            exact ⟨by rw [N.out]; rfl, B3.out⟩
    · obtain rfl : k = n := by omega
      have N := Lib.hid (ckI_zero os k hrel.out.2)
      have B := Lib.hid (B1.out.trans (hrel.out.1.mono B1.out.size))
      clear hrel
      go_wp2_with fail
      go_ret2
      exact ⟨by rw [N.out]; rfl, B.out⟩
end Go.Proofs.Ytlmgjgcdfhccaaa
