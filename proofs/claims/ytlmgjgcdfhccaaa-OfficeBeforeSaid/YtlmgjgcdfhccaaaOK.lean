/- The reference's fault, Check. -/
import Derived.Test.YtlmgjgcdfhccaaaOJ
namespace Go.Proofs.Ytlmgjgcdfhccaaa
open Go.RowKit Go.Maps Go.Shelf

set_option maxRecDepth 100000 in
set_option maxHeartbeats 8000000 in
theorem rfault_any (v : Value) (os : List Of) (k : Nat) (w : World) (hv : IsO w v os) (hn : os.length ≤ 1000) (hr : NumO os) (hk : k < os.length) :
    Calls Try.prog 54 #[v, .int .i64 (k : Int)] w fun e w' => e = .returned (.int .i64 (fE os k)) ∧ Below w.heap.size w w' := by
  have HV := Lib.hid hv
  obtain ⟨p, c, rfl, hc, hp⟩ := hv
  obtain ⟨o, ho⟩ : ∃ o, os[k]? = some o := ⟨_, List.getElem?_eq_getElem hk⟩
  obtain ⟨g, off, rfl, hcell⟩ := hp (by omega)
  obtain ⟨n, hnn⟩ : ∃ n, n = os.length := ⟨_, rfl⟩
  have OA := hcell k o ho
  obtain ⟨NW, _, _, NX, NL⟩ := hr o (List.mem_of_getElem? ho)
  have FS := Lib.hid (fun h => fE_self ho h)
  have FO := Lib.hid (fun h g => fE_ord ho h g)
  have FU := Lib.hid (fun h g => fE_suc ho h g)
  have NO := Lib.hid (fun h => rng_no (o := o) h)
  have YES := Lib.hid (fun h => rng_yes (o := o) h)
  have NF := Lib.hid (fun (hl : o.nx.length ≤ 1000) (V : World) (hb : Below w.heap.size w V) => successors_any (.slice (some ⟨g, off, none⟩) os.length c) os o V (HV.out.below hb) hn (OA.nx.below hb) hl)
  have CI := Lib.hid (fun (m : Nat) (hm : m < os.length) => show ∃ d, w.cell? ⟨g, off + m * 5, none⟩ = some (.int .i64 d) ∧ prevId os (m + 1) = d from by
    obtain ⟨o', ho'⟩ : ∃ o', os[m]? = some o' := ⟨_, List.getElem?_eq_getElem hm⟩
    refine ⟨o'.id, (hcell m o' ho').c0, ?_⟩
    unfold prevId
    rw [Nat.add_sub_cancel, ho']; rfl)
  obtain ⟨E1, hE1⟩ : ∃ E, E = selfE o := ⟨_, rfl⟩
  obtain ⟨E2, hE2⟩ : ∃ E, E = sucE os o := ⟨_, rfl⟩
  obtain ⟨E, hE⟩ : ∃ E, E = fE os k := ⟨_, rfl⟩
  simp only [← hE1, ← hE2, ← hE] at FS FO FU NO YES NF ⊢
  rw [← hnn] at hn hk hc NF CI HV ⊢
  clear hE1 hE2 hE ho NW NX NL hp hcell hr hnn
  obtain ⟨id, nm, fr, un, nx, q, cc⟩ := o
  obtain ⟨lt0, c0, c1, c2, c3, c4, _⟩ := OA
  replace c0 : w.cell? ⟨g, off + k * 5, none⟩ = some (.int .i64 id) := c0
  replace c1 : w.cell? ⟨g, off + k * 5 + 1, none⟩ = some (.string nm.1) := c1
  replace c2 : w.cell? ⟨g, off + k * 5 + 2, none⟩ = some (.int .i64 fr) := c2
  replace c3 : w.cell? ⟨g, off + k * 5 + 3, none⟩ = some (.int .i64 un) := c3
  replace c4 : w.cell? ⟨g, off + k * 5 + 4, none⟩ = some (.slice q nx.length cc) := c4
  replace FO : Hid (E1 = 0 → 0 < k ∧ id ≤ prevId os k → E = 5) := FO
  replace FU : Hid (E1 = 0 → ¬ (0 < k ∧ id ≤ prevId os k) → E = E2) := FU
  replace NO : Hid (¬ (1 ≤ id ∧ id ≤ 1073741824 ∧ spanB fr un = true ∧ nx.length ≤ 8) → E1 = 2) := NO
  replace YES : Hid (1 ≤ id ∧ id ≤ 1073741824 ∧ spanB fr un = true ∧ nx.length ≤ 8 → E1 = if nmL (bts nm) = true then 0 else 4) := YES
  replace NF : Hid (nx.length ≤ 1000 → ∀ V, Below w.heap.size w V → Calls Try.prog 63 #[.slice (some ⟨g, off, none⟩) n c, .agg #[.int .i64 id, .string nm.1, .int .i64 fr, .int .i64 un, .slice q nx.length cc]] V fun e w' => e = .returned (.int .i64 E2) ∧ Below V.heap.size V w') := NF
  obtain ⟨l, hl⟩ : ∃ l, l = nx.length := ⟨_, rfl⟩
  rw [← hl] at c4 NO YES NF
  clear hl
  obtain ⟨W, hW⟩ : ∃ W, W = w.alloc (.cells #[.int .i64 id, .string nm.1, .int .i64 fr, .int .i64 un, .slice q l cc] 43) := ⟨_, rfl⟩
  have BW : Below w.heap.size w W := by rw [hW]; exact (Below.refl _ w).alloc (Nat.le_refl _) _
  have z0 : W.cell? ⟨w.heap.size, 0, none⟩ = some (.int .i64 id) := by rw [hW]; exact World.cell?_alloc_mark w _ _ (0, 0) 0
  have z1 : W.cell? ⟨w.heap.size, 1, none⟩ = some (.string nm.1) := by rw [hW]; exact World.cell?_alloc_mark w _ _ (0, 0) 1
  have z2 : W.cell? ⟨w.heap.size, 2, none⟩ = some (.int .i64 fr) := by rw [hW]; exact World.cell?_alloc_mark w _ _ (0, 0) 2
  have z3 : W.cell? ⟨w.heap.size, 3, none⟩ = some (.int .i64 un) := by rw [hW]; exact World.cell?_alloc_mark w _ _ (0, 0) 3
  have z4 : W.cell? ⟨w.heap.size, 4, none⟩ = some (.slice q l cc) := by rw [hW]; exact World.cell?_alloc_mark w _ _ (0, 0) 4
  have zs : w.heap.size < W.heap.size := by rw [hW]; simp
  have SP := Lib.hid (Good4_any fr un)
  have NM := Lib.hid (fun V => rName_any nm V)
  have HB := Lib.hid BW
  clear BW HV
  by_cases a : 1 ≤ id
  rotate_left
  · have N := Lib.hid (show E = 2 by have := NO.out fun h => a h.1; rw [FS.out (by rw [this]; decide), this])
    have d0 : decide (id < 1) = true := by simp; omega
    clear z1 z2 z3 z4 a NF CI
    go_enter Try.func54, Try.ntmps54
    go_wp2_with fail
    rw [← hW]
    go_wp2_with fail
    go_ret
    exact ⟨by rw [N.out]; rfl, HB.out⟩
  have d0 : decide (id < 1) = false := by simp; omega
  by_cases b : id ≤ 1073741824
  rotate_left
  · have N := Lib.hid (show E = 2 by have := NO.out fun h => b h.2.1; rw [FS.out (by rw [this]; decide), this])
    have d1 : decide (1073741824 < id) = true := by simp; omega
    clear z1 z2 z3 z4 a b NF CI
    go_enter Try.func54, Try.ntmps54
    go_wp2_with fail
    rw [← hW]
    go_wp2_with fail
    go_ret
    exact ⟨by rw [N.out]; rfl, HB.out⟩
  have d1 : decide (1073741824 < id) = false := by simp; omega
  by_cases gg : spanB fr un = true
  rotate_left
  · have N := Lib.hid (show E = 2 by have := NO.out fun h => gg h.2.2.1; rw [FS.out (by rw [this]; decide), this])
    have gg : spanB fr un = false := by simpa using gg
    rw [gg] at SP
    clear a b gg NF CI
    go_enter Try.func54, Try.ntmps54
    go_wp2_with fail
    rw [← hW]
    clear hW
    go_wp2_with fail
    refine (SP.out _).mono ?_; rintro e w1 ⟨rfl, b1⟩
    have B1 := Lib.hid (HB.out.trans (b1.mono HB.out.size))
    clear b1
    go_wp2_with fail
    go_ret
    exact ⟨by rw [N.out]; rfl, B1.out⟩
  rw [gg] at SP
  by_cases ll : l ≤ 8
  rotate_left
  · have N := Lib.hid (show E = 2 by have := NO.out fun h => ll h.2.2.2; rw [FS.out (by rw [this]; decide), this])
    have d2 : decide (8 < (l : Int)) = true := by simp; omega
    clear a b gg ll NF CI
    go_enter Try.func54, Try.ntmps54
    go_wp2_with fail
    rw [← hW]
    clear hW
    go_wp2_with fail
    refine (SP.out _).mono ?_; rintro e w1 ⟨rfl, b1⟩
    have B1 := Lib.hid (HB.out.trans (b1.mono HB.out.size))
    have z4 := (b1.cell (p := ⟨w.heap.size, 4, none⟩) zs).trans z4
    clear b1
    go_wp2_with fail
    go_ret
    exact ⟨by rw [N.out]; rfl, B1.out⟩
  have d2 : decide (8 < (l : Int)) = false := by simp; omega
  have Y := Lib.hid (YES.out ⟨a, b, gg, ll⟩)
  have LL := Lib.hid (show l ≤ 1000 by omega)
  clear a b gg ll NO YES
  go_enter Try.func54, Try.ntmps54
  go_wp2_with fail
  rw [← hW]
  clear hW c1 c2 c3 c4
  go_wp2_with fail
  refine (SP.out _).mono ?_; rintro e w1 ⟨rfl, b1⟩
  have B1 := Lib.hid (HB.out.trans (b1.mono HB.out.size))
  have y0 := (b1.cell (p := ⟨w.heap.size, 0, none⟩) zs).trans z0
  have y1 := (b1.cell (p := ⟨w.heap.size, 1, none⟩) zs).trans z1
  have y2 := (b1.cell (p := ⟨w.heap.size, 2, none⟩) zs).trans z2
  have y3 := (b1.cell (p := ⟨w.heap.size, 3, none⟩) zs).trans z3
  have y4 := (b1.cell (p := ⟨w.heap.size, 4, none⟩) zs).trans z4
  have N1 := Lib.hid (NM.out w1)
  clear b1 SP NM z0 z1 z2 z3 z4 c0
  go_wp2_with fail
  refine N1.out.mono ?_; rintro e w2 ⟨rfl, hw2⟩
  obtain rfl : w1 = w2 := hw2.symm
  clear N1 hw2
  cases hq : nmL (bts nm) with
  | false =>
    rw [hq] at Y
    have N := Lib.hid (show E = 4 by rw [FS.out (by rw [Y.out]; decide), Y.out]; rfl)
    go_wp2_with fail
    go_ret
    exact ⟨by rw [N.out]; rfl, B1.out⟩
  | true =>
    rw [hq] at Y
    have E10 : E1 = 0 := by rw [Y.out]; rfl
    have FO := Lib.hid (FO.out E10)
    have FU := Lib.hid (FU.out E10)
    have NEXT := Lib.hid (fun (j : Nat) => NF.out LL.out (w1.drewN j) (BdN B1.out j))
    clear hq Y E10 NF FS
    by_cases k0 : k = 0
    · have FE := Lib.hid (FU.out (fun h => by omega))
      have g0 : decide (0 < k) = false := by simp; omega
      have g0' : decide ((0 : Int) < (k : Int)) = false := by simp; omega
      clear FU FO CI
      go_wp2_with fail
      go_quiet (fail)
      go_wp2_with fail
      refine (NEXT.out nq).mono ?_; rintro e w3 ⟨rfl, b3⟩
      have B3 := Lib.hid ((BdN B1.out nq).trans (b3.mono B1.out.size))
      clear b3 NEXT
      go_wp2_with fail
      go_ret
      exact ⟨by rw [FE.out]; rfl, B3.out⟩
    · obtain ⟨m, rfl⟩ : ∃ m, k = m + 1 := ⟨k - 1, by omega⟩
      obtain ⟨d, cd, hd⟩ := CI.out m (by omega)
      have cd := (B1.out.cell (p := ⟨g, off + m * 5, none⟩) lt0).trans cd
      rw [hd] at FU FO
      have g0 : decide (0 < m + 1) = true := by simp
      have g0' : decide ((0 : Int) < ((m + 1 : Nat) : Int)) = true := by simp
      have s1 : IntKind.i64.wrap (((m + 1 : Nat) : Int) - 1) = (m : Int) := by rw [show ((m + 1 : Nat) : Int) - 1 = (m : Int) from by omega]; exact IntWalk.i64_in _ ⟨by omega, by omega⟩
      have s5 : IntKind.i64.wrap ((m : Int) + 1 - 1) = (m : Int) := by rw [show (m : Int) + 1 - 1 = (m : Int) from by omega]; exact IntWalk.i64_in _ ⟨by omega, by omega⟩
      have s6 : IntKind.i64.wrap (m : Int) = (m : Int) := IntWalk.i64_in _ ⟨by omega, by omega⟩
      have s2 : (0 : Int) ≤ (m : Int) := by omega
      have s3 : (m : Int) < (n : Int) := by omega
      have s4 : ((m : Int)).toNat = m := by omega
      clear CI hd
      by_cases le : id ≤ d
      · have FE := Lib.hid (FO.out ⟨by omega, le⟩)
        have g2 : decide (id ≤ d) = true := by simpa using le
        clear FU FO NEXT le
        go_wp2_with fail
        go_quiet (fail)
        go_wp2_with fail
        go_ret
        exact ⟨by rw [FE.out]; rfl, BdN B1.out _⟩
      · have FE := Lib.hid (FU.out (fun h => le h.2))
        have g2 : decide (id ≤ d) = false := by simpa using le
        clear FU FO le
        go_wp2_with fail
        go_quiet (fail)
        clear s1 s5 s6
        go_wp2_with fail
        refine (NEXT.out nq).mono ?_; rintro e w3 ⟨rfl, b3⟩
        have B3 := Lib.hid ((BdN B1.out nq).trans (b3.mono B1.out.size))
        clear b3 NEXT
        go_wp2_with fail
        go_ret
        exact ⟨by rw [FE.out]; rfl, B3.out⟩
set_option maxRecDepth 100000 in
set_option maxHeartbeats 4000000 in
theorem rCheck_any (v : Value) (os : List Of) (w : World) (hv : IsO w v os) (hn : os.length ≤ 1000) (hr : NumO os) :
    Calls Try.prog 42 #[v] w fun e w' => e = .returned (.tuple #[.int .i64 (ckV os).1, .int .i64 (ckV os).2]) ∧ Below w.heap.size w w' := by
  have HV := Lib.hid hv
  obtain ⟨p, c, rfl, hc, hp⟩ := hv
  obtain ⟨n, hnn⟩ : ∃ n, n = os.length := ⟨_, rfl⟩
  by_cases h32 : 32 < n
  · have N := Lib.hid (show ckV os = (-1, 8) by unfold ckV; rw [if_pos (by rw [← hnn]; exact h32)])
    have d : decide (32 < (n : Int)) = true := by simp; omega
    rw [N.out, ← hnn]
    clear HV hp hc hn h32 hnn
    go_enter Try.func42, Try.ntmps42
    go_wp2_with fail
    go_ret2
    exact ⟨rfl, Below.refl _ _⟩
  have d : decide (32 < (n : Int)) = false := by simp; omega
  have N := Lib.hid (show ckV os = ckI os n by unfold ckV; rw [if_neg (by rw [← hnn]; exact h32), ← hnn])
  rw [N.out]
  have FA := Lib.hid (fun (k : Nat) (h : k < os.length) (V : World) (hb : Below w.heap.size w V) => rfault_any _ os k V (HV.out.below hb) hn hr h)
  rw [← hnn] at hn hc FA ⊢
  have n32 : n ≤ 32 := by omega
  clear hp hnn hr h32 N HV
  go_enter Try.func42, Try.ntmps42
  go_wp2_with fail
  go_loopw [4] (fun si wr => ∃ k : Nat, k ≤ n ∧ si = .int .i64 k ∧ Hid (Below w.heap.size w wr ∧ (ckI os k).2 = 0)) (fun si _ => n - (intOf si).toNat)
  case atStart => exact ⟨0, Nat.zero_le _, rfl, Below.refl _ _, rfl⟩
  case round =>
    obtain ⟨k, hk, rfl, hrel⟩ := hrel
    by_cases hlt : k < n
    · have KA := Lib.hid (fun h => ckI_at os hrel.out.2 (k := k) h hlt)
      have KN := Lib.hid (fun h => ckI_next os hrel.out.2 (k := k) h)
      have F1 := Lib.hid (FA.out k hlt wr hrel.out.1)
      have BB := Lib.hid hrel.out.1
      obtain ⟨E, hE⟩ : ∃ E, E = fE os k := ⟨_, rfl⟩
      simp only [← hE] at KA KN F1
      clear hE hrel
      go_wp2_with fail
      refine F1.out.mono ?_; rintro e w1 ⟨rfl, b1⟩
      have B1 := Lib.hid (BB.out.trans (b1.mono BB.out.size))
      clear b1 F1
      by_cases e0 : E = 0
      · have N := Lib.hid (KN.out e0)
        subst e0
        clear KA KN
        go_wp2_with fail
        go_roundw
        case rel => exact ⟨k + 1, by omega, by go_num, B1.out, N.out⟩
        case measure => simp [intOf]; omega
      · have N := Lib.hid (KA.out e0)
        have g1 : (E == 0) = false := by simpa using e0
        have g2 : (E != 0) = true := by simpa using e0
        clear KA KN e0
        go_wp2_with fail
        go_ret2
        exact ⟨by rw [N.out]; rfl, B1.out⟩
    · obtain rfl : k = n := by omega
      have N := Lib.hid (ckI_zero os k hrel.out.2)
      have B := Lib.hid hrel.out.1
      clear hrel
      go_wp2_with fail
      go_ret2
      exact ⟨by rw [N.out]; rfl, B.out⟩
end Go.Proofs.Ytlmgjgcdfhccaaa
