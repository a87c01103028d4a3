/- OfficeBefore. -/
import Derived.Test.YtlmgjgcdfhccaaaPP
import Derived.Test.YtlmgjgcdfhccaaaPB
namespace Go.Proofs.Ytlmgjgcdfhccaaa
open Go.RowKit Go.Maps Go.Shelf

theorem equalS_any (v u : Value) (zs : List Int) (w : World) (hv : IsZ w v zs) (hu : IsZ w u zs) (hn : zs.length ≤ 1000000) :
    Calls Try.prog 27 #[v, u] w fun e w' => e = .returned (.bool true) ∧ Below w.heap.size w w' := by
  by_cases h0 : zs.length = 0
  · obtain ⟨p, c, rfl, _, _⟩ := hv
    obtain ⟨q, d, rfl, _, _⟩ := hu
    rw [h0]
    refine (Any.slices_Equal_int_empty Try.lays111 p q c 0 d w (by omega)).mono ?_
    rintro e w' ⟨rfl, rfl⟩
    exact ⟨rfl, Below.refl _ _⟩
  · refine (equal_any v u zs zs w hv hu (by omega) (by omega) hn hn).mono ?_
    rintro e w' ⟨rfl, b⟩
    exact ⟨by rw [beq_self_eq_true], b⟩
theorem end_ok {os : List Of} {id day : Int} {zs : List Int} {p : Option Addr} {c : Nat} (h : endE os id day zs p c = 0) : ∃ i o, (ckV os).2 = 0 ∧ ixO os id = some i ∧ os[i]? = some o ∧ o.fr < day ∧ day ≤ o.un ∧ endL os id day zs p c = os.set i (enO o day zs p c) ∧ (ckV (os.set i (enO o day zs p c))).2 = 0 := by
  unfold endE at h
  by_cases g : (ckV os).2 = 0
  · rw [if_neg (fun k => k g)] at h
    cases hi : ixO os id with
    | none => rw [hi] at h; exact absurd h (show ¬ ((7 : Int) = 0) by decide)
    | some i =>
      obtain ⟨o, ho, _⟩ := ixO_at hi
      rw [hi] at h
      replace h : (match os[i]? with | none => (7 : Int) | some o => if day ≤ o.fr ∨ o.un < day then 2 else (ckV (os.set i (enO o day zs p c))).2) = 0 := h
      rw [ho] at h
      replace h : (if day ≤ o.fr ∨ o.un < day then 2 else (ckV (os.set i (enO o day zs p c))).2) = 0 := h
      by_cases b : day ≤ o.fr ∨ o.un < day
      · rw [if_pos b] at h; exact absurd h (by decide)
      · rw [if_neg b] at h
        refine ⟨i, o, g, rfl, ho, by omega, by omega, ?_, h⟩
        unfold endL
        rw [hi]
        show (match os[i]? with | none => [] | some o => os.set i (enO o day zs p c)) = _
        rw [ho]
  · rw [if_pos g] at h; exact absurd h (by decide)
theorem num_ky {os os2 : List Of} (h : os2.map ky = os.map ky) (hr : NumO os) : NumO os2 := fun a ha => by
  obtain ⟨j, hj⟩ := List.mem_iff_getElem?.1 ha
  obtain ⟨b, hb, e⟩ := ky_at h hj
  obtain ⟨e1, _, e3, e4, e5⟩ := ky_eq e
  have := hr b (List.mem_of_getElem? hb)
  rw [e1, e3, e4, e5]
  exact this

set_option maxRecDepth 100000 in
set_option maxHeartbeats 8000000 in
theorem law_before (q : Option Addr) (n c : Nat) (S : Nat → Ow) (id day : Int) (v : Value) (zs : List Int) (other earlier : Int) (w : World) (hw : Lw w) (hS : IsW w q n S) (hnc : n ≤ c) (hday : W64 day) (hz : IsZ w v zs) (hzr : ∀ x ∈ zs, W64 x) (hot : W64 other) :
    Calls Try.prog 8 #[.slice q n c, .int .i64 id, .int .i64 day, v, .int .i64 other, .int .i64 earlier] w fun e w' => e = .returned (.bool true) ∧ Below w.heap.size w w' := by
  have HW := Lib.hid hw
  have AW := Lib.hid (awake_any w hw)
  have HS := Lib.hid hS
  have HZ := Lib.hid hz
  obtain ⟨pn, cn, rfl, hcn, -⟩ := hz
  obtain ⟨l, hl⟩ : ∃ m, m = zs.length := ⟨_, rfl⟩
  rw [← hl] at HZ hcn ⊢
  have HL := Lib.hid hl
  have HOT := Lib.hid hot
  have HDY := Lib.hid hday
  have HZR := Lib.hid hzr
  clear hw hS hl hot hday hzr
  go_enter Try.func8, Try.ntmps8
  go_wp2_with fail
  refine AW.out.mono ?_; rintro e w1 ⟨rfl, b1⟩
  have B1 := Lib.hid b1
  have FW := Lib.hid (few_any q n c S w1 (HS.out.below b1))
  clear b1 AW
  go_wp2_with fail
  refine FW.out.mono ?_; rintro e w2 ⟨z, rfl, hz, b2⟩
  have B2 := Lib.hid (B1.out.trans (b2.mono B1.out.size))
  clear b2 FW B1
  cases z with
  | false =>
    clear hz
    go_wp2_with fail
    go_ret
    exact ⟨rfl, B2.out⟩
  | true =>
    have FP := Lib.hid (hz.1 rfl)
    clear hz
    by_cases a : 10 < l
    · have A : decide (10 < (l : Int)) = true := by simp; omega
      have A2 : decide (10 < l) = true := by simp; omega
      clear a
      go_wp2_with fail
      go_ret
      exact ⟨rfl, B2.out⟩
    have A : decide (10 < (l : Int)) = false := by simp; omega
    have A2 : decide (10 < l) = false := by simp; omega
    by_cases b : day ≤ earlier
    · have B : decide (day ≤ earlier) = true := decide_eq_true b
      clear a b
      go_wp2_with fail
      go_ret
      exact ⟨rfl, B2.out⟩
    have B : decide (day ≤ earlier) = false := decide_eq_false b
    have LT := Lib.hid (show earlier < day by omega)
    have L10 := Lib.hid (show l ≤ 10 by omega)
    clear a b
    obtain ⟨os, hl, hO, hr⟩ := HS.out.isO hnc
    have hn : os.length ≤ 1000 := by have := FP.out.2.1; omega
    have EN := Lib.hid (End_any (.slice q n c) os id day zs pn cn w2 (HW.out.below B2.out) (hO.below B2.out) hn hr (by rw [← HL.out]; exact HZ.out.below B2.out) (by have := L10.out; have := HL.out; omega) HZR.out)
    have HO := Lib.hid hO
    have HR := Lib.hid hr
    have HN := Lib.hid hn
    have HLL := Lib.hid hl
    rw [← HL.out] at EN
    clear hl hO hr hn
    go_wp2_with fail
    refine EN.out.mono ?_; rintro e w3 ⟨er, b3⟩
    have B3 := Lib.hid (B2.out.trans (b3.mono B2.out.size))
    clear b3 EN
    rcases er with ⟨e0, u, os2, rfl, hu, hky⟩ | ⟨ne, rfl⟩
    rotate_left
    · generalize endE os id day zs pn cn = E at ne ⊢
      have g1 : (E != 0) = true := by simpa using ne
      have g2 : (E == 0) = false := by simpa using ne
      clear ne
      go_wp2_with fail
      go_ret
      exact ⟨rfl, B3.out⟩
    obtain ⟨i, o, hg, hi, ho, hfr, hun, hel, hg2⟩ := end_ok e0
    rw [hel] at hky
    have CH := Lib.hid (end_chg ho hky)
    have hg3 : (ckV os2).2 = 0 := by rw [ckV_ky hky]; exact hg2
    have HR2 : NumO os2 := num_ky hky (fun a ha => by
      rcases List.mem_or_eq_of_mem_set ha with h | rfl
      · exact HR.out a h
      · have := HR.out o (List.mem_of_getElem? ho)
        exact ⟨this.1, this.2.1, HDY.out, HZR.out, Nat.zero_le _⟩)
    have len2 : os2.length = n := by rw [len_ky hky, List.length_set]; exact HLL.out
    have hi2 : ixO os2 id = some i := by rw [CH.out.ix]; exact hi
    have HF := Lib.hid (hrF_same hg hg3 CH.out ho hun LT.out other)
    have ilt : i < n := by have := ixO_lt hi; have := HLL.out; omega
    obtain ⟨a2, ha2⟩ : ∃ a2, os2[i]? = some a2 := ⟨_, List.getElem?_eq_getElem (by omega)⟩
    obtain ⟨b2, hb2, e2⟩ := ky_at hky ha2
    rw [List.getElem?_set_self (List.getElem?_eq_some_iff.1 ho).1] at hb2
    cases hb2
    obtain ⟨-, -, -, e4, e5⟩ := ky_eq e2
    replace e4 : a2.un = day := e4
    replace e5 : a2.nx = zs := e5
    have F1 := Lib.hid (show Calls Try.prog 26 #[.slice q n c, .int .i64 id] w3 fun e w' => e = .returned (.int .i64 (i : Int)) ∧ Below w3.heap.size w3 w' by
      have := Find_any (.slice q n c) os id w3 (HO.out.below B3.out) HN.out
      rwa [show ixZ os id = (i : Int) by unfold ixZ; rw [hi]] at this)
    have F2 := Lib.hid (fun V (hV : Below w3.heap.size w3 V) => show Calls Try.prog 26 #[u, .int .i64 id] V fun e w' => e = .returned (.int .i64 (i : Int)) ∧ Below V.heap.size V w' by
      have := Find_any u os2 id V (hu.below hV) (by have := HLL.out; have := HN.out; omega)
      rwa [show ixZ os2 id = (i : Int) by unfold ixZ; rw [hi2]] at this)
    have H1 := Lib.hid (fun V (hV : Below w3.heap.size w3 V) => show Calls Try.prog 11 #[.slice q n c, .int .i64 other, .int .i64 earlier] V fun e w' => e = .returned (.tuple #[.int .i64 (hrF os other earlier).1, .bool (hrF os other earlier).2]) ∧ Below V.heap.size V w' from Heir_any (.slice q n c) os other earlier V (HW.out.below (B3.out.trans (hV.mono B3.out.size))) (HO.out.below (B3.out.trans (hV.mono B3.out.size))) HN.out HR.out HOT.out (chF_spec os other earlier))
    have H2 := Lib.hid (fun V (hV : Below w3.heap.size w3 V) => show Calls Try.prog 11 #[u, .int .i64 other, .int .i64 earlier] V fun e w' => e = .returned (.tuple #[.int .i64 (hrF os2 other earlier).1, .bool (hrF os2 other earlier).2]) ∧ Below V.heap.size V w' from Heir_any u os2 other earlier V (HW.out.below (B3.out.trans (hV.mono B3.out.size))) (hu.below hV) (by have := HLL.out; have := HN.out; omega) HR2 HOT.out (chF_spec os2 other earlier))
    rw [← HF.out] at H2
    obtain ⟨p2, cc2, rfl, hcc2, hp2⟩ := hu
    obtain ⟨g2, off2, rfl, hcell2⟩ := hp2 (by omega)
    have OA := hcell2 i a2 ha2
    have cu := OA.c3
    rw [e4] at cu
    have cx := OA.c4
    have EQ := Lib.hid (fun V (hV : Below w3.heap.size w3 V) => equalS_any a2.nv (.slice pn l cn) zs V (by have := OA.nx.below hV; rw [e5] at this; exact this) (HZ.out.below (B3.out.trans (hV.mono B3.out.size))) (by have := L10.out; have := HL.out; omega))
    have lt2 := OA.lt
    obtain ⟨x, hx⟩ : ∃ x, x = a2.nv := ⟨_, rfl⟩
    rw [← hx] at cx EQ
    have XV : ∃ px m cx', x = .slice px m cx' := ⟨_, _, _, hx⟩
    rw [len2] at F2 H2 hcc2 ⊢
    clear HF
    generalize hrF os other earlier = y at H1 H2
    obtain ⟨h1, h2⟩ := y
    replace H1 : Hid (∀ V, Below w3.heap.size w3 V → Calls Try.prog 11 #[.slice q n c, .int .i64 other, .int .i64 earlier] V fun e w' => e = .returned (.tuple #[.int .i64 h1, .bool h2]) ∧ Below V.heap.size V w') := H1
    replace H2 : Hid (∀ V, Below w3.heap.size w3 V → Calls Try.prog 11 #[.slice (some ⟨g2, off2, none⟩) n cc2, .int .i64 other, .int .i64 earlier] V fun e w' => e = .returned (.tuple #[.int .i64 h1, .bool h2]) ∧ Below V.heap.size V w') := H2
    have D1 : decide ((i : Int) < 0) = false := by simp
    have D2 : decide ((n : Int) ≤ (i : Int)) = false := by simp; omega
    have D3 : decide (n ≤ i) = false := by simp; omega
    have DD : (day != day) = false := by simp
    have HCU := Lib.hid cu
    have HCX := Lib.hid cx
    clear e0 hky CH hg hi ho hfr hun hel hg2 hg3 HR2 len2 hi2 ha2 e2 e4 e5 hcell2 hp2 OA hx cu cx
    obtain ⟨px, mx, cxx, rfl⟩ := XV
    go_wp2_with fail
    refine F1.out.mono ?_; rintro e w4 ⟨rfl, b4⟩
    have R4 := Lib.hid b4
    have K2 := Lib.hid (F2.out w4 b4)
    clear b4 F1 F2
    go_wp2_with fail
    refine K2.out.mono ?_; rintro e w5 ⟨rfl, b5⟩
    have R5 := Lib.hid (R4.out.trans (b5.mono R4.out.size))
    have du := (R5.out.cell (p := ⟨g2, off2 + i * 5 + 3, none⟩) lt2).trans HCU.out
    have dx := (R5.out.cell (p := ⟨g2, off2 + i * 5 + 4, none⟩) lt2).trans HCX.out
    have K3 := Lib.hid (EQ.out w5 R5.out)
    clear b5 K2 R4 EQ
    go_wp2_with fail
    refine K3.out.mono ?_; rintro e w6 ⟨rfl, b6⟩
    have R6 := Lib.hid (R5.out.trans (b6.mono R5.out.size))
    have K4 := Lib.hid (H1.out w6 R6.out)
    clear b6 K3 R5 H1 du dx
    go_wp2_with fail
    refine K4.out.mono ?_; rintro e w7 ⟨rfl, b7⟩
    have R7 := Lib.hid (R6.out.trans (b7.mono R6.out.size))
    have K5 := Lib.hid (H2.out w7 R7.out)
    clear b7 K4 R6 H2
    go_wp2_with fail
    refine K5.out.mono ?_; rintro e w8 ⟨rfl, b8⟩
    have R8 := Lib.hid (R7.out.trans (b8.mono R7.out.size))
    have BF := Lib.hid (B3.out.trans (R8.out.mono B3.out.size))
    clear b8 K5 R7
    have T1 : ((n : Int) == (n : Int)) = true := by simp
    have T2 : (h1 == h1) = true := by simp
    have T3 : (h2 == h2) = true := by simp
    go_wp2_with fail
    go_ret
    exact ⟨rfl, BF.out⟩
end Go.Proofs.Ytlmgjgcdfhccaaa
