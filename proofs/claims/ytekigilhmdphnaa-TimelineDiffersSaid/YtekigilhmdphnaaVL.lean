/- Joins. -/
import Derived.Test.YtekigilhmdphnaaVK
namespace Go.Proofs.Ytekigilhmdphnaa
open Go.RowKit Go.Shelf

/-- '!=' of two spans. -/
theorem nqS (f u a b : Int) (w : World) : (binOp .neq 33 (.agg #[.int .i64 f, .int .i64 u]) (.agg #[.int .i64 a, .int .i64 b])).run Try.prog w = .ok (.bool (!decide (f = a ∧ u = b))) w := by
  have u3 := Try.underlying3
  have a3 := Try.isAgg3
  have z3 := Try.sizeOf3
  have hS2 : Try.prog.underlying 33 = some (.struct (Try.prog.fieldsOf 33)) := by kernel_rfl
  have hp2 : Try.prog.stoodInHeld 33 = false := by kernel_rfl
  rw [run_neq_struct, show (10000 : Nat) = 9999 + 1 from rfl, run_equalIn_agg w 9999 33 _ _ hS2 hp2]
  simp only [Program.fieldsOf, Try.underlying33]
  go_simp
  by_cases h1 : f = a <;> by_cases h2 : u = b <;> simp [h1, h2]
theorem nqSg (f u a b : Int) (op : BinOp) (x y : Operand) (w : World) : (eqGuard op 33 x y (.agg #[.int .i64 f, .int .i64 u]) (.agg #[.int .i64 a, .int .i64 b])).run Try.prog w = .ok () w :=
  run_eqGuard_agg w op _ x y _ _ (by kernel_rfl)

set_option maxHeartbeats 2000000 in
theorem SameS_any (p q : Option Addr) (c c2 : Nat) (L : List Pc) (w : World) (hP : IsS w p c L) (hQ : IsS w q c2 L) :
    Calls Try.prog 29 #[.slice p L.length c, .slice q L.length c2] w fun e w' => e = .returned (.bool true) ∧ Below w.heap.size w w' := by
  have HP := Lib.hid hP
  have HQ := Lib.hid hQ
  have NL : L.length ≤ 9223372036854775807 := by
    rcases hP with ⟨_, h, _⟩ | ⟨_, _, h, _⟩
    · omega
    · exact h
  clear hP hQ
  obtain ⟨n, hn⟩ : ∃ n, n = L.length := ⟨_, rfl⟩
  rw [← hn] at NL ⊢
  have HN := Lib.hid hn
  clear hn
  go_enter Try.func29, Try.ntmps29
  go_wp2_with fail
  go_loopg [5] n (fun gg s3 wr => ∃ kk : Nat, kk ≤ n ∧ n - kk ≤ gg ∧ s3 = .int .i64 kk ∧ Aside (Below w.heap.size w wr))
  case atStart => exact ⟨0, Nat.zero_le _, by omega, rfl, Below.refl _ w⟩
  case round =>
    obtain ⟨kk, hkk, hg, rfl, BW⟩ := hrel
    by_cases hlt : kk < n
    · have hltz : (kk : Int) < (n : Int) := by omega
      have hz0 : (0 : Int) ≤ (kk : Int) := by omega
      obtain ⟨b, off, rfl, _, hp⟩ := (HP.out.below BW.out).row (by have := HN.out; omega)
      obtain ⟨b2, off2, rfl, _, hq⟩ := (HQ.out.below BW.out).row (by have := HN.out; omega)
      obtain ⟨l0, l1⟩ := hp kk (by have := HN.out; omega)
      obtain ⟨m0, m1⟩ := hq kk (by have := HN.out; omega)
      generalize (L[kk]'(by have := HN.out; omega)).f = f at *
      generalize (L[kk]'(by have := HN.out; omega)).u = u at *
      have nq := nqS f u f u
      rw [decide_eq_true ⟨rfl, rfl⟩] at nq
      have ng := nqSg f u f u
      clear hp hq
      go_wp2_with fail
      go_quiet (fail)
      go_wp2_with fail
      go_roundg (n - (kk + 1))
      case measure => omega
      case rel => exact ⟨kk + 1, by omega, by omega, by go_num, BdN BW.out _⟩
    · obtain rfl : kk = n := by omega
      have hltz : ¬ (kk : Int) < (kk : Int) := by omega
      go_wp2_with fail
      go_ret
      exact ⟨rfl, BW.out⟩

set_option maxHeartbeats 2000000 in
theorem rOver_bad (p q : Option Addr) (n c m c2 : Nat) (P Q : Nat → Pc) (w : World) (hA : IsP w p n c P) (hB : IsP w q m c2 Q) (hk : ck2 P n Q m ≠ 0) :
    Calls Try.prog 28 #[.slice p n c, .slice q m c2] w fun e w' => e = .returned (.tuple #[.slice none 0 0, .int .i64 (ck2 P n Q m)]) ∧ Below w.heap.size w w' := by
  have C := Lib.hid (rCheck_any p n c P w hA)
  have HB := Lib.hid hB
  have D := Lib.hid (fun V hV => rCheck_any q m c2 Q V hV)
  have CV : ck2 P n Q m = if ckV P n = 0 then ckV Q m else ckV P n := rfl
  generalize ckV P n = k at *
  generalize ckV Q m = l at *
  clear hA hB
  by_cases k0 : k = 0
  · subst k0
    rw [if_pos rfl] at CV
    rw [CV] at hk ⊢
    have k1 : (l == 0) = false := by simpa using hk
    clear CV
    go_enter Try.func28, Try.ntmps28
    go_wp2_with fail
    refine C.out.mono ?_; rintro e w1 ⟨rfl, b1⟩
    have B1 := Lib.hid b1
    have HB1 := Lib.hid (HB.out.below b1)
    clear b1 C
    go_wp2_with fail
    refine (D.out _ HB1.out).mono ?_; rintro e w2 ⟨rfl, b2⟩
    have B2 := Lib.hid (B1.out.trans (b2.mono B1.out.size))
    clear b2
    go_wp2_with fail
    go_ret2
    exact ⟨rfl, B2.out⟩
  · rw [if_neg k0] at CV
    rw [CV] at hk ⊢
    have k1 : (k == 0) = false := by simpa using k0
    clear CV
    go_enter Try.func28, Try.ntmps28
    go_wp2_with fail
    refine C.out.mono ?_; rintro e w1 ⟨rfl, b1⟩
    have B1 := Lib.hid b1
    clear b1 C
    go_wp2_with fail
    go_ret2
    exact ⟨rfl, B1.out⟩

set_option maxHeartbeats 2000000 in
theorem rChanges_bad (p q : Option Addr) (n c m c2 : Nat) (P Q : Nat → Pc) (w : World) (hA : IsP w p n c P) (hB : IsP w q m c2 Q) (hk : ck2 P n Q m ≠ 0) :
    Calls Try.prog 26 #[.slice p n c, .slice q m c2] w fun e w' => e = .returned (.tuple #[.slice none 0 0, .int .i64 (ck2 P n Q m)]) ∧ Below w.heap.size w w' := by
  have C := Lib.hid (rCheck_any p n c P w hA)
  have HB := Lib.hid hB
  have D := Lib.hid (fun V hV => rCheck_any q m c2 Q V hV)
  have CV : ck2 P n Q m = if ckV P n = 0 then ckV Q m else ckV P n := rfl
  generalize ckV P n = k at *
  generalize ckV Q m = l at *
  clear hA hB
  by_cases k0 : k = 0
  · subst k0
    rw [if_pos rfl] at CV
    rw [CV] at hk ⊢
    have k1 : (l == 0) = false := by simpa using hk
    clear CV
    go_enter Try.func26, Try.ntmps26
    go_wp2_with fail
    refine C.out.mono ?_; rintro e w1 ⟨rfl, b1⟩
    have B1 := Lib.hid b1
    have HB1 := Lib.hid (HB.out.below b1)
    clear b1 C
    go_wp2_with fail
    refine (D.out _ HB1.out).mono ?_; rintro e w2 ⟨rfl, b2⟩
    have B2 := Lib.hid (B1.out.trans (b2.mono B1.out.size))
    clear b2
    go_wp2_with fail
    go_ret2
    exact ⟨rfl, B2.out⟩
  · rw [if_neg k0] at CV
    rw [CV] at hk ⊢
    have k1 : (k == 0) = false := by simpa using k0
    clear CV
    go_enter Try.func26, Try.ntmps26
    go_wp2_with fail
    refine C.out.mono ?_; rintro e w1 ⟨rfl, b1⟩
    have B1 := Lib.hid b1
    clear b1 C
    go_wp2_with fail
    go_ret2
    exact ⟨rfl, B1.out⟩

set_option maxRecDepth 10000 in
set_option maxHeartbeats 4000000 in
theorem law_joins (p q : Option Addr) (n c m c2 : Nat) (P Q : Nat → Pc) (w : World) (hP : IsP w p n c P) (hQ : IsP w q m c2 Q) :
    Calls Try.prog 5 #[.slice p n c, .slice q m c2] w fun e w' => e = .returned (.bool true) ∧ Below w.heap.size w w' := by
  have FW := Lib.hid (fun V => Few_any p n c V hP.le)
  have FN := Lib.hid (show decide (n ≤ 40 ∨ 1024 < n ∧ n ≤ 1034) = true → (n ≤ 40 ∨ 1024 < n) from fun h => (of_decide_eq_true h).imp id And.left)
  have FW2 := Lib.hid (fun V => Few_any q m c2 V hQ.le)
  have FN2 := Lib.hid (show decide (m ≤ 40 ∨ 1024 < m ∧ m ≤ 1034) = true → (m ≤ 40 ∨ 1024 < m) from fun h => (of_decide_eq_true h).imp id And.left)
  generalize decide (n ≤ 40 ∨ 1024 < n ∧ n ≤ 1034) = fw at *
  generalize decide (m ≤ 40 ∨ 1024 < m ∧ m ≤ 1034) = fv at *
  have HP := Lib.hid hP
  have HQ := Lib.hid hQ
  clear hP hQ
  go_enter Try.func5, Try.ntmps5
  go_wp2_with fail
  refine (awake_any w).mono ?_; rintro e w1 ⟨rfl, b1⟩
  have P1 := Lib.hid (HP.out.below b1)
  have Q1 := Lib.hid (HQ.out.below b1)
  have B1 := Lib.hid b1
  clear b1 HP HQ
  cases fw with
  | false =>
    go_wp2_with fail
    refine (FW.out _).mono ?_; rintro e w2 ⟨rfl, rfl⟩
    go_wp2_with fail
    go_ret
    exact ⟨rfl, B1.out⟩
  | true =>
    have FA := Lib.hid (FN.out rfl)
    clear FN
    go_wp2_with fail
    refine (FW.out _).mono ?_; rintro e w2 ⟨rfl, rfl⟩
    clear FW
    cases fv with
    | false =>
      go_wp2_with fail
      refine (FW2.out _).mono ?_; rintro e w2 ⟨rfl, rfl⟩
      go_wp2_with fail
      go_ret
      exact ⟨rfl, B1.out⟩
    | true =>
      have FB := Lib.hid (FN2.out rfl)
      clear FN2
      go_wp2_with fail
      refine (FW2.out _).mono ?_; rintro e w2 ⟨rfl, rfl⟩
      clear FW2
      by_cases hk : ck2 P n Q m = 0
      · obtain ⟨⟨hn, gA⟩, hm, gB⟩ := ck2_zero hk
        have hnm : n + m ≤ 400 := by have := FA.out; have := FB.out; omega
        have A1 := Lib.hid (fun V (hV : IsP V p n c P) (hW : IsP V q m c2 Q) => Changes_good p q n c m c2 P Q V hV hW gA gB hnm)
        have A2 := Lib.hid (fun V (hV : IsP V p n c P) (hW : IsP V q m c2 Q) => rChanges_good p q n c m c2 P Q V hV hW gA gB hnm)
        have A3 := Lib.hid (fun V (hV : IsP V p n c P) (hW : IsP V q m c2 Q) => Over_good p q n c m c2 P Q V hV hW gA gB hnm)
        have A4 := Lib.hid (fun V (hV : IsP V p n c P) (hW : IsP V q m c2 Q) => rOver_good p q n c m c2 P Q V hV hW gA gB hnm)
        generalize chF (toL P n) (toL Q m) = V1 at *
        generalize ovF (toL P n) (toL Q m) = V2 at *
        clear hk hn gA hm gB hnm FA FB
        go_wp2_with fail
        refine (A1.out _ P1.out Q1.out).mono ?_; rintro e w3 ⟨v3, L3, rfl, r3, g3, h3, _, b3⟩
        obtain ⟨p3, c3, rfl, s3⟩ := r3
        have P3 := Lib.hid (P1.out.below b3)
        have Q3 := Lib.hid (Q1.out.below b3)
        have B3 := Lib.hid (B1.out.trans (b3.mono B1.out.size))
        have S3 := Lib.hid s3
        have G3 := Lib.hid g3
        have H3 := Lib.hid h3
        clear A1 s3 g3 h3 b3 P1 Q1 B1
        go_wp2_with fail
        refine (A2.out _ P3.out Q3.out).mono ?_; rintro e w4 ⟨v4, L4, rfl, r4, g4, h4, _, b4⟩
        obtain ⟨p4, c4, rfl, s4⟩ := r4
        obtain rfl : L3 = L4 := H3.out.same h4 G3.out g4
        have P4 := Lib.hid (P3.out.below b4)
        have Q4 := Lib.hid (Q3.out.below b4)
        have B4 := Lib.hid (B3.out.trans (b4.mono B3.out.size))
        have S4 := Lib.hid s4
        have T4 := Lib.hid (S3.out.below b4)
        clear A2 s4 g4 h4 b4 P3 Q3 B3 S3 G3 H3
        go_wp2_with fail
        refine (A3.out _ P4.out Q4.out).mono ?_; rintro e w5 ⟨v5, L5, rfl, r5, g5, h5, _, b5⟩
        obtain ⟨p5, c5, X5, rfl, s5, e5⟩ := r5
        have P5 := Lib.hid (P4.out.below b5)
        have Q5 := Lib.hid (Q4.out.below b5)
        have B5 := Lib.hid (B4.out.trans (b5.mono B4.out.size))
        have S5 := Lib.hid (S4.out.below b5)
        have T5 := Lib.hid (T4.out.below b5)
        have U5 := Lib.hid s5
        have G5 := Lib.hid g5
        have H5 := Lib.hid h5
        have E5 := Lib.hid e5
        clear A3 s5 g5 h5 e5 b5 P4 Q4 B4 S4 T4
        go_wp2_with fail
        refine (A4.out _ P5.out Q5.out).mono ?_; rintro e w6 ⟨v6, L6, rfl, r6, g6, h6, _, b6⟩
        obtain ⟨p6, c6, X6, rfl, s6, e6⟩ := r6
        obtain rfl : L5 = L6 := H5.out.same h6 G5.out g6
        have B6 := Lib.hid (B5.out.trans (b6.mono B5.out.size))
        have S6 := Lib.hid (S5.out.below b6)
        have T6 := Lib.hid (T5.out.below b6)
        have U6 := Lib.hid (U5.out.below b6)
        have V6 := Lib.hid s6
        have E6 := Lib.hid (show toL X5 L5.length = toL X6 L5.length from E5.out.trans e6.symm)
        clear A4 s6 g6 h6 e6 b6 P5 Q5 B5 S5 T5 U5 G5 H5 E5
        have SS := Lib.hid (SameS_any p3 p4 c3 c4 L3 _ T6.out S6.out)
        go_wp2_with fail
        refine SS.out.mono ?_; rintro e w7 ⟨rfl, b7⟩
        have B7 := Lib.hid (B6.out.trans (b7.mono B6.out.size))
        have SA := Lib.hid (Same_any p5 p6 L5.length c5 L5.length c6 X5 X6 _ (U6.out.below b7) (V6.out.below b7))
        clear b7 SS B6 S6 T6 U6 V6
        go_wp2_with fail
        refine SA.out.mono ?_; rintro e w8 ⟨⟨z, rfl, hz⟩, b8⟩
        obtain rfl : z = true := hz.2 E6.out
        have B8 := Lib.hid (B7.out.trans (b8.mono B7.out.size))
        clear b8 hz SA
        go_wp2_with fail
        go_ret
        exact ⟨rfl, B8.out⟩
      · have A1 := Lib.hid (fun V (hV : IsP V p n c P) (hW : IsP V q m c2 Q) => Changes_bad p q n c m c2 P Q V hV hW hk)
        have A2 := Lib.hid (fun V (hV : IsP V p n c P) (hW : IsP V q m c2 Q) => rChanges_bad p q n c m c2 P Q V hV hW hk)
        have A3 := Lib.hid (fun V (hV : IsP V p n c P) (hW : IsP V q m c2 Q) => Over_bad p q n c m c2 P Q V hV hW hk)
        have A4 := Lib.hid (fun V (hV : IsP V p n c P) (hW : IsP V q m c2 Q) => rOver_bad p q n c m c2 P Q V hV hW hk)
        generalize ck2 P n Q m = k at *
        clear hk FA FB
        go_wp2_with fail
        refine (A1.out _ P1.out Q1.out).mono ?_; rintro e w3 ⟨rfl, b2⟩
        have P2 := Lib.hid (P1.out.below b2)
        have Q2 := Lib.hid (Q1.out.below b2)
        have B2 := Lib.hid (B1.out.trans (b2.mono B1.out.size))
        clear A1 b2 P1 Q1 B1
        go_wp2_with fail
        refine (A2.out _ P2.out Q2.out).mono ?_; rintro e w4 ⟨rfl, b3⟩
        have P3 := Lib.hid (P2.out.below b3)
        have Q3 := Lib.hid (Q2.out.below b3)
        have B3 := Lib.hid (B2.out.trans (b3.mono B2.out.size))
        clear A2 b3 P2 Q2 B2
        go_wp2_with fail
        refine (A3.out _ P3.out Q3.out).mono ?_; rintro e w5 ⟨rfl, b4⟩
        have P4 := Lib.hid (P3.out.below b4)
        have Q4 := Lib.hid (Q3.out.below b4)
        have B4 := Lib.hid (B3.out.trans (b4.mono B3.out.size))
        clear A3 b4 P3 Q3 B3
        go_wp2_with fail
        refine (A4.out _ P4.out Q4.out).mono ?_; rintro e w6 ⟨rfl, b5⟩
        have P5 := Lib.hid (P4.out.below b5)
        have Q5 := Lib.hid (Q4.out.below b5)
        have B5 := Lib.hid (B4.out.trans (b5.mono B4.out.size))
        clear A4 b5 P4 Q4 B4
        have SS := Lib.hid (fun V => SameS_any none none 0 0 [] V (Or.inl ⟨rfl, rfl, rfl⟩) (Or.inl ⟨rfl, rfl, rfl⟩))
        go_wp2_with fail
        refine (SS.out w6).mono ?_; rintro e w7 ⟨rfl, b7⟩
        have B7 := Lib.hid (B5.out.trans (b7.mono B5.out.size))
        clear b7 SS
        go_wp2_with fail
        refine (Same_zero none none 0 0 w7).mono ?_; rintro e w8 ⟨⟨z, rfl, hz⟩, b8⟩
        obtain rfl : z = true := hz.2 rfl
        have B8 := Lib.hid (B7.out.trans (b8.mono B7.out.size))
        clear b8 hz
        go_wp2_with fail
        go_ret
        exact ⟨rfl, B8.out⟩
end Go.Proofs.Ytekigilhmdphnaa
