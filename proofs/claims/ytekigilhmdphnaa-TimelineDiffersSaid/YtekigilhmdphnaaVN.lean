/- Differs. -/
import Derived.Test.YtekigilhmdphnaaVM
import Derived.BigQuiet
namespace Go.Proofs.Ytekigilhmdphnaa
open Go.RowKit Go.Shelf

section
variable {A B S : List Pc} (gA : Gd A) (gB : Gd B) (gS : Gd S) (hS : HvV (chF A B) S)
include gS hS
theorem ch_in {p : Pc} (hp : p ∈ S) : (chF A B p.f).2 = true ∧ p.v = 0 := by
  have s := gS.span hp
  obtain ⟨h1, h2⟩ := (hS p.f p.v).1 ⟨p, hp, hasB_iff.2 ⟨Int.le_refl _, s.2.1⟩, rfl⟩
  exact ⟨h1, h2.symm⟩
omit gS in
theorem ch_any (d : Int) : S.any (fun p => hasB p d) = (chF A B d).2 := by
  cases hb : (chF A B d).2 with
  | true =>
    obtain ⟨p, hp, h, _⟩ := (hS d _).2 ⟨hb, rfl⟩
    exact List.any_eq_true.2 ⟨p, hp, h⟩
  | false =>
    cases ha : S.any (fun p => hasB p d) with
    | false => rfl
    | true =>
      obtain ⟨p, hp, h⟩ := List.any_eq_true.1 ha
      have := ((hS d p.v).1 ⟨p, hp, h, rfl⟩).1
      rw [hb] at this; cases this
theorem ch_gap (i : Nat) (h : i + 1 < S.length) : (S[i]'(by omega)).u < (S[i + 1]).f := by
  have h1 := List.pairwise_iff_getElem.1 gS.2 i (i + 1) (by omega) h (by omega)
  have v1 := (ch_in gS hS (List.getElem_mem (l := S) (n := i) (by omega))).2
  have v2 := (ch_in gS hS (List.getElem_mem (l := S) (n := i + 1) h)).2
  rcases h1 with a | ⟨_, a⟩
  · exact a
  · rw [v1, v2] at a; exact absurd rfl a
include gA gB
theorem ch_empty : S = [] ↔ A = B := by
  constructor
  · intro e
    have no : ∀ d, (chF A B d).2 = false := fun d => by rw [← ch_any hS d, e]; rfl
    have eq : ∀ d, atF A d = atF B d := fun d => by
      have := no d
      unfold chF at this
      simp only [Bool.or_eq_false_iff, bne_eq_false_iff_eq] at this
      exact Prod.ext this.2 this.1
    exact gd_unique A B gA gB fun d v => by rw [hvF A gA d v, hvF B gB d v, eq d]
  · rintro rfl
    cases S with
    | nil => rfl
    | cons p S =>
      have := (ch_in gS hS (List.mem_cons_self ..)).1
      unfold chF at this
      simp at this
end
theorem take_any (S : List Pc) (d : Int) (k : Nat) (h : k < S.length) : (S.take (k + 1)).any (fun p => hasB p d) = ((S.take k).any (fun p => hasB p d) || hasB (S[k]) d) := by
  rw [List.take_succ_eq_append_getElem h, List.any_append]; simp

set_option maxRecDepth 100000 in
set_option maxHeartbeats 4000000 in
theorem law_differs (p q : Option Addr) (n c m c2 : Nat) (P Q : Nat → Pc) (d : Int) (w : World) (hP : IsP w p n c P) (hQ : IsP w q m c2 Q) :
    Calls Try.prog 8 #[.slice p n c, .slice q m c2, .int .i64 d] w fun e w' => e = .returned (.bool true) ∧ Below w.heap.size w w' := by
  have HP := Lib.hid hP
  have HQ := Lib.hid hQ
  have nl := hP.le
  have ml := hQ.le
  clear hP hQ
  go_enter Try.func8, Try.ntmps8
  go_wp2_with fail
  refine (awake_any w).mono ?_; rintro e w1 ⟨rfl, b1⟩
  have P1 := Lib.hid (HP.out.below b1)
  have Q1 := Lib.hid (HQ.out.below b1)
  have B1 := Lib.hid b1
  clear b1 HP HQ
  by_cases hn : n ≤ 40
  · have hn' : ¬ (40 : Int) < (n : Int) := by omega
    by_cases hm : m ≤ 40
    · have hm' : ¬ (40 : Int) < (m : Int) := by omega
      by_cases hk : ck2 P n Q m = 0
      · obtain ⟨⟨_, gA⟩, _, gB⟩ := ck2_zero hk
        have A1 := Lib.hid (Changes_good p q n c m c2 P Q w1 P1.out Q1.out gA gB (by omega))
        have AA := Lib.hid (fun V (hV : IsP V p n c P) => At_F p n c P d V hV gA)
        have AB := Lib.hid (fun V (hV : IsP V q m c2 Q) => At_F q m c2 Q d V hV gB)
        have GA := Lib.hid gA
        have GB := Lib.hid gB
        clear gA gB hk
        go_wp2_with fail
        refine A1.out.mono ?_; rintro e w2 ⟨v2, S, rfl, r2, g2, h2, l2, b2⟩
        obtain ⟨ps, cs, rfl, s2⟩ := r2
        have P2 := Lib.hid (P1.out.below b2)
        have Q2 := Lib.hid (Q1.out.below b2)
        have B2 := Lib.hid (B1.out.trans (b2.mono B1.out.size))
        have S2 := Lib.hid s2
        have EM := Lib.hid (ch_empty GA.out GB.out g2 h2)
        have AN := Lib.hid (ch_any h2 d)
        have GP := Lib.hid (ch_gap g2 h2)
        have SPN := Lib.hid (fun (k : Nat) (h : k < S.length) => g2.span (List.getElem_mem (l := S) (n := k) h))
        have NS : S.length ≤ 800 := by omega
        have NS := Lib.hid NS
        have AD := Lib.hid (AA.out w2 P2.out)
        clear A1 b2 s2 g2 h2 l2 P1 Q1 B1 AA
        go_wp2_with fail
        refine AD.out.mono ?_; rintro e w3 ⟨rfl, b3⟩
        have P3 := Lib.hid (P2.out.below b3)
        have Q3 := Lib.hid (Q2.out.below b3)
        have S3 := Lib.hid (S2.out.below b3)
        have B3 := Lib.hid (B2.out.trans (b3.mono B2.out.size))
        have BD := Lib.hid (AB.out w3 Q3.out)
        clear b3 P2 Q2 S2 B2 AD AB
        go_wp2_with fail
        refine BD.out.mono ?_; rintro e w4 ⟨rfl, b4⟩
        have SA := Lib.hid (fun V (hV : Below w3.heap.size w3 V) => Same_any p q n c m c2 P Q V (P3.out.below hV) (Q3.out.below hV))
        have S4 := Lib.hid (S3.out.below b4)
        have W34 := Lib.hid b4
        have AN := Lib.hid (show S.any (fun p => hasB p d) = (((atF (toL P n) d).2 != (atF (toL Q m) d).2) || ((atF (toL P n) d).1 != (atF (toL Q m) d).1)) from AN.out)
        obtain ⟨l, hl⟩ : ∃ l, l = S.length := ⟨_, rfl⟩
        have NL : l ≤ 800 := by rw [hl]; exact NS.out
        have AT := Lib.hid (show (S.take l).any (fun p => hasB p d) = (((atF (toL P n) d).2 != (atF (toL Q m) d).2) || ((atF (toL P n) d).1 != (atF (toL Q m) d).1)) by rw [hl, List.take_length]; exact AN.out)
        have EL := Lib.hid (show l = 0 ↔ toL P n = toL Q m by rw [← EM.out, hl, List.length_eq_zero_iff])
        rw [← hl]
        have HL := Lib.hid hl
        clear b4 P3 Q3 S3 BD AN NS EM hl
        generalize (atF (toL P n) d).1 = xa at *
        generalize (atF (toL P n) d).2 = ya at *
        generalize (atF (toL Q m) d).1 = xb at *
        generalize (atF (toL Q m) d).2 = yb at *
        go_wp2_with fail
        go_loopg [13, 51] l (fun gg s13 s51 wr => ∃ k : Nat, k ≤ l ∧ l - k ≤ gg ∧ s13 = .bool ((S.take k).any (fun p => hasB p d)) ∧ s51 = .int .i64 k ∧ Aside (Below w4.heap.size w4 wr))
        case atStart => exact ⟨0, Nat.zero_le _, by omega, rfl, rfl, Below.refl _ w4⟩
        case round =>
          obtain ⟨k, hk, hg, rfl, rfl, BW⟩ := hrel
          by_cases hlt : k < l
          · have hltz : (k : Int) < (l : Int) := by omega
            have hz0 : (0 : Int) ≤ (k : Int) := by omega
            obtain ⟨b, off, rfl, hbl, hp⟩ := (S4.out.below BW.out).row (by have := HL.out; omega)
            have TA := Lib.hid (take_any S d k (by have := HL.out; omega))
            obtain ⟨l0, l1⟩ := hp k (by have := HL.out; omega)
            obtain ⟨p0, p1, p2⟩ := SPN.out k (by have := HL.out; omega)
            have PB : ∀ k', k = k' + 1 → ∃ pu, wr.cell? ⟨b, off + k' * 2 + 1, none⟩ = some (.int .i64 pu) ∧ pu < (S[k]'(by have := HL.out; omega)).f := fun k' e => by
              subst e
              exact ⟨_, (hp k' (by have := HL.out; omega)).2, GP.out k' (by have := HL.out; omega)⟩
            obtain ⟨y, hy⟩ : ∃ y, y = S[k]'(by have := HL.out; omega) := ⟨_, rfl⟩
            rw [← hy] at l0 l1 p0 p1 p2 TA
            have PB : ∀ k', k = k' + 1 → ∃ pu, wr.cell? ⟨b, off + k' * 2 + 1, none⟩ = some (.int .i64 pu) ∧ pu < y.f := fun k' e => by rw [hy]; exact PB k' e
            obtain ⟨I, hI⟩ : ∃ I, I = (S.take (k + 1)).any (fun p => hasB p d) := ⟨_, rfl⟩
            rw [← hI] at TA
            have HI := Lib.hid hI
            generalize (S.take k).any (fun p => hasB p d) = i0 at *
            have WA := Lib.hid (BW.out.alloc BW.out.size (.cells #[.int .i64 y.f, .int .i64 y.u] 33))
            have t1 : decide (y.f < 0) = false := by simp; omega
            have t2 : decide (y.u ≤ y.f) = false := by simp; omega
            have t3 : decide ((1048576 : Int) < y.u) = false := by simp; omega
            have x0 : (wr.alloc (.cells #[.int .i64 y.f, .int .i64 y.u] 33)).cell? ⟨wr.heap.size, 0, none⟩ = some (.int .i64 y.f) := by simp
            have x1 : (wr.alloc (.cells #[.int .i64 y.f, .int .i64 y.u] 33)).cell? ⟨wr.heap.size, 1, none⟩ = some (.int .i64 y.u) := by simp
            have TB := Lib.hid (show hasB y d = decide (y.f ≤ d ∧ d < y.u) from rfl)
            have X5 := Lib.hid (show wr.heap.size < (wr.alloc (.cells #[.int .i64 y.f, .int .i64 y.u] 33)).heap.size by simp)
            clear hI hy
            go_upto_region 14 with (fail)
            clear l0 l1 p0 p1 p2 BW
            by_cases hk0 : k = 0
            · subst hk0
              have t4 : decide ((0 : Int) < ((0 : Nat) : Int)) = false := by simp
              have t4' : decide ((0 : Int) < 0) = false := by simp
              generalize wr.alloc (.cells #[.int .i64 y.f, .int .i64 y.u] 33) = w5 at *
              clear hp hbl PB
              go_quiet (fail)
              have W6 := Lib.hid (WA.out.trans ((BdN (Below.refl _ _) nq).mono WA.out.size))
              have x0 := ((BdN (Below.refl _ w5) nq).cell (p := ⟨wr.heap.size, 0, none⟩) X5.out).trans x0
              have x1 := ((BdN (Below.refl _ w5) nq).cell (p := ⟨wr.heap.size, 1, none⟩) X5.out).trans x1
              generalize w5.drewN nq = w6 at *
              clear t1 t2 t3 WA
              cases i0 with
              | true =>
                go_wp2_with fail
                go_roundg (l - (0 + 1))
                case measure => omega
                case rel => exact ⟨0 + 1, by omega, by omega, by rw [← HI.out, TA.out]; rfl, by go_num, W6.out⟩
              | false =>
                by_cases c1 : y.f ≤ d
                · by_cases c2 : d < y.u
                  · go_wp2_with fail
                    go_roundg (l - (0 + 1))
                    case measure => omega
                    case rel => exact ⟨0 + 1, by omega, by omega, by rw [← HI.out, TA.out, TB.out, decide_eq_true ⟨c1, c2⟩]; rfl, by go_num, W6.out⟩
                  · go_wp2_with fail
                    go_roundg (l - (0 + 1))
                    case measure => omega
                    case rel => exact ⟨0 + 1, by omega, by omega, by rw [← HI.out, TA.out, TB.out, decide_eq_false (by omega)]; rfl, by go_num, W6.out⟩
                · go_wp2_with fail
                  go_roundg (l - (0 + 1))
                  case measure => omega
                  case rel => exact ⟨0 + 1, by omega, by omega, by rw [← HI.out, TA.out, TB.out, decide_eq_false (by omega)]; rfl, by go_num, W6.out⟩
            · obtain ⟨k', rfl⟩ : ∃ k', k = k' + 1 := ⟨k - 1, by omega⟩
              obtain ⟨pu, m0, m1⟩ := PB k' rfl
              have m0 : (wr.alloc (.cells #[.int .i64 y.f, .int .i64 y.u] 33)).cell? ⟨b, off + k' * 2 + 1, none⟩ = some (.int .i64 pu) := (((Below.refl wr.heap.size wr).alloc (Nat.le_refl _) (.cells #[.int .i64 y.f, .int .i64 y.u] 33)).cell (p := ⟨b, off + k' * 2 + 1, none⟩) hbl).trans m0
              have t4 : decide ((0 : Int) < ((k' + 1 : Nat) : Int)) = true := by simp
              have t5 : decide (y.f ≤ pu) = false := by simp; omega
              have v1 : IntKind.i64.wrap (((k' + 1 : Nat) : Int) - 1) = (k' : Int) := by rw [show ((k' + 1 : Nat) : Int) - 1 = (k' : Int) from by omega]; exact IntWalk.i64_in _ ⟨by omega, by omega⟩
              have v2 : IntKind.i64.wrap ((k' : Int) + 1 - 1) = (k' : Int) := by rw [show (k' : Int) + 1 - 1 = (k' : Int) from by omega]; exact IntWalk.i64_in _ ⟨by omega, by omega⟩
              have v3 : IntKind.i64.wrap (k' : Int) = (k' : Int) := IntWalk.i64_in _ ⟨by omega, by omega⟩
              have v4 : (0 : Int) ≤ (k' : Int) := by omega
              have v5 : (k' : Int) < (l : Int) := by omega
              generalize wr.alloc (.cells #[.int .i64 y.f, .int .i64 y.u] 33) = w5 at *
              clear hp hbl PB m1 hk0
              go_quiet (fail)
              have W6 := Lib.hid (WA.out.trans ((BdN (Below.refl _ _) nq).mono WA.out.size))
              have x0 := ((BdN (Below.refl _ w5) nq).cell (p := ⟨wr.heap.size, 0, none⟩) X5.out).trans x0
              have x1 := ((BdN (Below.refl _ w5) nq).cell (p := ⟨wr.heap.size, 1, none⟩) X5.out).trans x1
              generalize w5.drewN nq = w6 at *
              clear t1 t2 t3 t5 v1 v2 v3 m0 WA
              cases i0 with
              | true =>
                go_wp2_with fail
                go_roundg (l - (k' + 1 + 1))
                case measure => omega
                case rel => exact ⟨k' + 1 + 1, by omega, by omega, by rw [← HI.out, TA.out]; rfl, by go_num, W6.out⟩
              | false =>
                by_cases c1 : y.f ≤ d
                · by_cases c2 : d < y.u
                  · go_wp2_with fail
                    go_roundg (l - (k' + 1 + 1))
                    case measure => omega
                    case rel => exact ⟨k' + 1 + 1, by omega, by omega, by rw [← HI.out, TA.out, TB.out, decide_eq_true ⟨c1, c2⟩]; rfl, by go_num, W6.out⟩
                  · go_wp2_with fail
                    go_roundg (l - (k' + 1 + 1))
                    case measure => omega
                    case rel => exact ⟨k' + 1 + 1, by omega, by omega, by rw [← HI.out, TA.out, TB.out, decide_eq_false (by omega)]; rfl, by go_num, W6.out⟩
                · go_wp2_with fail
                  go_roundg (l - (k' + 1 + 1))
                  case measure => omega
                  case rel => exact ⟨k' + 1 + 1, by omega, by omega, by rw [← HI.out, TA.out, TB.out, decide_eq_false (by omega)]; rfl, by go_num, W6.out⟩
          · obtain rfl : k = l := by omega
            have hltz : ¬ (k : Int) < (k : Int) := by omega
            have SB := Lib.hid (SA.out wr (W34.out.trans (BW.out.mono W34.out.size)))
            have BF := Lib.hid (B3.out.trans ((W34.out.trans (BW.out.mono W34.out.size)).mono B3.out.size))
            obtain ⟨I, hI⟩ : ∃ I, I = (S.take k).any (fun p => hasB p d) := ⟨_, rfl⟩
            rw [← hI] at AT ⊢
            have AT2 := AT.out
            clear hI AT SA BW S4 GP SPN
            by_cases cx : xa = xb
            · subst cx
              cases ya <;> cases yb <;> (obtain rfl : I = _ := AT2.trans (by simp; rfl))
              all_goals
                clear AT2
                by_cases hz : k = 0
                · subst hz
                  go_wp2_with fail
                  refine SB.out.mono ?_; rintro e w7 ⟨⟨z, rfl, hz⟩, b7⟩
                  obtain rfl : z = true := hz.2 (EL.out.1 (by trivial))
                  have B7 := Lib.hid (BF.out.trans (b7.mono BF.out.size))
                  clear b7 hz
                  go_wp2_with fail
                  go_ret
                  exact ⟨rfl, B7.out⟩
                · have hz' : ((k : Int) == 0) = false := by simp; omega
                  go_wp2_with fail
                  refine SB.out.mono ?_; rintro e w7 ⟨⟨z, rfl, hzz⟩, b7⟩
                  obtain rfl : z = false := by
                    cases z with
                    | false => rfl
                    | true => exact absurd (EL.out.2 (hzz.1 rfl)) hz
                  have B7 := Lib.hid (BF.out.trans (b7.mono BF.out.size))
                  clear b7 hzz
                  go_wp2_with fail
                  go_ret
                  exact ⟨rfl, B7.out⟩
            · have cx1 : (xa == xb) = false := by simpa using cx
              have cx2 : (xa != xb) = true := by simpa using cx
              obtain rfl : I = true := AT2.trans (by simp [cx2])
              clear AT2
              by_cases hz : k = 0
              · subst hz
                go_wp2_with fail
                refine SB.out.mono ?_; rintro e w7 ⟨⟨z, rfl, hz⟩, b7⟩
                obtain rfl : z = true := hz.2 (EL.out.1 (by trivial))
                have B7 := Lib.hid (BF.out.trans (b7.mono BF.out.size))
                clear b7 hz
                go_wp2_with fail
                go_ret
                exact ⟨rfl, B7.out⟩
              · have hz' : ((k : Int) == 0) = false := by simp; omega
                go_wp2_with fail
                refine SB.out.mono ?_; rintro e w7 ⟨⟨z, rfl, hzz⟩, b7⟩
                obtain rfl : z = false := by
                  cases z with
                  | false => rfl
                  | true => exact absurd (EL.out.2 (hzz.1 rfl)) hz
                have B7 := Lib.hid (BF.out.trans (b7.mono BF.out.size))
                clear b7 hzz
                go_wp2_with fail
                go_ret
                exact ⟨rfl, B7.out⟩
      · have A1 := Lib.hid (Changes_bad p q n c m c2 P Q w1 P1.out Q1.out hk)
        generalize ck2 P n Q m = k at *
        have k1 : (k == 0) = false := by simpa using hk
        clear hk
        go_wp2_with fail
        refine A1.out.mono ?_; rintro e w2 ⟨rfl, b2⟩
        have B2 := Lib.hid (B1.out.trans (b2.mono B1.out.size))
        clear b2 A1
        go_wp2_with fail
        go_ret
        exact ⟨rfl, B2.out⟩
    · have hm' : (40 : Int) < (m : Int) := by omega
      go_wp2_with fail
      go_ret
      exact ⟨rfl, B1.out⟩
  · have hn' : (40 : Int) < (n : Int) := by omega
    go_wp2_with fail
    go_ret
    exact ⟨rfl, B1.out⟩
end Go.Proofs.Ytekigilhmdphnaa
