/- Layers. -/
import Derived.Test.YtekigilhmdphnaaVL
import Derived.Deep.DeepCutAuto
namespace Go.Proofs.Ytekigilhmdphnaa
open Go.RowKit Go.Shelf

theorem At_F (p : Option Addr) (n c : Nat) (P : Nat → Pc) (d : Int) (w : World) (h : IsP w p n c P) (g : Gd (toL P n)) : Calls Try.prog 12 #[.slice p n c, .int .i64 d] w (ClR (atF (toL P n) d) w) :=
  (At_is p n c P d w h).mono fun e w' hr => by
    obtain ⟨x, y, rfl, hv, hb⟩ := hr.val
    obtain ⟨rfl, rfl⟩ := hv.eq g
    exact ⟨rfl, hb⟩
theorem atF_zero {A : List Pc} {d : Int} (h : (atF A d).2 = false) : (atF A d).1 = 0 := by
  rcases atF_val A d with ⟨h2, _⟩ | ⟨_, h2, _⟩
  · rw [h] at h2; cases h2
  · exact h2
theorem ovF_zero {A B : List Pc} {d : Int} (h : (ovF A B d).2 = false) : (ovF A B d).1 = 0 := by
  unfold ovF at h ⊢
  split
  · rename_i hb; rw [if_pos hb] at h; cases h
  · rename_i hb; rw [if_neg hb] at h; exact atF_zero h
theorem atF_of {V : Int → Int × Bool} {L : List Pc} {d : Int} (h : HvV V L) (g : Gd L) (z : (V d).2 = false → (V d).1 = 0) : atF L d = V d := by
  have av : AtV L d (V d).1 (V d).2 := by
    cases hb : (V d).2 with
    | true => exact Or.inl ⟨rfl, (h d _).2 ⟨hb, rfl⟩⟩
    | false => exact Or.inr ⟨rfl, z hb, fun v hv => by rw [((h d v).1 hv).1] at hb; cases hb⟩
  obtain ⟨h1, h2⟩ := av.eq g
  exact (Prod.ext h1 h2).symm
theorem hvF (A : List Pc) (g : Gd A) : HvV (atF A) A := fun d v => by
  constructor
  · intro h
    obtain ⟨h1, h2⟩ := (show AtV A d v true from Or.inl ⟨rfl, h⟩).eq g
    exact ⟨h2.symm, h1.symm⟩
  · rintro ⟨h1, rfl⟩
    rcases atF_val A d with ⟨_, h⟩ | ⟨h2, _⟩
    · exact h
    · rw [h1] at h2; cases h2
theorem ov_nil (A : List Pc) (d : Int) : ovF A [] d = atF A d := rfl
theorem nil_ov (A : List Pc) (d : Int) : ovF [] A d = atF A d := by
  unfold ovF
  split
  · rename_i h; exact Prod.ext rfl h.symm
  · rename_i h
    have h : (atF A d).2 = false := by simpa using h
    exact (Prod.ext (atF_zero h) h).symm
theorem gd_nil : Gd [] := ⟨fun _ h => absurd h (List.not_mem_nil), List.Pairwise.nil⟩
/-- Where the upper list says nothing, nothing changes. -/
theorem ch_over {A B C S : List Pc} (gC : Gd C) (gS : Gd S) (hC : HvV (ovF A B) C) (hS : HvV (chF A C) S) {p : Pc} (hp : p ∈ S) : (atF B p.f).2 = true := by
  cases hb : (atF B p.f).2 with
  | true => rfl
  | false =>
    have s := gS.span hp
    have h1 := ((hS p.f p.v).1 ⟨p, hp, hasB_iff.2 ⟨Int.le_refl _, s.2.1⟩, rfl⟩).1
    have e : atF C p.f = atF A p.f := by
      rw [atF_of hC gC ovF_zero]
      unfold ovF
      rw [if_neg (by rw [hb]; decide)]
    unfold chF at h1
    rw [e] at h1
    simp at h1

set_option maxRecDepth 10000 in
set_option maxHeartbeats 4000000 in
theorem law_layers (p q : Option Addr) (n c m c2 : Nat) (P Q : Nat → Pc) (d : Int) (w : World) (hP : IsP w p n c P) (hQ : IsP w q m c2 Q) :
    Calls Try.prog 9 #[.slice p n c, .slice q m c2, .int .i64 d] w fun e w' => e = .returned (.bool true) ∧ Below w.heap.size w w' := by
  have HP := Lib.hid hP
  have HQ := Lib.hid hQ
  have nl := hP.le
  have ml := hQ.le
  clear hP hQ
  go_enter Try.func9, Try.ntmps9
  go_wp2_with fail
  refine (awake_any w).mono ?_; rintro e w1 ⟨rfl, b1⟩
  have P1 := Lib.hid (HP.out.below b1)
  have Q1 := Lib.hid (HQ.out.below b1)
  have B1 := Lib.hid b1
  clear b1 HP HQ
  by_cases hn : n ≤ 40
  · have hn' : ¬ (40 : Int) < (n : Int) := by omega
    by_cases hm : m ≤ 40
    · have hm' : ¬ (40 : Int) < (m : Int) := by omega
      by_cases hk : ck2 P n Q m = 0
      · obtain ⟨⟨_, gA⟩, _, gB⟩ := ck2_zero hk
        have A1 := Lib.hid (Over_good p q n c m c2 P Q w1 P1.out Q1.out gA gB (by omega))
        have AA := Lib.hid (fun V d (hV : IsP V p n c P) => At_F p n c P d V hV gA)
        have AB := Lib.hid (fun V d (hV : IsP V q m c2 Q) => At_F q m c2 Q d V hV gB)
        have OU := Lib.hid (fun V (hV : IsP V p n c P) => Over_good p none n c 0 0 P (fun _ => default) V hV (IsP.zero V) gA gd_nil (by omega))
        have OV := Lib.hid (fun V (hV : IsP V p n c P) => Over_good none p 0 0 n c (fun _ => default) P V (IsP.zero V) hV gd_nil gA (by omega))
        have CH := Lib.hid (fun V (r : Option Addr) (k cr : Nat) (R : Nat → Pc) (hV : IsP V p n c P) (hR : IsP V r k cr R) (gR : Gd (toL R k)) (hk : k ≤ 160) => Changes_good p r n c k cr P R V hV hR gA gR (by omega))
        have GA := Lib.hid gA
        have HA := Lib.hid (hvF (toL P n) gA)
        clear gA gB hk
        go_wp2_with fail
        refine A1.out.mono ?_; rintro e w2 ⟨v2, C, rfl, r2, g2, h2, l2, b2⟩
        obtain ⟨pc, cc, R, rfl, s2, e2⟩ := r2
        have P2 := Lib.hid (P1.out.below b2)
        have Q2 := Lib.hid (Q1.out.below b2)
        have B2 := Lib.hid (B1.out.trans (b2.mono B1.out.size))
        have R2 := Lib.hid s2
        have G2 := Lib.hid g2
        have H2 := Lib.hid h2
        have L2 := Lib.hid (show C.length ≤ 160 by omega)
        have E2 := Lib.hid e2
        have AC := Lib.hid (fun V d (hV : IsP V pc C.length cc R) => At_F pc C.length cc R d V hV (by rw [E2.out]; exact G2.out))
        rw [e2] at AC
        have CK := Lib.hid (fun V (hV : IsP V pc C.length cc R) => Check_good pc C.length cc R V hV (by rw [E2.out]; exact G2.out) (by have := L2.out; omega))
        have CC := Lib.hid (fun V (hV : IsP V p n c P) (hR : IsP V pc C.length cc R) => CH.out V pc C.length cc R hV hR (by rw [E2.out]; exact G2.out) L2.out)
        rw [e2] at CC
        have VE := Lib.hid (atF_of (d := d) h2 g2 ovF_zero)
        clear A1 b2 s2 g2 h2 l2 e2 P1 Q1 B1 CH
        have AD := Lib.hid (AA.out w2 d P2.out)
        go_wp2_with fail
        refine AD.out.mono ?_; rintro e w3 ⟨rfl, b3⟩
        have P3 := Lib.hid (P2.out.below b3)
        have Q3 := Lib.hid (Q2.out.below b3)
        have R3 := Lib.hid (R2.out.below b3)
        have B3 := Lib.hid (B2.out.trans (b3.mono B2.out.size))
        have BD := Lib.hid (AB.out w3 d Q3.out)
        clear b3 P2 Q2 R2 B2 AD
        go_wp2_with fail
        refine BD.out.mono ?_; rintro e w4 ⟨rfl, b4⟩
        have P4 := Lib.hid (P3.out.below b4)
        have Q4 := Lib.hid (Q3.out.below b4)
        have R4 := Lib.hid (R3.out.below b4)
        have B4 := Lib.hid (B3.out.trans (b4.mono B3.out.size))
        have CD := Lib.hid (AC.out w4 d R4.out)
        rw [VE.out] at CD
        have OVE := Lib.hid (show ovF (toL P n) (toL Q m) d = if (atF (toL Q m) d).2 = true then ((atF (toL Q m) d).1, true) else ((atF (toL P n) d).1, (atF (toL P n) d).2) from rfl)
        unfold ClR at CD
        clear b4 P3 Q3 R3 B3 BD VE AC
        generalize (ovF (toL P n) (toL Q m) d) = vo at CD OVE
        generalize (atF (toL P n) d).1 = xa at *
        generalize (atF (toL P n) d).2 = ya at *
        generalize (atF (toL Q m) d).1 = xb at *
        generalize (atF (toL Q m) d).2 = yb at *
        obtain ⟨X, Y⟩ := vo
        go_wp2_with fail
        refine CD.out.mono ?_; rintro e w5 ⟨rfl, b5⟩
        have P5 := Lib.hid (P4.out.below b5)
        have Q5 := Lib.hid (Q4.out.below b5)
        have R5 := Lib.hid (R4.out.below b5)
        have B5 := Lib.hid (B4.out.trans (b5.mono B4.out.size))
        clear b5 P4 Q4 R4 B4 CD
        go_upto_if 64 with (fail)
        go_cut [9, 10] (fun s9 s10 wx => s9 = .int .i64 X ∧ s10 = .bool Y ∧ Aside (wx = w5))
        case first =>
          cases yb
          · have OE : (X, Y) = (xa, ya) := OVE.out
            injection OE with o1 o2
            subst o1 o2
            go_wp2_with fail
            go_meet
            case rel => exact ⟨rfl, rfl, rfl⟩
          · have OE : (X, Y) = (xb, true) := OVE.out
            injection OE with o1 o2
            subst o1 o2
            go_wp2_with fail
            go_meet
            case rel => exact ⟨rfl, rfl, rfl⟩
        case rest =>
        obtain ⟨rfl, rfl, hw⟩ := hcut
        have hw := hw.out.symm
        subst hw
        have AL := Lib.hid (show toL (fun _ => (default : Pc)) 0 = [] from rfl)
        rw [AL.out] at OU OV
        have OU1 := Lib.hid (OU.out w5 P5.out)
        go_wp2_with fail
        refine OU1.out.mono ?_; rintro e w6 ⟨v6, U, rfl, r6, g6, h6, _, b6⟩
        obtain ⟨pu, cu, RU, rfl, s6, e6⟩ := r6
        have P6 := Lib.hid (P5.out.below b6)
        have Q6 := Lib.hid (Q5.out.below b6)
        have R6 := Lib.hid (R5.out.below b6)
        have B6 := Lib.hid (B5.out.trans (b6.mono B5.out.size))
        have U6 := Lib.hid s6
        have EU := Lib.hid (show toL RU U.length = toL P n by rw [e6]; exact HvV.same (V := atF (toL P n)) h6 HA.out g6 GA.out)
        have OV1 := Lib.hid (OV.out w6 P6.out)
        clear b6 s6 e6 h6 g6 P5 Q5 R5 B5 OU1 OU OV
        go_wp2_with fail
        refine OV1.out.mono ?_; rintro e w7 ⟨v7, T, rfl, r7, g7, h7, _, b7⟩
        obtain ⟨pt, ct, RT, rfl, s7, e7⟩ := r7
        have P7 := Lib.hid (P6.out.below b7)
        have Q7 := Lib.hid (Q6.out.below b7)
        have R7 := Lib.hid (R6.out.below b7)
        have U7 := Lib.hid (U6.out.below b7)
        have B7 := Lib.hid (B6.out.trans (b7.mono B6.out.size))
        have T7 := Lib.hid s7
        have ET := Lib.hid (show toL RT T.length = toL P n by rw [e7]; exact HvV.same (V := atF (toL P n)) (fun d v => by rw [← nil_ov]; exact h7 d v) HA.out g7 GA.out)
        have CC1 := Lib.hid (CC.out w7 P7.out R7.out)
        clear b7 s7 e7 h7 g7 P6 Q6 R6 B6 U6 OV1 CC
        go_wp2_with fail
        refine CC1.out.mono ?_; rintro e w8 ⟨v8, S, rfl, r8, g8, h8, _, b8⟩
        obtain ⟨ps, cs, rfl, s8⟩ := r8
        have P8 := Lib.hid (P7.out.below b8)
        have Q8 := Lib.hid (Q7.out.below b8)
        have R8 := Lib.hid (R7.out.below b8)
        have U8 := Lib.hid (U7.out.below b8)
        have T8 := Lib.hid (T7.out.below b8)
        have B8 := Lib.hid (B7.out.trans (b8.mono B7.out.size))
        have S8 := Lib.hid s8
        have SO := Lib.hid (fun p (hp : p ∈ S) => ch_over G2.out g8 H2.out h8 hp)
        have CK1 := Lib.hid (CK.out w8 R8.out)
        have NS := Lib.hid (show S.length ≤ 9223372036854775807 by
          rcases s8 with ⟨_, h, _⟩ | ⟨_, _, h, _⟩
          · omega
          · exact h)
        clear b8 s8 h8 g8 P7 Q7 R7 B7 U7 T7 CC1 CK H2 G2 AL AA
        go_wp2_with fail
        refine CK1.out.mono ?_; rintro e w9 ⟨rfl, b9⟩
        have Q9 := Lib.hid (Q8.out.below b9)
        have P9 := Lib.hid (P8.out.below b9)
        have U9 := Lib.hid (U8.out.below b9)
        have T9 := Lib.hid (T8.out.below b9)
        have S9 := Lib.hid (S8.out.below b9)
        have B9 := Lib.hid (B8.out.trans (b9.mono B8.out.size))
        have SU := Lib.hid (Same_true pu p U.length cu n c RU P w9 U9.out P9.out EU.out)
        clear b9 P8 Q8 R8 B8 U8 T8 S8 CK1
        go_wp2_with fail
        refine SU.out.mono ?_; rintro e wa ⟨rfl, ba⟩
        have Qa := Lib.hid (Q9.out.below ba)
        have Sa := Lib.hid (S9.out.below ba)
        have Ba := Lib.hid (B9.out.trans (ba.mono B9.out.size))
        have ST := Lib.hid (Same_true pt p T.length ct n c RT P wa (T9.out.below ba) (P9.out.below ba) ET.out)
        clear ba P9 Q9 B9 U9 T9 S9 SU
        go_wp2_with fail
        refine ST.out.mono ?_; rintro e wb ⟨rfl, bb⟩
        have Qb := Lib.hid (Qa.out.below bb)
        have Sb := Lib.hid (Sa.out.below bb)
        have Bb := Lib.hid (Ba.out.trans (bb.mono Ba.out.size))
        obtain ⟨l, hl⟩ : ∃ l, l = S.length := ⟨_, rfl⟩
        rw [← hl] at NS ⊢
        have HL := Lib.hid hl
        have NSS := NS.out
        clear bb Qa Ba Sa ST hl
        go_wp2_with fail
        go_loopg [121] l (fun gg s121 wr => ∃ k : Nat, k ≤ l ∧ l - k ≤ gg ∧ s121 = .int .i64 k ∧ Aside (Below wb.heap.size wb wr))
        case atStart => exact ⟨0, Nat.zero_le _, by omega, rfl, Below.refl _ wb⟩
        case round =>
          obtain ⟨k, hk, hg, rfl, BW⟩ := hrel
          by_cases hlt : k < l
          · have hltz : (k : Int) < (l : Int) := by omega
            have hz0 : (0 : Int) ≤ (k : Int) := by omega
            obtain ⟨b, off, rfl, _, hp⟩ := (Sb.out.below BW.out).row (by have := HL.out; omega)
            obtain ⟨l0, l1⟩ := hp k (by have := HL.out; omega)
            have so := SO.out (S[k]'(by have := HL.out; omega)) (List.getElem_mem _)
            generalize (S[k]'(by have := HL.out; omega)).f = f at *
            generalize (S[k]'(by have := HL.out; omega)).u = u at *
            have al := (Below.refl wr.heap.size wr).alloc (Nat.le_refl _) (.cells #[.int .i64 f, .int .i64 u] 33)
            have AB1 := AB.out _ f ((Qb.out.below BW.out).below al)
            unfold ClR at AB1
            rw [so] at AB1
            have AB1 := Lib.hid AB1
            have W1 := Lib.hid (BW.out.trans (al.mono BW.out.size))
            clear hp al so BW
            go_wp2_with fail
            refine AB1.out.mono ?_; rintro e wd ⟨rfl, bd⟩
            have W2 := Lib.hid (W1.out.trans (bd.mono W1.out.size))
            clear bd AB1 W1 l0 l1
            go_wp2_with fail
            go_roundg (l - (k + 1))
            case measure => omega
            case rel => exact ⟨k + 1, by omega, by omega, by go_num, W2.out⟩
          · obtain rfl : k = l := by omega
            have hltz : ¬ (k : Int) < (k : Int) := by omega
            have BF := Lib.hid (Bb.out.trans (BW.out.mono Bb.out.size))
            clear BW
            go_wp2_with fail
            go_ret
            exact ⟨rfl, BF.out⟩
      · have A1 := Lib.hid (Over_bad p q n c m c2 P Q w1 P1.out Q1.out hk)
        generalize ck2 P n Q m = k at *
        have k1 : (k == 0) = false := by simpa using hk
        clear hk
        go_wp2_with fail
        refine A1.out.mono ?_; rintro e w2 ⟨rfl, b2⟩
        have B2 := Lib.hid (B1.out.trans (b2.mono B1.out.size))
        clear b2 A1
        go_wp2_with fail
        go_ret
        exact ⟨rfl, B2.out⟩
    · have hm' : (40 : Int) < (m : Int) := by omega
      go_wp2_with fail
      go_ret
      exact ⟨rfl, B1.out⟩
  · have hn' : (40 : Int) < (n : Int) := by omega
    go_wp2_with fail
    go_ret
    exact ⟨rfl, B1.out⟩
end Go.Proofs.Ytekigilhmdphnaa
