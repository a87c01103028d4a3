/- Twice: what is set twice. -/
import Derived.Test.YtekigilhmdphnaaUF
import Derived.Deep.RegionHeld3
namespace Go.Proofs.Ytekigilhmdphnaa
open Go.RowKit Go.Shelf

theorem dsum_ge {Q : Nat → Pc} {v : Int} {k : Nat} (hv : (Q k).v = v) : ∀ n, (∀ j, j < n → spanB (Q j).f (Q j).u = true) → k < n → (Q k).u - (Q k).f ≤ dsum Q v n
  | 0, _, h => absurd h (Nat.not_lt_zero k)
  | n + 1, hs, h => by
    have s := spanB_t (hs n (Nat.lt_succ_self n))
    have e : dsum Q v (n + 1) = if (Q n).v = v then dsum Q v n + ((Q n).u - (Q n).f) else dsum Q v n := rfl
    have b := (dsum_bd (v := v) hs n (Nat.le_succ n)).1
    rcases Nat.lt_succ_iff_lt_or_eq.1 h with a | rfl
    · have ih := dsum_ge hv n (fun j hj => hs j (by omega)) a
      rw [e]
      split <;> omega
    · rw [e, if_pos hv]; omega
/-- A span with one value lies in one piece. -/
theorem cover {Q : Nat → Pc} {m : Nat} {f u v : Int} (g : Gd (toL Q m)) (hfu : f < u) (h : ∀ d, f ≤ d → d < u → hv (toL Q m) d v) : ∃ k, k < m ∧ (Q k).v = v ∧ (Q k).f ≤ f ∧ u ≤ (Q k).u := by
  have ho := ord_of_gd Q m g
  obtain ⟨k, hk, hd, hv'⟩ := hv_toL.1 (h f (Int.le_refl f) hfu)
  refine ⟨k, hk, hv', hd.1, ?_⟩
  rcases Int.lt_or_le (Q k).u u with c | c
  · exfalso
    obtain ⟨j, hj, hd2, hv2⟩ := hv_toL.1 (h (Q k).u (by omega) c)
    have sk := ho.sp k hk
    rcases Nat.lt_trichotomy j k with a | a | a
    · have := ho.le j k a hk
      omega
    · subst a; omega
    · rcases ho.nx k j a hj with x | x
      · omega
      · exact x.2 (by rw [hv', hv2])
  · exact c
theorem Days_is (p : Option Addr) (n c : Nat) (P : Nat → Pc) (v : Int) (w : World) (h : IsP w p n c P) (h0 : 0 < n) (hn : n ≤ 1024) (hg : Gd (toL P n)) : Calls Try.prog 18 #[.slice p n c, .int .i64 v] w (RetV (dsum P v n) w) := by
  obtain ⟨b, off, rfl, hp⟩ := h.row h0
  exact Days_good b off n c P v w hn hp ((ck_gd P n).2 hg)
theorem chV_good {P : Nat → Pc} {n : Nat} {f u : Int} (h : Gd (toL P n)) (hn : n ≤ 1024) (hs : 0 ≤ f ∧ f < u ∧ u ≤ 1048576) : chV P n f u = 0 := by
  unfold chV
  rw [if_pos (ck_of_gd h hn), if_pos (show spanB f u = true from decide_eq_true hs)]

theorem Same_true (p q : Option Addr) (n c m c2 : Nat) (P Q : Nat → Pc) (w : World) (hP : IsP w p n c P) (hQ : IsP w q m c2 Q) (he : toL P n = toL Q m) :
    Calls Try.prog 24 #[.slice p n c, .slice q m c2] w fun e w' => e = .returned (.bool true) ∧ Below w.heap.size w w' :=
  (Same_any p q n c m c2 P Q w hP hQ).mono fun _ _ ⟨⟨_, h, hz⟩, hb⟩ => ⟨by rw [h, hz.2 he], hb⟩
/-- The span's box, in a world that the walk has reached. -/
abbrev Tw (u : World) (B : Nat) (f g : Int) (W : World) : Prop := W.cell? ⟨B, 0, none⟩ = some (.int .i64 f) ∧ W.cell? ⟨B, 1, none⟩ = some (.int .i64 g) ∧ (B < u.heap.size ∧ Below u.heap.size u W)
theorem Tw.go {u : World} {B : Nat} {f g : Int} {W V : World} (h : Tw u B f g W) (hb : Below W.heap.size W V) : Tw u B f g V :=
  have z := h.2.2.2.size
  ⟨(hb.cell (p := ⟨B, 0, none⟩) (Nat.lt_of_lt_of_le h.2.2.1 z)).trans h.1, (hb.cell (p := ⟨B, 1, none⟩) (Nat.lt_of_lt_of_le h.2.2.1 z)).trans h.2.1, h.2.2.1, h.2.2.2.trans (hb.mono z)⟩
theorem Tw.keep {u : World} {B : Nat} {f g : Int} {W : World} {fn : FuncId} {args : Array Value} {v : Value} (hS : Tw u B f g W)
    (h : ∀ V, Below u.heap.size u V → Calls Try.prog fn args V fun e w' => e = .returned v ∧ Below V.heap.size V w') : Calls Try.prog fn args W fun e w' => e = .returned v ∧ (w'.cell? ⟨B, 0, none⟩ = some (.int .i64 f) ∧ w'.cell? ⟨B, 1, none⟩ = some (.int .i64 g) ∧ (B < u.heap.size ∧ Below u.heap.size u w')) ∧ Below W.heap.size W w' :=
  (h W hS.2.2.2).mono fun _ _ ⟨he, hb⟩ => ⟨he, hS.go hb, hb⟩

set_option maxRecDepth 10000 in
set_option maxHeartbeats 4000000 in
theorem law_twice (p : Option Addr) (n c : Nat) (P : Nat → Pc) (f u x y : Int) (w : World) (hP : IsP w p n c P) :
    Calls Try.prog 7 #[.slice p n c, .agg #[.int .i64 f, .int .i64 u], .int .i64 x, .int .i64 y] w fun e w' => e = .returned (.bool true) ∧ Below w.heap.size w w' := by
  have al := (Below.refl w.heap.size w).alloc (Nat.le_refl _) (.cells #[.int .i64 f, .int .i64 u] 33)
  have HP := Lib.hid (hP.below al)
  have HB := Lib.hid (Bs.new w f u 33)
  have AL := Lib.hid al
  have hl := hP.le
  clear hP al
  go_enter Try.func7, Try.ntmps7
  go_wp2_with fail
  generalize w.alloc (.cells #[.int .i64 f, .int .i64 u] 33) = w0 at *
  refine (awake_any w0).mono ?_; rintro e w1 ⟨rfl, b1⟩
  have P1 := Lib.hid (HP.out.below b1)
  have S1 := Lib.hid (HB.out.below b1)
  have B1 := Lib.hid (AL.out.trans (b1.mono AL.out.size))
  clear b1 HP HB AL
  by_cases hn : n ≤ 40
  · have hn' : ¬ (40 : Int) < (n : Int) := by omega
    by_cases hk : chV P n f u = 0
    · have SG := Lib.hid (Set_good p n c P f u x w1 P1.out hk (by omega))
      have KK := Lib.hid (chV_zero hk)
      obtain ⟨_, d0, d1⟩ := S1.out
      have HK := Lib.hid hk
      clear hk
      go_wp2_with fail
      refine SG.out.mono ?_; rintro e w2 ⟨qa, ma, ca, QA, rfl, ha, pa, sa, b2⟩
      have P2 := Lib.hid (P1.out.below b2)
      have S2 := Lib.hid (S1.out.below b2)
      have B2 := Lib.hid (B1.out.trans (b2.mono B1.out.size))
      have PA2 := Lib.hid pa
      have SA := Lib.hid sa
      have KA := Lib.hid (chV_good sa.1 (by omega) KK.out.2.2)
      have HA := Lib.hid ha
      clear SG b2 pa sa ha d0 d1 P1 S1 B1
      obtain ⟨_, d0, d1⟩ := S2.out
      have CG := Lib.hid (Set_good qa ma ca QA f u y w2 PA2.out KA.out (by have := HA.out; omega))
      go_wp2_with fail
      refine CG.out.mono ?_; rintro e w3 ⟨qb, mb, cb, QB, rfl, hb, pb, sb, b3⟩
      have P3 := Lib.hid (P2.out.below b3)
      have PA3 := Lib.hid (PA2.out.below b3)
      have S3 := Lib.hid (S2.out.below b3)
      have B3 := Lib.hid (B2.out.trans (b3.mono B2.out.size))
      have PB3 := Lib.hid pb
      have SB := Lib.hid sb
      have HB := Lib.hid hb
      clear CG b3 pb sb hb d0 d1 P2 S2 B2 PA2
      obtain ⟨_, d0, d1⟩ := S3.out
      have CG := Lib.hid (Set_good p n c P f u y w3 P3.out HK.out (by omega))
      go_wp2_with fail
      refine CG.out.mono ?_; rintro e w4 ⟨qc, mc, cc, QC, rfl, hc, pc, sc, b4⟩
      have P4 := Lib.hid (P3.out.below b4)
      have PA4 := Lib.hid (PA3.out.below b4)
      have PB4 := Lib.hid (PB3.out.below b4)
      have S4 := Lib.hid (S3.out.below b4)
      have B4 := Lib.hid (B3.out.trans (b4.mono B3.out.size))
      have PC4 := Lib.hid pc
      have SC := Lib.hid sc
      clear CG b4 pc sc hc d0 d1 P3 S3 B3 PA3 PB3
      obtain ⟨_, d0, d1⟩ := S4.out
      have CG := Lib.hid (Clear_good qa ma ca QA f u w4 PA4.out KA.out (by have := HA.out; omega))
      go_wp2_with fail
      refine CG.out.mono ?_; rintro e w5 ⟨qd, md, cd, QD, rfl, hd, pd, sd, b5⟩
      have P5 := Lib.hid (P4.out.below b5)
      have PB5 := Lib.hid (PB4.out.below b5)
      have PC5 := Lib.hid (PC4.out.below b5)
      have S5 := Lib.hid (S4.out.below b5)
      have B5 := Lib.hid (B4.out.trans (b5.mono B4.out.size))
      have PD5 := Lib.hid pd
      have SD := Lib.hid sd
      clear CG b5 pd sd hd d0 d1 P4 S4 B4 PA4 PB4 PC4
      obtain ⟨_, d0, d1⟩ := S5.out
      have CG := Lib.hid (Clear_good p n c P f u w5 P5.out HK.out (by omega))
      go_wp2_with fail
      refine CG.out.mono ?_; rintro e w6 ⟨qx, mx, cx, QX, rfl, hx, px, sx, b6⟩
      have PB6 := Lib.hid (PB5.out.below b6)
      have PC6 := Lib.hid (PC5.out.below b6)
      have PD6 := Lib.hid (PD5.out.below b6)
      have S6 := Lib.hid (S5.out.below b6)
      have B6 := Lib.hid (B5.out.trans (b6.mono B5.out.size))
      have PX6 := Lib.hid px
      have SX := Lib.hid sx
      clear CG b6 px sx hx d0 d1 P5 S5 B5 PB5 PC5 PD5
      obtain ⟨_, d0, d1⟩ := S6.out
      have EBC : toL QB mb = toL QC mc := gd_unique _ _ SB.out.1 SC.out.1 (fun d v => by
        rw [SB.out.2, SC.out.2, SA.out.2, hv_one, hv_one]
        constructor
        · rintro (a | ⟨⟨a, _⟩ | ⟨a, _⟩, b⟩)
          · exact Or.inl a
          · exact absurd a b
          · exact Or.inr ⟨a, b⟩
        · rintro (a | a)
          · exact Or.inl a
          · exact Or.inr ⟨Or.inr a, a.2⟩)
      have EDX : toL QD md = toL QX mx := gd_unique _ _ SD.out.1 SX.out.1 (fun d v => by
        rw [SD.out.2, SX.out.2, SA.out.2, hv_one]
        constructor
        · rintro (a | ⟨⟨a, _⟩ | ⟨a, _⟩, b⟩)
          · exact absurd a hv_nil
          · exact absurd a b
          · exact Or.inr ⟨a, b⟩
        · rintro (a | a)
          · exact absurd a hv_nil
          · exact Or.inr ⟨Or.inr a, a.2⟩)
      have C1 := Lib.hid (show ∀ s t : Value, ((s = .slice qb mb cb ∧ t = .slice qc mc cc) ∨ (s = .slice qd md cd ∧ t = .slice qx mx cx)) → ∀ V, Below w6.heap.size w6 V → Calls Try.prog 24 #[s, t] V fun e w' => e = .returned (.bool true) ∧ Below V.heap.size V w' from fun s t h V hV => by
        rcases h with ⟨rfl, rfl⟩ | ⟨rfl, rfl⟩
        · exact Same_true qb qc mb cb mc cc QB QC V (PB6.out.below hV) (PC6.out.below hV) EBC
        · exact Same_true qd qx md cd mx cx QD QX V (PD6.out.below hV) (PX6.out.below hV) EDX)
      obtain ⟨kc, hkc, ev, e1, e2⟩ := cover SB.out.1 KK.out.2.2.2.1 (fun d h1 h2 => (SB.out.2 d y).2 (Or.inl (hv_one.2 ⟨⟨h1, h2⟩, rfl⟩)))
      have DG := dsum_ge ev mb (ckE_all ((ck_gd QB mb).2 SB.out.1)) hkc
      have C3 := Lib.hid (fun V (hV : Below w6.heap.size w6 V) => Days_is qb mb cb QB y V (PB6.out.below hV) (by omega) (by have := HB.out; have := HA.out; omega) SB.out.1)
      have sp := KK.out.2.2
      obtain ⟨D, hD⟩ : ∃ D, D = dsum QB y mb := ⟨_, rfl⟩
      rw [← hD] at C3 DG
      have dd : decide (u - f ≤ D) = true := decide_eq_true (by omega)
      have dq : u - f ≤ D := by omega
      have wr : IntKind.i64.wrap (u - f) = u - f := IntWalk.i64_in _ ⟨by omega, by omega⟩
      clear sp DG hD e1 e2 ev hkc EBC EDX PX6 PD6 PC6 PB6 HA HB HK KA SA SB SC SD SX KK hn
      have hS0 := Lib.hid (show Tw w6 w.heap.size f u w6.drew from ⟨S6.out.2.1, S6.out.2.2, S6.out.1, (Below.refl _ w6).drew⟩)
      clear S6 d0 d1
      go_wp2_with fail
      go_region_held3 (fun W => W.cell? ⟨w.heap.size, 0, none⟩ = some (.int .i64 f) ∧ W.cell? ⟨w.heap.size, 1, none⟩ = some (.int .i64 u) ∧ (w.heap.size < w6.heap.size ∧ Below w6.heap.size w6 W))
        (first | assumption | exact hS0.out)
        (first
          | (go_at_call 24; refine (Tw.keep (u := w6) (B := w.heap.size) (f := f) (g := u) (by first | assumption | exact hS0.out) (C1.out _ _ (by first | exact Or.inl ⟨rfl, rfl⟩ | exact Or.inr ⟨rfl, rfl⟩))).mono ?_; rintro e w7 ⟨rfl, hS7, b7⟩)
          | (go_at_call 18; refine (Tw.keep (u := w6) (B := w.heap.size) (f := f) (g := u) (by first | assumption | exact hS0.out) C3.out).mono ?_; rintro e w7 ⟨rfl, hS7, b7⟩))
      have B7 := Lib.hid (B6.out.trans (hS7.2.2.2.mono B6.out.size))
      clear hS7 b7
      go_wp2_with fail
      go_ret
      exact ⟨rfl, B7.out⟩
    · have SG := Lib.hid (Set_bad p n c P f u x w1 P1.out hk)
      obtain ⟨k, hk0⟩ : ∃ k, k = chV P n f u := ⟨_, rfl⟩
      rw [← hk0] at SG hk
      obtain ⟨_, d0, d1⟩ := S1.out
      clear hk0
      go_wp2_with fail
      refine SG.out.mono ?_; rintro e w2 ⟨rfl, b2⟩
      have B2 := Lib.hid (B1.out.trans (b2.mono B1.out.size))
      have k1 : (k == 0) = false := by simpa using hk
      clear SG b2 d0 d1 P1 S1 B1
      go_wp2_with fail
      go_ret
      exact ⟨rfl, B2.out⟩
  · have hn' : (40 : Int) < (n : Int) := by omega
    go_wp2_with fail
    go_ret
    exact ⟨rfl, B1.out⟩
end Go.Proofs.Ytekigilhmdphnaa
