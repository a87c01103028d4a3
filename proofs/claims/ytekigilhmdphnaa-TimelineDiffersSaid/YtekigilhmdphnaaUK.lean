/- The reference's change. -/
import Derived.Test.YtekigilhmdphnaaUJ
import Derived.Deep.RegionHeld3
namespace Go.Proofs.Ytekigilhmdphnaa
open Go.RowKit Go.Shelf

/-- A list that cut has made. -/
def CutF (base : Nat) (X : List Pc) (p : Option Addr) (m c : Nat) (W : World) : Prop := W.ownsRow base 47 3 (.slice p m c) X.length (cellsP X) ∧ X.length = m
theorem CutF.isP {base : Nat} {X : List Pc} {p : Option Addr} {m c : Nat} {W : World} (h : CutF base X p m c W) : IsP W p m c (ofL X) := by
  obtain ⟨h, hl⟩ := h
  rcases Nat.eq_zero_or_pos X.length with z | z
  · have hm : m = 0 := by omega
    subst hm
    rcases h.2 with ⟨e, _⟩ | ⟨g, cap, cur, e, _⟩
    · injection e with e1 _ e3
      exact Or.inl ⟨e1, rfl, e3⟩
    · injection e with e1 _ _
      exact Or.inr ⟨_, e1, by omega, fun h => absurd h (Nat.lt_irrefl 0)⟩
  · obtain ⟨g, c', e, _, _, _, hm, hp⟩ := own_pw h z
    injection e with e1 e2 e3
    subst e1 e2 e3
    exact Or.inr ⟨_, rfl, by unfold maxLen at hm; omega, fun _ => ⟨rfl, hp.row⟩⟩
theorem own_mono {w : World} {K K' : Nat} {v : Value} {n : Nat} {xs : List Value} (h : w.ownsRow K' 47 3 v n xs) (hK : K ≤ K') : w.ownsRow K 47 3 v n xs := by
  refine ⟨h.1, h.2.imp id fun ⟨g, cap, cur, e, hb, r⟩ => ⟨g, cap, cur, e, Nat.le_trans hK hb, r⟩⟩
/-- What join wants. -/
def JPre (u : World) (s t : Value) (Z : List Pc) (W : World) : Prop := ∃ A p n c P, W.ownsRow u.heap.size 47 3 s A.length (cellsP A) ∧ t = .slice p n c ∧ IsP W p n c P ∧ (0 < n → ∀ a, p = some a → s.ownBlock ≠ some a.block) ∧ A.length + n ≤ 10000 ∧ Z = (toL P n).foldl putR A
/-- What join gives. -/
def JF (u : World) (Z : List Pc) (v : Value) (W : World) : Prop := W.ownsRow u.heap.size 47 3 v Z.length (cellsP Z)
theorem JPre.one {u W : World} {base : Nat} {X : List Pc} {p1 q : Option Addr} {m1 c1 m c2 : Nat} {Q : Nat → Pc} (h : CutF base X p1 m1 c1 W) (hb : u.heap.size ≤ base) (hQ : IsP u q m c2 Q) (hu : Below u.heap.size u W) (hX : X.length ≤ 2000) (hm : m ≤ 1) : JPre u (.slice p1 m1 c1) (.slice q m c2) ((toL Q m).foldl putR X) W := by
  refine ⟨X, q, m, c2, Q, own_mono h.1 hb, rfl, hQ.below hu, fun h0 a ha e => ?_, by omega, rfl⟩
  subst ha
  have l := ((own_mono h.1 hb).lt _ e).1
  obtain ⟨b', off', e1, hp⟩ := hQ.row h0
  injection e1 with e1
  have hp1 := hp.1
  rw [e1] at l
  simp only at l
  omega
theorem JPre.two {u W V : World} {X Y : List Pc} {v2 : Value} {p3 : Option Addr} {m3 c3 : Nat} (hj : JF u Y v2 W) (h : CutF W.heap.size X p3 m3 c3 V) (hb : Below W.heap.size W V) (hX : X.length ≤ 2000) (hY : Y.length ≤ 2000) : JPre u v2 (.slice p3 m3 c3) (X.foldl putR Y) V := by
  have k : V.ownsRow u.heap.size 47 3 v2 Y.length (cellsP Y) := World.ownsRow.kept hj (row := none) ⟨hb.os, hb.tape, hb.output, hb.size, fun k hk _ => hb.block k hk⟩ (by cases hv : v2.ownBlock <;> simp)
  refine ⟨Y, p3, m3, c3, ofL X, k, rfl, h.isP, fun h0 a ha e => ?_, by have := h.2; omega, by rw [← h.2, toL_ofL]⟩
  subst ha
  have l := (World.ownsRow.lt hj _ e).2
  obtain ⟨g, c', e2, hg, _⟩ := own_pw h.1 (by have := h.2; omega)
  injection e2 with e2 _ _
  injection e2 with e2
  rw [e2] at l
  simp only at l
  omega
theorem foldR_nil_len (M : List Pc) : (M.foldl putR []).length ≤ M.length := by
  have := foldR_len M []
  simpa using this
theorem Tw.cut {u W : World} {B : Nat} {f g a b : Int} {p : Option Addr} {n c : Nat} {P : Nat → Pc} (hS : Tw u B f g W) (hP : IsP u p n c P) (hn : n ≤ 1024) :
    Calls Try.prog 52 #[.slice p n c, .int .i64 a, .int .i64 b] W fun e w' => ∃ p3 m3 c3, e = .returned (.slice p3 m3 c3) ∧ CutF W.heap.size ((toL (fun k => clip a b (P k)) n).foldl putR []) p3 m3 c3 w' ∧ (w'.cell? ⟨B, 0, none⟩ = some (.int .i64 f) ∧ w'.cell? ⟨B, 1, none⟩ = some (.int .i64 g) ∧ (B < u.heap.size ∧ Below u.heap.size u w')) ∧ Below W.heap.size W w' :=
  (cut_any p n c P a b W hn (hP.below hS.2.2.2)).mono fun e w' ⟨v', he, ho, hb⟩ => by
    have sh : ∃ p3 m3 c3, v' = .slice p3 m3 c3 ∧ ((toL (fun k => clip a b (P k)) n).foldl putR []).length = m3 := by
      rcases ho.2 with ⟨rfl, h0⟩ | ⟨g', cap, cur, rfl, _⟩
      · exact ⟨_, _, _, rfl, h0⟩
      · exact ⟨_, _, _, rfl, rfl⟩
    obtain ⟨p3, m3, c3, rfl, hl⟩ := sh
    exact ⟨p3, m3, c3, he, ⟨ho, hl⟩, hS.go hb, hb⟩
theorem Tw.join {u W : World} {B : Nat} {f g : Int} {s t : Value} {Z : List Pc} (hS : Tw u B f g W) (hj : JPre u s t Z W) :
    Calls Try.prog 51 #[s, t] W fun e w' => ∃ v2, e = .returned v2 ∧ JF u Z v2 w' ∧ (w'.cell? ⟨B, 0, none⟩ = some (.int .i64 f) ∧ w'.cell? ⟨B, 1, none⟩ = some (.int .i64 g) ∧ (B < u.heap.size ∧ Below u.heap.size u w')) := by
  obtain ⟨A, p, n, c, P, ho, rfl, hP, hd, hl, rfl⟩ := hj
  refine (join_any u.heap.size s A p n c P W hS.2.2.2.size (by omega) ho hP hd).mono fun e w' ⟨v', he, ho', on⟩ => ?_
  have hb := on.below hS.2.2.2.size (fun k hk => (ho.lt k hk).1)
  exact ⟨v', he, ho', (hb.cell (p := ⟨B, 0, none⟩) hS.2.2.1).trans hS.1, (hb.cell (p := ⟨B, 1, none⟩) hS.2.2.1).trans hS.2.1, hS.2.2.1, hS.2.2.2.trans hb⟩

set_option maxRecDepth 10000 in
set_option maxHeartbeats 4000000 in
theorem change_any (p q : Option Addr) (n c m c2 : Nat) (P Q : Nat → Pc) (f u : Int) (w : World) (hP : IsP w p n c P) (hQ : IsP w q m c2 Q) (hm : m ≤ 1) :
    Calls Try.prog 39 #[.slice p n c, .agg #[.int .i64 f, .int .i64 u], .slice q m c2] w fun e w' => ChR (chV P n f u) (((toL (fun k => clip u 1048576 (P k)) n).foldl putR []).foldl putR ((toL Q m).foldl putR ((toL (fun k => clip 0 f (P k)) n).foldl putR []))) e w' ∧ Below w.heap.size w w' := by
  have al := (Below.refl w.heap.size w).alloc (Nat.le_refl _) (.cells #[.int .i64 f, .int .i64 u] 33)
  have HP := Lib.hid (hP.below al)
  have HQ := Lib.hid (hQ.below al)
  have HB := Lib.hid (Bs.new w f u 33)
  have AL := Lib.hid al
  clear hP hQ al
  have CC := Lib.hid (rCheck_any p n c P _ HP.out)
  have GG := Lib.hid (Good_any f u)
  have CV := Lib.hid (show chV P n f u = if ckV P n = 0 then (if spanB f u = true then 0 else 2) else ckV P n from rfl)
  have NN := Lib.hid (show ckV P n = 0 → n ≤ 1024 from fun h => by
    unfold ckV at h
    split at h
    · exact absurd h (by decide)
    · omega)
  generalize ckV P n = k at *
  generalize spanB f u = b at *
  go_enter Try.func39, Try.ntmps39
  go_wp2_with fail
  generalize w.alloc (.cells #[.int .i64 f, .int .i64 u] 33) = w0 at *
  refine CC.out.mono ?_; rintro e w1 ⟨rfl, b1⟩
  have P1 := Lib.hid (HP.out.below b1)
  have Q1 := Lib.hid (HQ.out.below b1)
  have S1 := Lib.hid (HB.out.below b1)
  have B1 := Lib.hid (AL.out.trans (b1.mono AL.out.size))
  clear b1 HP HQ HB AL CC
  obtain ⟨_, d0, d1⟩ := S1.out
  by_cases k0 : k = 0
  · subst k0
    go_wp2_with fail
    refine (GG.out _).mono ?_; rintro e w2 ⟨rfl, b2⟩
    have P2 := Lib.hid (P1.out.below b2)
    have Q2 := Lib.hid (Q1.out.below b2)
    have S2 := Lib.hid (S1.out.below b2)
    have B2 := Lib.hid (B1.out.trans (b2.mono B1.out.size))
    clear b2 P1 Q1 S1 B1 d0 d1
    obtain ⟨_, d0, d1⟩ := S2.out
    cases b
    · have C2 := Lib.hid (show chV P n f u = 2 from CV.out)
      go_wp2_with fail
      go_ret2
      exact ⟨by rw [C2.out]; exact ChR.err (by decide) rfl, B2.out⟩
    · have C2 := Lib.hid (show chV P n f u = 0 from CV.out)
      have hn : n ≤ 1024 := NN.out (by trivial)
      have x1 := foldR_nil_len (toL (fun k => clip 0 f (P k)) n)
      have x2 := foldR_nil_len (toL (fun k => clip u 1048576 (P k)) n)
      rw [toL_length] at x1 x2
      have yl := foldR_len (toL Q m) ((toL (fun k => clip 0 f (P k)) n).foldl putR [])
      rw [toL_length] at yl
      have X1 := Lib.hid (Nat.le_trans x1 (Nat.le_trans hn (by decide : 1024 ≤ 2000)))
      have X2 := Lib.hid (Nat.le_trans x2 (Nat.le_trans hn (by decide : 1024 ≤ 2000)))
      have Y1 := Lib.hid (show ((toL Q m).foldl putR ((toL (fun k => clip 0 f (P k)) n).foldl putR [])).length ≤ 2000 by omega)
      have MM := Lib.hid hm
      have hS0 := Lib.hid (show Tw w2 w.heap.size f u w2.drew from ⟨S2.out.2.1, S2.out.2.2, S2.out.1, (Below.refl _ w2).drew⟩)
      clear S2 d0 d1 x1 x2 yl
      go_wp2_with fail
      go_region_held3 (fun W => W.cell? ⟨w.heap.size, 0, none⟩ = some (.int .i64 f) ∧ W.cell? ⟨w.heap.size, 1, none⟩ = some (.int .i64 u) ∧ (w.heap.size < w2.heap.size ∧ Below w2.heap.size w2 W))
        (first | assumption | exact hS0.out)
        (first
          | (go_at_call 52; refine (Tw.cut (u := w2) (B := w.heap.size) (f := f) (g := u) (by first | assumption | exact hS0.out) P2.out hn).mono ?_; rintro e w7 ⟨p3, m3, c3, rfl, hF, hS7, b7⟩
             first
               | (have jp := JPre.two (u := w2) (by assumption) hF b7 X2.out Y1.out)
               | (have jp := JPre.one (u := w2) hF (by first | exact hS0.out.2.2.2.size | assumption) Q2.out hS7.2.2.2 X1.out MM.out))
          | (go_at_call 51; refine (Tw.join (u := w2) (B := w.heap.size) (f := f) (g := u) (by first | assumption | exact hS0.out) (by assumption)).mono ?_; rintro e w7 ⟨v2, rfl, hJ, hS7⟩))
      have LR := own_lres hJ
      have B7 := Lib.hid (B2.out.trans (hS7.2.2.2.mono B2.out.size))
      obtain ⟨R, hR⟩ : ∃ R, R = ((toL (fun k => clip u 1048576 (P k)) n).foldl putR []).foldl putR ((toL Q m).foldl putR ((toL (fun k => clip 0 f (P k)) n).foldl putR [])) := ⟨_, rfl⟩
      rw [← hR] at LR
      obtain ⟨q9, c9, Q9, rfl, hQ, eQ⟩ := LR
      have LR := Lib.hid (show LRes w7 (.slice q9 R.length c9) R from ⟨q9, c9, Q9, rfl, hQ, eQ⟩)
      have HR := Lib.hid hR
      clear hJ hS7 hR hQ eQ Q9 hn
      by_cases hl : 1024 < R.length
      · have hl' : (1024 : Int) < (R.length : Int) := by omega
        go_wp2_with fail
        go_ret2
        exact ⟨by rw [C2.out, ← HR.out]; exact ChR.large hl rfl, B7.out⟩
      · have hl' : ¬ (1024 : Int) < (R.length : Int) := by omega
        go_wp2_with fail
        go_ret2
        exact ⟨by rw [C2.out, ← HR.out]; exact ChR.good (v := .slice q9 R.length c9) hl LR.out rfl, B7.out⟩
  · have k1 : (k == 0) = false := by simpa using k0
    have C2 := Lib.hid (show chV P n f u = k from by rw [CV.out, if_neg k0])
    go_wp2_with fail
    go_ret2
    exact ⟨by rw [C2.out]; exact ChR.err k0 rfl, B1.out⟩
end Go.Proofs.Ytekigilhmdphnaa
