/- The walk of DatingHulls. -/
import Derived.Test.YtbllolalfmgfoaaDoorDT
import Derived.Deep.RegionHeld3
import Derived.Deep.DeepCutAuto
namespace Go.Proofs.YtbllolalfmgfoaaDoor
open Go.RowKit Go.Shelf

theorem hF_le (D : Nat → Int × Int) : ∀ n k, k < n → hF D n ≤ (D k).1
  | 0, _, h => absurd h (Nat.not_lt_zero _)
  | n + 1, k, h => by
    have e : hF D (n + 1) = mn (hF D n) (D n).1 := rfl
    rw [e]
    by_cases c : k = n
    · subst c; unfold mn; split <;> omega
    · have := hF_le D n k (by omega); unfold mn; split <;> omega
theorem hL_ge' (D : Nat → Int × Int) : ∀ n k, k < n → (D k).2 ≤ hL D n
  | 0, _, h => absurd h (Nat.not_lt_zero _)
  | n + 1, k, h => by
    have e : hL D (n + 1) = mx (hL D n) (D n).2 := rfl
    rw [e]
    by_cases c : k = n
    · subst c; unfold mx; split <;> omega
    · have := hL_ge' D n k (by omega); unfold mx; split <;> omega
theorem hF_is (D : Nat → Int × Int) : ∀ n, 0 < n → ∃ j, j < n ∧ (D j).1 = hF D n
  | 0, h => absurd h (Nat.lt_irrefl _)
  | n + 1, _ => by
    have e : hF D (n + 1) = mn (hF D n) (D n).1 := rfl
    rw [e]; unfold mn
    split
    · exact ⟨n, by omega, rfl⟩
    · by_cases c : n = 0
      · subst c; exact ⟨0, by omega, rfl⟩
      · obtain ⟨j, hj, h⟩ := hF_is D n (by omega)
        exact ⟨j, by omega, h⟩
theorem hL_is (D : Nat → Int × Int) : ∀ n, 0 < n → ∃ j, j < n ∧ (D j).2 = hL D n
  | 0, h => absurd h (Nat.lt_irrefl _)
  | n + 1, _ => by
    have e : hL D (n + 1) = mx (hL D n) (D n).2 := rfl
    rw [e]; unfold mx
    split
    · exact ⟨n, by omega, rfl⟩
    · by_cases c : n = 0
      · subst c; exact ⟨0, by omega, rfl⟩
      · obtain ⟨j, hj, h⟩ := hL_is D n (by omega)
        exact ⟨j, by omega, h⟩

/-- Has one of the first datings this first day (this last one)? -/
def metF (D : Nat → Int × Int) (F : Int) : Nat → Bool
  | 0 => false
  | k + 1 => metF D F k || ((D k).1 == F)
def metL (D : Nat → Int × Int) (L : Int) : Nat → Bool
  | 0 => false
  | k + 1 => metL D L k || ((D k).2 == L)
theorem metF_of (D : Nat → Int × Int) (F : Int) : ∀ n j, j < n → (D j).1 = F → metF D F n = true
  | 0, _, h, _ => absurd h (Nat.not_lt_zero _)
  | n + 1, j, h, e => by
    by_cases c : j = n
    · subst c; simp [metF, e]
    · simp [metF, metF_of D F n j (by omega) e]
theorem metL_of (D : Nat → Int × Int) (L : Int) : ∀ n j, j < n → (D j).2 = L → metL D L n = true
  | 0, _, h, _ => absurd h (Nat.not_lt_zero _)
  | n + 1, j, h, e => by
    by_cases c : j = n
    · subst c; simp [metL, e]
    · simp [metL, metL_of D L n j (by omega) e]

/-- What two datings have in common, seen from a day. -/
theorem seen (a b c d t : Int) (ha : gd (a, b) = true) (hc : gd (c, d) = true) :
    (a ≤ t ∧ t ≤ b ∧ c ≤ t ∧ t ≤ d ∧ mtB a b c d = true ∧ mtF a b c d ≤ t ∧ t ≤ mtL a b c d) ∨
    (¬ a ≤ t ∧ mtB a b c d = false) ∨ (¬ a ≤ t ∧ mtB a b c d = true ∧ ¬ mtF a b c d ≤ t) ∨
    (a ≤ t ∧ ¬ t ≤ b ∧ mtB a b c d = false) ∨ (a ≤ t ∧ ¬ t ≤ b ∧ mtB a b c d = true ∧ ¬ mtF a b c d ≤ t) ∨ (a ≤ t ∧ ¬ t ≤ b ∧ mtB a b c d = true ∧ mtF a b c d ≤ t ∧ ¬ t ≤ mtL a b c d) ∨
    (a ≤ t ∧ t ≤ b ∧ ¬ c ≤ t ∧ mtB a b c d = false) ∨ (a ≤ t ∧ t ≤ b ∧ ¬ c ≤ t ∧ mtB a b c d = true ∧ ¬ mtF a b c d ≤ t) ∨
    (a ≤ t ∧ t ≤ b ∧ c ≤ t ∧ ¬ t ≤ d ∧ mtB a b c d = false) ∨ (a ≤ t ∧ t ≤ b ∧ c ≤ t ∧ ¬ t ≤ d ∧ mtB a b c d = true ∧ mtF a b c d ≤ t ∧ ¬ t ≤ mtL a b c d) := by
  have h1 : mx a c = if a < c then c else a := rfl
  have h2 : mn b d = if d < b then d else b := rfl
  have hb := mtB_of (u := mx a c) (v := mn b d) rfl rfl ha hc
  cases hm : mtB a b c d
  · rw [hm] at hb
    have hb := of_decide_eq_false hb.symm
    simp only [reduceCtorEq, and_true, false_and, and_false, or_false, false_or]
    split at h1 <;> split at h2 <;> omega
  · obtain ⟨f1, f2⟩ := mt_t hm
    rw [f1, f2]
    simp only [reduceCtorEq, true_and, and_false, false_or]
    split at h1 <;> split at h2 <;> omega

set_option maxRecDepth 100000 in
set_option maxHeartbeats 4000000 in
/-- The ways out ahead of the loop. -/
theorem DatingHulls_out (p : Option Addr) (n cap : Nat) (t : Int) (F L E : Int) (w : World) (hT : Tab w) (hE : 40 < n ∨ (n ≤ 40 ∧ ¬ E = 0 ∧ F = 0 ∧ L = 0))
    (hH : ∀ V, Below w.heap.size w V → Calls Tryd.prog 22 #[.slice p n cap] V (DatE F L E V)) :
    Calls Tryd.prog 9 #[.slice p n cap, .int .i64 t] w fun e w' => e = .returned (.bool true) ∧ Below w.heap.size w w' := by
  have C0 := Lib.hid (awake_any w hT)
  have C1 := Lib.hid hH
  have q := eqSame 0 0
  have qg := eqDg 0 0 0 0
  clear hT hH
  rcases hE with h | ⟨h, h1, rfl, rfl⟩
  · have e1 : (40 : Int) < (n : Int) := by omega
    clear q
    go_enter Tryd.func9, Tryd.ntmps9
    go_wp2_with fail
    refine C0.out.mono ?_; rintro e w1 ⟨rfl, b1⟩
    go_wp2_with fail
    refine (C1.out _ b1).mono ?_; rintro e w2 ⟨rfl, b2⟩
    have g2 := b1.trans (b2.mono b1.size)
    have N := Box2.new w2 (.int .i64 F) (.int .i64 L) 23
    have g3 := g2.alloc g2.size (.cells #[.int .i64 F, .int .i64 L] 23)
    obtain ⟨n0, n1, n2, _⟩ := N
    clear b1 b2 g2 C0 C1
    go_wp2_with fail
    go_ret
    exact ⟨rfl, g3⟩
  · have e1 : ¬ (40 : Int) < (n : Int) := by omega
    have e2 : (E != 0) = true := by simp [h1]
    go_enter Tryd.func9, Tryd.ntmps9
    go_wp2_with fail
    refine C0.out.mono ?_; rintro e w1 ⟨rfl, b1⟩
    go_wp2_with fail
    refine (C1.out _ b1).mono ?_; rintro e w2 ⟨rfl, b2⟩
    have g2 := b1.trans (b2.mono b1.size)
    have N := Box2.new w2 (.int .i64 0) (.int .i64 0) 23
    have g3 := g2.alloc g2.size (.cells #[.int .i64 0, .int .i64 0] 23)
    obtain ⟨n0, n1, n2, _⟩ := N
    clear b1 b2 g2 C0 C1
    go_wp2_with fail
    go_ret
    exact ⟨rfl, g3⟩

/-- A dating and itself. -/
theorem self (a b : Int) (h : gd (a, b) = true) : mtB a b a b = true ∧ mtF a b a b = a ∧ mtL a b a b = b := by
  have h1 : mx a a = a := by unfold mx; split <;> rfl
  have h2 : mn b b = b := by unfold mn; split <;> rfl
  have hb := mtB_of h1 h2 h h
  have := (gd_t h).2.1
  simp only at this
  rw [decide_eq_true this] at hb
  obtain ⟨f, l⟩ := mt_t hb
  exact ⟨hb, by rw [f, h1], by rw [l, h2]⟩
theorem nqSame (u v : Int) (w : World) : (binOp .neq 23 (.agg #[.int .i64 u, .int .i64 v]) (.agg #[.int .i64 u, .int .i64 v])).run Tryd.prog w = .ok (.bool false) w := by
  have u3 := Tryd.underlying3
  have a3 := Tryd.isAgg3
  have z3 := Tryd.sizeOf3
  have hS : Tryd.prog.underlying 23 = some (.struct (Tryd.prog.fieldsOf 23)) := by kernel_rfl
  have hp : Tryd.prog.stoodInHeld 23 = false := by kernel_rfl
  rw [run_neq_struct, show (10000 : Nat) = 9999 + 1 from rfl, run_equalIn_agg w 9999 23 _ _ hS hp]
  simp only [Program.fieldsOf, Tryd.underlying23]
  go_simp

/-- Two boxes, in a world that the walk has reached. -/
abbrev Sy (u : World) (B b off : Nat) (y l : Int × Int) (W : World) : Prop :=
  W.cell? ⟨B, 0, none⟩ = some (.int .i64 y.1) ∧ W.cell? ⟨B, 1, none⟩ = some (.int .i64 y.2) ∧ W.cell? ⟨b, off, none⟩ = some (.int .i64 l.1) ∧ W.cell? ⟨b, off + 1, none⟩ = some (.int .i64 l.2) ∧ (B < u.heap.size ∧ b < u.heap.size ∧ Below u.heap.size u W)
theorem Sy.go {u : World} {B b off : Nat} {y l : Int × Int} {W V : World} (h : Sy u B b off y l W) (hb : Below W.heap.size W V) : Sy u B b off y l V := by
  obtain ⟨h1, h2, h3, h4, h5, h6, h7⟩ := h
  have l1 : B < W.heap.size := Nat.lt_of_lt_of_le h5 h7.size
  have l2 : b < W.heap.size := Nat.lt_of_lt_of_le h6 h7.size
  exact ⟨(hb.cell (p := ⟨B, 0, none⟩) l1).trans h1, (hb.cell (p := ⟨B, 1, none⟩) l1).trans h2, (hb.cell (p := ⟨b, off, none⟩) l2).trans h3, (hb.cell (p := ⟨b, off + 1, none⟩) l2).trans h4, h5, h6, h7.trans (hb.mono h7.size)⟩
theorem Sy.alloc {u : World} {B b off : Nat} {y l : Int × Int} {W : World} (h : Sy u B b off y l W) (o : Obj) : Sy u B b off y l (W.alloc o) := h.go ((Below.refl _ W).alloc (Nat.le_refl _) o)
theorem Sy.set {u : World} {B b off : Nat} {y l : Int × Int} {W : World} (h : Sy u B b off y l W) {Z : Nat} (hZ : u.heap.size ≤ Z) (v0 v1 : Value) :
    Sy u B b off y l ((W.setCell ⟨Z, 0, none⟩ v0).setCell ⟨Z, 1, none⟩ v1) := by
  obtain ⟨h1, h2, h3, h4, h5, h6, h7⟩ := h
  have n1 : ∀ o o', (⟨B, o, none⟩ : Addr) ≠ ⟨Z, o', none⟩ := fun o o' e => by injection e with e _; omega
  have n2 : ∀ o o', (⟨b, o, none⟩ : Addr) ≠ ⟨Z, o', none⟩ := fun o o' e => by injection e with e _; omega
  refine ⟨?_, ?_, ?_, ?_, h5, h6, (h7.setCell (p := ⟨Z, 0, none⟩) hZ _).setCell (p := ⟨Z, 1, none⟩) hZ _⟩
  · rw [World.cell?_setCell_other _ _ _ _ (n1 _ _).symm, World.cell?_setCell_other _ _ _ _ (n1 _ _).symm]; exact h1
  · rw [World.cell?_setCell_other _ _ _ _ (n1 _ _).symm, World.cell?_setCell_other _ _ _ _ (n1 _ _).symm]; exact h2
  · rw [World.cell?_setCell_other _ _ _ _ (n2 _ _).symm, World.cell?_setCell_other _ _ _ _ (n2 _ _).symm]; exact h3
  · rw [World.cell?_setCell_other _ _ _ _ (n2 _ _).symm, World.cell?_setCell_other _ _ _ _ (n2 _ _).symm]; exact h4
theorem Sy.keep {u : World} {B b off : Nat} {y l : Int × Int} {W : World} {f : FuncId} {args : Array Value} {v : Value} (hS : Sy u B b off y l W)
    (h : Calls Tryd.prog f args W fun e w' => e = .returned v ∧ Below W.heap.size W w') : Calls Tryd.prog f args W fun e w' => e = .returned v ∧ Sy u B b off y l w' ∧ Below W.heap.size W w' :=
  h.mono fun _ _ ⟨he, hb⟩ => ⟨he, hS.go hb, hb⟩

set_option maxRecDepth 100000 in
set_option maxHeartbeats 8000000 in
theorem DatingHulls_in (b off n cap : Nat) (t : Int) (D : Nat → Int × Int) (w : World) (hT : Tab w) (hn : n ≤ 40) (h0 : 0 < n) (hD : Dats w b off n D) (hg : allGd D n = true) :
    Calls Tryd.prog 9 #[.slice (some ⟨b, off, none⟩) n cap, .int .i64 t] w fun e w' => e = .returned (.bool true) ∧ Below w.heap.size w w' := by
  have C0 := Lib.hid (awake_any w hT)
  have C1 := Lib.hid (fun V (hV : Below w.heap.size w V) => Hull_good b off n cap D V (by omega) h0 (hD.below hV) hg)
  have HF := Lib.hid (hF_le D n)
  have HL := Lib.hid (hL_ge' D n)
  have HFi : metF D (hF D n) n = true := by obtain ⟨j, hj, h⟩ := hF_is D n h0; exact metF_of D _ n j hj h
  have HLi : metL D (hL D n) n = true := by obtain ⟨j, hj, h⟩ := hL_is D n h0; exact metL_of D _ n j hj h
  have GD := Lib.hid (allGd_t hg)
  generalize hF D n = F at C1 HF HFi
  generalize hL D n = L at C1 HL HLi
  have HI := Lib.hid (And.intro HFi HLi)
  have HD := Lib.hid hD
  have e1 : ¬ (40 : Int) < (n : Int) := by omega
  have e3 : (0 : Int) < (n : Int) := by omega
  clear hT hD hg HFi HLi
  go_enter Tryd.func9, Tryd.ntmps9
  go_wp2_with fail
  refine C0.out.mono ?_; rintro e w1 ⟨rfl, b1⟩
  go_wp2_with fail
  refine (C1.out _ b1).mono ?_; rintro e w2 ⟨rfl, b2⟩
  have g2 := b1.trans (b2.mono b1.size)
  have N := Lib.hid (Box2.new w2 (.int .i64 F) (.int .i64 L) 23)
  have g3 := g2.alloc g2.size (.cells #[.int .i64 F, .int .i64 L] 23)
  clear b1 b2 g2 C0 C1
  go_wp2_with fail
  generalize w2.alloc (.cells #[.int .i64 F, .int .i64 L] 23) = W3 at N g3 ⊢
  have HD3 := Lib.hid (HD.out.below g3)
  go_loopg [7, 8, 9, 10, 11, 12, 13, 38] n (fun gg s7 s8 _ _ _ _ _ s38 wr => ∃ kk : Nat, kk ≤ n ∧ n - kk ≤ gg ∧ s7 = .bool (metF D F kk) ∧ s8 = .bool (metL D L kk) ∧ s38 = .int .i64 kk ∧ Aside (Below W3.heap.size W3 wr))
  case atStart => exact ⟨0, Nat.zero_le _, by omega, rfl, rfl, rfl, Below.refl _ W3⟩
  case round =>
    obtain ⟨kk, hkk, hg, rfl, rfl, rfl, R⟩ := hrel
    by_cases hlt : kk < n
    · have hltz : (kk : Int) < (n : Int) := by omega
      obtain ⟨l1, l2⟩ := (HD3.out.below R.out).2 kk hlt
      have ny := Box2.new wr (.int .i64 (D kk).1) (.int .i64 (D kk).2) 23
      have AB := (Below.refl wr.heap.size wr).alloc (Nat.le_refl _) (.cells #[.int .i64 (D kk).1, .int .i64 (D kk).2] 23)
      have BW := R.out.trans (AB.mono R.out.size)
      obtain ⟨xs, x0, x1, _⟩ := N.out.below BW
      have dd := HD3.out.below BW
      obtain ⟨d0, d1⟩ := dd.2 0 h0
      have ds := dd.1
      have d0 : (wr.alloc (.cells #[.int .i64 (D kk).1, .int .i64 (D kk).2] 23)).cell? ⟨b, off, none⟩ = some (.int .i64 (D 0).1) := by simpa using d0
      have d1 : (wr.alloc (.cells #[.int .i64 (D kk).1, .int .i64 (D kk).2] 23)).cell? ⟨b, off + 1, none⟩ = some (.int .i64 (D 0).2) := by simpa using d1
      have f1 : ¬ (D kk).1 < F := by have := HF.out kk hlt; omega
      have f2 : ¬ L < (D kk).2 := by have := HL.out kk hlt; omega
      have g1 := GD.out kk hlt
      have g2 := GD.out 0 h0
      have SE := Lib.hid (seen (D kk).1 (D kk).2 (D 0).1 (D 0).2 t g1 g2)
      have SF := Lib.hid (self (D 0).1 (D 0).2 g2)
      have SF2 : kk = 0 → mtB (D kk).1 (D kk).2 (D 0).1 (D 0).2 = true ∧ mtF (D kk).1 (D kk).2 (D 0).1 (D 0).2 = (D kk).1 ∧ mtL (D kk).1 (D kk).2 (D 0).1 (D 0).2 = (D kk).2 := fun h => by rw [h]; exact SF.out
      have CM := fun V => (show Calls Tryd.prog 20 #[.agg #[.int .i64 (D kk).1, .int .i64 (D kk).2], .agg #[.int .i64 (D 0).1, .int .i64 (D 0).2]] V (fun e w' => e = .returned (.tuple #[.agg #[.int .i64 (mtF (D kk).1 (D kk).2 (D 0).1 (D 0).2), .int .i64 (mtL (D kk).1 (D kk).2 (D 0).1 (D 0).2)], .bool (mtB (D kk).1 (D kk).2 (D 0).1 (D 0).2)]) ∧ Below V.heap.size V w') from Meet_any (D kk).1 (D kk).2 (D 0).1 (D 0).2 V)
      have SE := SE.out
      generalize mtB (D kk).1 (D kk).2 (D 0).1 (D 0).2 = mb at SE SF2 CM
      generalize mtF (D kk).1 (D kk).2 (D 0).1 (D 0).2 = mf at SE SF2 CM
      generalize mtL (D kk).1 (D kk).2 (D 0).1 (D 0).2 = ml at SE SF2 CM
      have CM := Lib.hid CM
      have SE := Lib.hid SE
      have SF := Lib.hid SF2
      clear SF2
      have BW := Lib.hid BW
      have MF := Lib.hid (show metF D F (kk + 1) = (metF D F kk || ((D kk).1 == F)) from rfl)
      have ML := Lib.hid (show metL D L (kk + 1) = (metL D L kk || ((D kk).2 == L)) from rfl)
      obtain ⟨ys, y0, y1, _⟩ := ny
      clear AB R g1 g2 HF HL dd
      go_upto_region 12 with (fail)
      generalize wr.alloc (.cells #[.int .i64 (D kk).1, .int .i64 (D kk).2] 23) = W4 at BW xs x0 x1 d0 d1 ds ys y0 y1 ⊢
      go_cut [7, 8, 38] (fun s7 s8 s38 wx => s7 = .bool (metF D F (kk + 1)) ∧ s8 = .bool (metL D L (kk + 1)) ∧ s38 = .int .i64 kk ∧ Aside (Below W4.heap.size W4 wx))
      case first =>
        cases u7 : metF D F kk <;> cases u8 : metL D L kk
        all_goals
          go_quiet (fail)
          go_wp2_with fail
          go_meet
          case rel => exact ⟨by rw [MF.out, u7]; rfl, by rw [ML.out, u8]; rfl, rfl, ⟨rfl, rfl, rfl, Nat.le_refl _, fun _ _ => rfl⟩⟩
      case rest =>
        obtain ⟨rfl, rfl, rfl, hc1⟩ := hcut
        have y0 := (hc1.out.cell (p := ⟨wr.heap.size, 0, none⟩) ys).trans y0
        have y1 := (hc1.out.cell (p := ⟨wr.heap.size, 1, none⟩) ys).trans y1
        have d0 := (hc1.out.cell (p := ⟨b, off, none⟩) ds).trans d0
        have d1 := (hc1.out.cell (p := ⟨b, off + 1, none⟩) ds).trans d1
        have ys := Nat.lt_of_lt_of_le ys hc1.out.size
        have ds := Nat.lt_of_lt_of_le ds hc1.out.size
        have BW2 := Lib.hid (BW.out.trans (hc1.out.mono BW.out.size))
        have hS0 : Sy wc wr.heap.size b off (D kk) (D 0) wc.drew := ⟨y0, y1, d0, d1, ys, ds, (Below.refl _ wc).drew⟩
        have hS0 := Lib.hid hS0
        clear hc1 x0 x1 xs y0 y1 d0 d1 ys ds f1 f2
        go_upto_region 13 with (fail)
        go_cut [11, 12, 38] (fun s11 s12 s38 wx => ∃ Z : Nat, s11 = .pointer (some ⟨Z, 0, none⟩) ∧ s12 = .bool mb ∧ s38 = .int .i64 kk ∧
          Aside (wx.cell? ⟨Z, 0, none⟩ = some (.int .i64 mf) ∧ wx.cell? ⟨Z, 1, none⟩ = some (.int .i64 ml) ∧ Sy wc wr.heap.size b off (D kk) (D 0) wx))
        case first =>
          go_region_held3 (fun W => W.cell? ⟨wr.heap.size, 0, none⟩ = some (.int .i64 (D kk).1) ∧ W.cell? ⟨wr.heap.size, 1, none⟩ = some (.int .i64 (D kk).2) ∧ W.cell? ⟨b, off, none⟩ = some (.int .i64 (D 0).1) ∧ W.cell? ⟨b, off + 1, none⟩ = some (.int .i64 (D 0).2) ∧ (wr.heap.size < wc.heap.size ∧ b < wc.heap.size ∧ Below wc.heap.size wc W))
            (first | assumption | exact hS0.out | exact Sy.alloc (u := wc) (B := wr.heap.size) (b := b) (off := off) (y := D kk) (l := D 0) (by assumption) _ | exact Sy.set (u := wc) (B := wr.heap.size) (b := b) (off := off) (y := D kk) (l := D 0) (by assumption) (by first | exact Nat.le_refl _ | exact hS5.2.2.2.2.2.2.size) _ _)
            (first | (go_at_call 20; refine (Sy.keep (u := wc) (B := wr.heap.size) (b := b) (off := off) (y := D kk) (l := D 0) (by assumption) (CM.out _)).mono ?_; rintro e w5 ⟨rfl, hS5, b5⟩; first | (have zz : Box2 w5 wc.heap.size (.int .i64 0) (.int .i64 0) := (by with_reducible exact Box2.below (Box2.below (Box2.new wc (.int .i64 0) (.int .i64 0) 23) (Below.refl _ _).drew) b5); have ZZ := Lib.hid zz; obtain ⟨_, z1, z2, z3, z4⟩ := zz) | skip))
          · go_wp2_with fail
            go_meet
            case rel => exact ⟨w5.heap.size, rfl, rfl, rfl, (Box2.new w5 (.int .i64 mf) (.int .i64 ml) 23).2.1, (Box2.new w5 (.int .i64 mf) (.int .i64 ml) 23).2.2.1, by assumption⟩
          · go_wp2_with fail
            go_meet
            case rel => exact ⟨wc.heap.size, rfl, rfl, rfl, (ZZ.out.set (.int .i64 mf) (.int .i64 ml)).2.1, (ZZ.out.set (.int .i64 mf) (.int .i64 ml)).2.2.1, by assumption⟩
        case rest =>
          obtain ⟨Z, rfl, rfl, rfl, hc2⟩ := hcut
          obtain ⟨z0, z1, y0, y1, d0, d1, _, _, bw⟩ := hc2.out
          have BW3 := Lib.hid (BW2.out.trans (bw.mono BW2.out.size))
          clear hc2 bw BW2 hS0 CM BW
          rcases Nat.eq_zero_or_pos kk with hk | hk
          · subst hk
            obtain ⟨rfl, rfl, rfl⟩ := SF.out rfl
            have q := nqSame (D 0).1 (D 0).2
            have qg := eqDg (D 0).1 (D 0).2 (D 0).1 (D 0).2
            have hz : (((0 : Nat) : Int)) = 0 := rfl
            rcases SE.out with ⟨p1, p2, p3, p4, p5, p6, p7⟩ | ⟨p1, p2⟩ | ⟨p1, p2, p3⟩ | ⟨p1, p2, p3⟩ | ⟨p1, p2, p3, p4⟩ | ⟨p1, p2, p3, p4, p5⟩ | ⟨p1, p2, p3, p4⟩ | ⟨p1, p2, p3, p4, p5⟩ | ⟨p1, p2, p3, p4, p5⟩ | ⟨p1, p2, p3, p4, p5, p6, p7⟩
            all_goals first
              | (exfalso; first | contradiction | omega)
              | (go_wp2_with fail
                 go_roundg (n - (0 + 1))
                 case measure => omega
                 case rel => exact ⟨0 + 1, by omega, by omega, rfl, rfl, by go_num, BW3.out⟩)
          · have hk0 : ¬ (kk : Int) = 0 := by omega
            have hk1 : ((kk : Int) == 0) = false := by simp; omega
            rcases SE.out with ⟨p1, p2, p3, p4, rfl, p6, p7⟩ | ⟨p1, rfl⟩ | ⟨p1, rfl, p3⟩ | ⟨p1, p2, rfl⟩ | ⟨p1, p2, rfl, p4⟩ | ⟨p1, p2, rfl, p4, p5⟩ | ⟨p1, p2, p3, rfl⟩ | ⟨p1, p2, p3, rfl, p5⟩ | ⟨p1, p2, p3, p4, rfl⟩ | ⟨p1, p2, p3, p4, rfl, p6, p7⟩
            all_goals
              go_wp2_with fail
              go_roundg (n - (kk + 1))
              case measure => omega
              case rel => exact ⟨kk + 1, by omega, by omega, rfl, rfl, by go_num, BW3.out⟩
    · have hltz : ¬ (kk : Int) < (n : Int) := by omega
      have : kk = n := by omega
      subst this
      obtain ⟨i1, i2⟩ := HI.out
      go_wp2
      go_ret
      exact ⟨by first | rfl | (simp [*]; done), g3.trans (R.out.mono g3.size)⟩

theorem DatingHulls_any (p : Option Addr) (n cap : Nat) (t : Int) (D : Nat → Int × Int) (w : World) (hT : Tab w) (hl : IsList w p n cap D) :
    Calls Tryd.prog 9 #[.slice p n cap, .int .i64 t] w fun e w' => e = .returned (.bool true) ∧ Below w.heap.size w w' := by
  by_cases hn : 40 < n
  · obtain ⟨F, L, E, c5, _⟩ := hulls p n cap D w hl
    exact DatingHulls_out p n cap t F L E w hT (Or.inl hn) c5
  · rcases hl with ⟨rfl, rfl, rfl⟩ | ⟨⟨b, off, spot⟩, rfl, hm, hD⟩
    · exact DatingHulls_out none 0 0 t 0 0 9 w hT (Or.inr ⟨by omega, by decide, rfl, rfl⟩) (fun V _ => Hull_empty _ (Or.inl rfl) V)
    · by_cases h0 : n = 0
      · subst h0
        exact DatingHulls_out _ 0 cap t 0 0 9 w hT (Or.inr ⟨by omega, by decide, rfl, rfl⟩) (fun V _ => Hull_empty _ (Or.inr ⟨_, _, rfl⟩) V)
      · obtain ⟨hsp, hE⟩ := hD (by omega)
        clear hD
        simp only at hsp hE
        subst hsp
        have hD := hE
        clear hE
        cases hg : allGd D n
        · exact DatingHulls_out _ n cap t 0 0 1 w hT (Or.inr ⟨by omega, by decide, rfl, rfl⟩) (fun V hV => Hull_bad b off n cap D V (by omega) (by omega) (hD.below hV) hg)
        · exact DatingHulls_in b off n cap t D w hT (by omega) (by omega) hD hg
end Go.Proofs.YtbllolalfmgfoaaDoor
