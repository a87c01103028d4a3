/- Days, and the reference's. -/
import Derived.Test.YtekigilhmdphnaaTE
namespace Go.Proofs.Ytekigilhmdphnaa
open Go.RowKit Go.Shelf

/-- On how many days the first pieces have a value. -/
def dsum (P : Nat → Pc) (v : Int) : Nat → Int
  | 0 => 0
  | k + 1 => if (P k).v = v then dsum P v k + ((P k).u - (P k).f) else dsum P v k
theorem ckE_all {P : Nat → Pc} {n : Nat} (h : ckE P n = 0) : ∀ k, k < n → spanB (P k).f (P k).u = true := by
  intro k hk
  cases hq : spanB (P k).f (P k).u with
  | true => rfl
  | false =>
    by_cases c : ckE P k = 0
    · have CA : ckAt P k = 2 := by unfold ckAt; rw [if_neg (by rw [hq]; decide)]
      have := ckE_at P c (by rw [CA]; decide) hk
      omega
    · have := ckE_stop P c (Nat.le_of_lt hk)
      omega
theorem spanB_t {f u : Int} (h : spanB f u = true) : 0 ≤ f ∧ f < u ∧ u ≤ 1048576 := of_decide_eq_true h
theorem dsum_bd {P : Nat → Pc} {v : Int} {n : Nat} (h : ∀ k, k < n → spanB (P k).f (P k).u = true) : ∀ k, k ≤ n → 0 ≤ dsum P v k ∧ dsum P v k ≤ 1048576 * k
  | 0, _ => ⟨Int.le_refl _, by simp [dsum]⟩
  | k + 1, hk => by
    have ih := dsum_bd (v := v) h k (by omega)
    have s := spanB_t (h k (by omega))
    show 0 ≤ (if (P k).v = v then dsum P v k + ((P k).u - (P k).f) else dsum P v k) ∧ (if (P k).v = v then dsum P v k + ((P k).u - (P k).f) else dsum P v k) ≤ _
    split <;> push_cast <;> omega

set_option maxRecDepth 10000 in
set_option maxHeartbeats 2000000 in
theorem Days_good (b off n c : Nat) (P : Nat → Pc) (v : Int) (w : World) (hn : n ≤ 1024) (hP : Pcs w b off n P) (hg : ckE P n = 0) :
    Calls Try.prog 18 #[.slice (some ⟨b, off, none⟩) n c, .int .i64 v] w (RetV (dsum P v n) w) := by
  have HC := Lib.hid (Check_some b off n c P w hn hP)
  rw [hg] at HC
  have HP := Lib.hid hP
  have HA := Lib.hid (ckE_all hg)
  clear hP hg
  go_enter Try.func18, Try.ntmps18
  go_wp2_with fail
  refine HC.out.mono ?_; rintro e w0 ⟨rfl, b0⟩
  have B0 := Lib.hid b0
  clear b0 HC
  go_wp2_with fail
  go_loopg [5, 7, 13] n (fun gg s5 _ s13 wr => ∃ kk : Nat, kk ≤ n ∧ n - kk ≤ gg ∧ s5 = .int .i64 (dsum P v kk) ∧ s13 = .int .i64 kk ∧ Aside (Below w.heap.size w wr))
  case atStart => exact ⟨0, Nat.zero_le _, by omega, rfl, rfl, B0.out⟩
  case round =>
    obtain ⟨kk, hkk, hg, rfl, rfl, BW⟩ := hrel
    by_cases hlt : kk < n
    · have hltz : (kk : Int) < (n : Int) := by omega
      obtain ⟨l0, l1, l2⟩ := (HP.out.below BW.out).2 kk hlt
      have AB := (Below.refl wr.heap.size wr).alloc (Nat.le_refl _) (.cells #[.int .i64 (P kk).f, .int .i64 (P kk).u, .int .i64 (P kk).v] 47)
      have BX := Lib.hid (Box3.new wr (P kk) 47)
      have BW2 := Lib.hid (BW.out.trans (AB.mono BW.out.size))
      have MM : dsum P v (kk + 1) = if (P kk).v = v then dsum P v kk + ((P kk).u - (P kk).f) else dsum P v kk := rfl
      have sb := spanB_t (HA.out kk hlt)
      have db := dsum_bd (v := v) HA.out kk hkk
      clear AB BW
      generalize hy : P kk = y at *
      obtain ⟨_, x0, x1, x2⟩ := BX.out
      clear hy
      by_cases c1 : y.v = v
      · rw [if_pos c1] at MM
        have MM := Lib.hid MM
        have g1 : (y.v == v) = true := by simpa using c1
        clear c1
        generalize dsum P v kk = S at *
        have q1 : IntKind.i64.wrap (y.u - y.f) = y.u - y.f := IntWalk.i64_in _ ⟨by omega, by omega⟩
        have q2 : IntKind.i64.wrap (S + (y.u - y.f)) = S + (y.u - y.f) := IntWalk.i64_in _ ⟨by omega, by omega⟩
        go_wp2_with fail
        go_roundg (n - (kk + 1))
        case measure => omega
        case rel => exact ⟨kk + 1, by omega, by omega, by first | (rw [MM.out]; done) | (rw [MM.out, q1, q2]) | (rw [MM.out]; go_num) | (rw [MM.out]; simp [q1, q2]), by go_num, (show Aside _ from BW2.out)⟩
      · rw [if_neg c1] at MM
        have MM := Lib.hid MM
        have g1 : (y.v == v) = false := by simpa using c1
        clear c1
        go_wp2_with fail
        go_roundg (n - (kk + 1))
        case measure => omega
        case rel => exact ⟨kk + 1, by omega, by omega, by rw [MM.out], by go_num, (show Aside _ from BW2.out)⟩
    · have hltz : ¬ (kk : Int) < (n : Int) := by omega
      have : kk = n := by omega
      subst this
      go_wp2
      go_ret
      exact ⟨rfl, BW.out⟩

set_option maxRecDepth 10000 in
set_option maxHeartbeats 2000000 in
theorem rDays_good (b off n c : Nat) (P : Nat → Pc) (v : Int) (w : World) (hn : n ≤ 1024) (hP : Pcs w b off n P) (hg : ckE P n = 0) :
    Calls Try.prog 19 #[.slice (some ⟨b, off, none⟩) n c, .int .i64 v] w (RetV (dsum P v n) w) := by
  have HC := Lib.hid (rCheck_some b off n c P w hn hP)
  rw [hg] at HC
  have HP := Lib.hid hP
  have HA := Lib.hid (ckE_all hg)
  clear hP hg
  go_enter Try.func19, Try.ntmps19
  go_wp2_with fail
  refine HC.out.mono ?_; rintro e w0 ⟨rfl, b0⟩
  have B0 := Lib.hid b0
  clear b0 HC
  go_wp2_with fail
  go_loopg [5, 6] n (fun gg s5 s6 wr => ∃ kk : Nat, kk ≤ n ∧ n - kk ≤ gg ∧ s5 = .int .i64 (dsum P v kk) ∧ s6 = .int .i64 kk ∧ Aside (Below w.heap.size w wr))
  case atStart => exact ⟨0, Nat.zero_le _, by omega, rfl, rfl, B0.out⟩
  case round =>
    obtain ⟨kk, hkk, hg, rfl, rfl, BW⟩ := hrel
    by_cases hlt : kk < n
    · have hltz : (kk : Int) < (n : Int) := by omega
      have hz0 : (0 : Int) ≤ (kk : Int) := by omega
      obtain ⟨l0, l1, l2⟩ := (HP.out.below BW.out).2 kk hlt
      have MM : dsum P v (kk + 1) = if (P kk).v = v then dsum P v kk + ((P kk).u - (P kk).f) else dsum P v kk := rfl
      have sb := spanB_t (HA.out kk hlt)
      have db := dsum_bd (v := v) HA.out kk hkk
      generalize hy : P kk = y at *
      clear hy
      by_cases c1 : y.v = v
      · rw [if_pos c1] at MM
        have MM := Lib.hid MM
        have g1 : (y.v == v) = true := by simpa using c1
        clear c1
        generalize dsum P v kk = S at *
        have q1 : IntKind.i64.wrap (S + y.u) = S + y.u := IntWalk.i64_in _ ⟨by omega, by omega⟩
        have q2 : IntKind.i64.wrap (S + y.u - y.f) = S + y.u - y.f := IntWalk.i64_in _ ⟨by omega, by omega⟩
        go_wp2_with fail
        go_quiet (fail)
        clear q1 q2
        go_wp2_with fail
        go_roundg (n - (kk + 1))
        case measure => omega
        case rel => exact ⟨kk + 1, by omega, by omega, by rw [MM.out]; congr 1; omega, by go_num, (show Aside _ from BdN BW.out _)⟩
      · rw [if_neg c1] at MM
        have MM := Lib.hid MM
        have g1 : (y.v == v) = false := by simpa using c1
        clear c1
        go_wp2_with fail
        go_roundg (n - (kk + 1))
        case measure => omega
        case rel => exact ⟨kk + 1, by omega, by omega, by rw [MM.out], by go_num, (show Aside _ from BW.out)⟩
    · have hltz : ¬ (kk : Int) < (n : Int) := by omega
      have : kk = n := by omega
      subst this
      go_wp2
      go_ret
      exact ⟨rfl, BW.out⟩

/-! Where the list has a fault. -/
set_option maxHeartbeats 1000000 in
theorem First_bad (p : Option Addr) (n c : Nat) (d v z : Int) (w : World) (hz : z ≠ 0) (h : Calls Try.prog 16 #[.slice p n c] w (RetV z w)) :
    Calls Try.prog 14 #[.slice p n c, .int .i64 d, .int .i64 v] w fun e w' => e = .returned (.tuple #[.int .i64 0, .bool false]) ∧ Below w.heap.size w w' := by
  have H := Lib.hid h
  have g : (z != 0) = true := by simpa using hz
  clear h hz
  go_enter Try.func14, Try.ntmps14
  go_wp2_with fail
  refine H.out.mono ?_; rintro e w0 ⟨rfl, b0⟩
  go_wp2
  go_ret2
  exact ⟨rfl, b0⟩
set_option maxHeartbeats 1000000 in
theorem rFirst_bad (p : Option Addr) (n c : Nat) (d v z : Int) (w : World) (hz : z ≠ 0) (h : Calls Try.prog 17 #[.slice p n c] w (RetV z w)) :
    Calls Try.prog 15 #[.slice p n c, .int .i64 d, .int .i64 v] w fun e w' => e = .returned (.tuple #[.int .i64 0, .bool false]) ∧ Below w.heap.size w w' := by
  have H := Lib.hid h
  have g : (z != 0) = true := by simpa using hz
  clear h hz
  go_enter Try.func15, Try.ntmps15
  go_wp2_with fail
  refine H.out.mono ?_; rintro e w0 ⟨rfl, b0⟩
  go_wp2
  go_ret2
  exact ⟨rfl, b0⟩
set_option maxHeartbeats 1000000 in
theorem Days_bad (p : Option Addr) (n c : Nat) (v z : Int) (w : World) (hz : z ≠ 0) (h : Calls Try.prog 16 #[.slice p n c] w (RetV z w)) :
    Calls Try.prog 18 #[.slice p n c, .int .i64 v] w (RetV 0 w) := by
  have H := Lib.hid h
  have g : (z != 0) = true := by simpa using hz
  clear h hz
  go_enter Try.func18, Try.ntmps18
  go_wp2_with fail
  refine H.out.mono ?_; rintro e w0 ⟨rfl, b0⟩
  go_wp2
  go_ret
  exact ⟨rfl, b0⟩
set_option maxHeartbeats 1000000 in
theorem rDays_bad (p : Option Addr) (n c : Nat) (v z : Int) (w : World) (hz : z ≠ 0) (h : Calls Try.prog 17 #[.slice p n c] w (RetV z w)) :
    Calls Try.prog 19 #[.slice p n c, .int .i64 v] w (RetV 0 w) := by
  have H := Lib.hid h
  have g : (z != 0) = true := by simpa using hz
  clear h hz
  go_enter Try.func19, Try.ntmps19
  go_wp2_with fail
  refine H.out.mono ?_; rintro e w0 ⟨rfl, b0⟩
  go_wp2
  go_ret
  exact ⟨rfl, b0⟩

/-! Where the list has nothing. -/
set_option maxHeartbeats 1000000 in
theorem At_zero (p : Option Addr) (c : Nat) (P : Nat → Pc) (d : Int) (w : World) :
    Calls Try.prog 12 #[.slice p 0 c, .int .i64 d] w (AtR P 0 d w) := by
  go_enter Try.func12, Try.ntmps12
  go_wp2
  go_loopg [10] 1 (fun gg s10 wr => s10 = .int .i64 0 ∧ Aside (Below w.heap.size w wr))
  case atStart => exact ⟨rfl, Below.refl _ w⟩
  case round =>
    obtain ⟨rfl, BW⟩ := hrel
    go_wp2
    go_ret2
    exact ⟨Or.inr ⟨fun j hj => absurd hj (Nat.not_lt_zero _), rfl⟩, BW.out⟩
set_option maxHeartbeats 1000000 in
theorem rAt_zero (p : Option Addr) (c : Nat) (P : Nat → Pc) (d : Int) (w : World) :
    Calls Try.prog 13 #[.slice p 0 c, .int .i64 d] w (AtR P 0 d w) := by
  go_enter Try.func13, Try.ntmps13
  go_wp2
  go_loopg [6] 1 (fun gg s6 wr => s6 = .int .i64 0 ∧ Aside (Below w.heap.size w wr))
  case atStart => exact ⟨rfl, Below.refl _ w⟩
  case round =>
    obtain ⟨rfl, BW⟩ := hrel
    go_wp2
    go_ret2
    exact ⟨Or.inr ⟨fun j hj => absurd hj (Nat.not_lt_zero _), rfl⟩, BW.out⟩
set_option maxHeartbeats 1000000 in
theorem First_zero (p : Option Addr) (c : Nat) (q : Nat → Bool) (g : Nat → Int) (d v : Int) (w : World) :
    Calls Try.prog 14 #[.slice p 0 c, .int .i64 d, .int .i64 v] w (SkR q g 0 w) := by
  go_enter Try.func14, Try.ntmps14
  go_wp2_with fail
  refine (Check_none p c w).mono ?_; rintro e w0 ⟨rfl, b0⟩
  go_wp2_with fail
  go_loopg [15] 1 (fun gg s15 wr => s15 = .int .i64 0 ∧ Aside (Below w.heap.size w wr))
  case atStart => exact ⟨rfl, b0⟩
  case round =>
    obtain ⟨rfl, BW⟩ := hrel
    go_wp2
    go_ret2
    exact ⟨Or.inr ⟨fun j hj => absurd hj (Nat.not_lt_zero _), rfl⟩, BW.out⟩
set_option maxHeartbeats 1000000 in
theorem rFirst_zero (p : Option Addr) (c : Nat) (q : Nat → Bool) (g : Nat → Int) (d v : Int) (w : World) :
    Calls Try.prog 15 #[.slice p 0 c, .int .i64 d, .int .i64 v] w (SkR q g 0 w) := by
  go_enter Try.func15, Try.ntmps15
  go_wp2_with fail
  refine (rCheck_none p c w).mono ?_; rintro e w0 ⟨rfl, b0⟩
  go_wp2_with fail
  go_loopg [8] 1 (fun gg s8 wr => s8 = .int .i64 0 ∧ Aside (Below w.heap.size w wr))
  case atStart => exact ⟨rfl, b0⟩
  case round =>
    obtain ⟨rfl, BW⟩ := hrel
    go_wp2
    go_ret2
    exact ⟨Or.inr ⟨fun j hj => absurd hj (Nat.not_lt_zero _), rfl⟩, BW.out⟩
set_option maxHeartbeats 1000000 in
theorem Days_zero (p : Option Addr) (c : Nat) (v : Int) (w : World) :
    Calls Try.prog 18 #[.slice p 0 c, .int .i64 v] w (RetV 0 w) := by
  go_enter Try.func18, Try.ntmps18
  go_wp2_with fail
  refine (Check_none p c w).mono ?_; rintro e w0 ⟨rfl, b0⟩
  go_wp2_with fail
  go_loopg [5, 13] 1 (fun gg s5 s13 wr => s5 = .int .i64 0 ∧ s13 = .int .i64 0 ∧ Aside (Below w.heap.size w wr))
  case atStart => exact ⟨rfl, rfl, b0⟩
  case round =>
    obtain ⟨rfl, rfl, BW⟩ := hrel
    go_wp2
    go_ret
    exact ⟨rfl, BW.out⟩
set_option maxHeartbeats 1000000 in
theorem rDays_zero (p : Option Addr) (c : Nat) (v : Int) (w : World) :
    Calls Try.prog 19 #[.slice p 0 c, .int .i64 v] w (RetV 0 w) := by
  go_enter Try.func19, Try.ntmps19
  go_wp2_with fail
  refine (rCheck_none p c w).mono ?_; rintro e w0 ⟨rfl, b0⟩
  go_wp2_with fail
  go_loopg [5, 6] 1 (fun gg s5 s6 wr => s5 = .int .i64 0 ∧ s6 = .int .i64 0 ∧ Aside (Below w.heap.size w wr))
  case atStart => exact ⟨rfl, rfl, b0⟩
  case round =>
    obtain ⟨rfl, rfl, BW⟩ := hrel
    go_wp2
    go_ret
    exact ⟨rfl, BW.out⟩

/-! Both, for any list. -/
theorem first_of (q : Nat → Bool) : ∀ n, (∃ k, k < n ∧ q k = true ∧ ∀ j, j < k → q j = false) ∨ (∀ j, j < n → q j = false)
  | 0 => Or.inr fun j hj => absurd hj (Nat.not_lt_zero _)
  | n + 1 => by
    rcases first_of q n with ⟨k, h1, h2, h3⟩ | h
    · exact Or.inl ⟨k, by omega, h2, h3⟩
    · cases hq : q n with
      | true => exact Or.inl ⟨n, by omega, hq, h⟩
      | false =>
        refine Or.inr fun j hj => ?_
        by_cases c : j = n
        · rw [c]; exact hq
        · exact h j (by omega)
theorem AtR.det (P : Nat → Pc) (n : Nat) (d : Int) : ∃ x : Int, ∃ y : Bool, ∀ {V V' : World} {e : Ending}, AtR P n d V e V' → e = .returned (.tuple #[.int .i64 x, .bool y]) ∧ Below V.heap.size V V' := by
  rcases first_of (fun k => hasB (P k) d) n with ⟨k, h1, h2, h3⟩ | h
  · exact ⟨(P k).v, true, fun {V V' e} r => ⟨AtR.same r (w2 := V) (w2' := V') ⟨Or.inl ⟨k, h1, h2, h3, rfl⟩, r.2⟩, r.2⟩⟩
  · exact ⟨0, false, fun {V V' e} r => ⟨AtR.same r (w2 := V) (w2' := V') ⟨Or.inr ⟨h, rfl⟩, r.2⟩, r.2⟩⟩
theorem SkR.det (q : Nat → Bool) (g : Nat → Int) (n : Nat) : ∃ x : Int, ∃ y : Bool, ∀ {V V' : World} {e : Ending}, SkR q g n V e V' → e = .returned (.tuple #[.int .i64 x, .bool y]) ∧ Below V.heap.size V V' := by
  rcases first_of q n with ⟨k, h1, h2, h3⟩ | h
  · exact ⟨g k, true, fun {V V' e} r => ⟨SkR.same r (w2 := V) (w2' := V') ⟨Or.inl ⟨k, h1, h2, h3, rfl⟩, r.2⟩, r.2⟩⟩
  · exact ⟨0, false, fun {V V' e} r => ⟨SkR.same r (w2 := V) (w2' := V') ⟨Or.inr ⟨h, rfl⟩, r.2⟩, r.2⟩⟩
theorem At_is (p : Option Addr) (n c : Nat) (P : Nat → Pc) (d : Int) (w : World) (h : IsP w p n c P) : Calls Try.prog 12 #[.slice p n c, .int .i64 d] w (AtR P n d w) := by
  by_cases h0 : n = 0
  · subst h0; exact At_zero p c P d w
  · obtain ⟨b, off, rfl, hP⟩ := h.row (by omega)
    exact At_any b off n c P d w h.le hP
theorem rAt_is (p : Option Addr) (n c : Nat) (P : Nat → Pc) (d : Int) (w : World) (h : IsP w p n c P) : Calls Try.prog 13 #[.slice p n c, .int .i64 d] w (AtR P n d w) := by
  by_cases h0 : n = 0
  · subst h0; exact rAt_zero p c P d w
  · obtain ⟨b, off, rfl, hP⟩ := h.row (by omega)
    exact rAt_any b off n c P d w h.le hP
theorem ats (p : Option Addr) (n c : Nat) (P : Nat → Pc) (d : Int) (w : World) (h : IsP w p n c P) :
    ∃ x : Int, ∃ y : Bool, (∀ V, Below w.heap.size w V → Calls Try.prog 12 #[.slice p n c, .int .i64 d] V fun e V' => e = .returned (.tuple #[.int .i64 x, .bool y]) ∧ Below V.heap.size V V') ∧
      (∀ V, Below w.heap.size w V → Calls Try.prog 13 #[.slice p n c, .int .i64 d] V fun e V' => e = .returned (.tuple #[.int .i64 x, .bool y]) ∧ Below V.heap.size V V') := by
  obtain ⟨x, y, H⟩ := AtR.det P n d
  exact ⟨x, y, fun V hV => (At_is p n c P d V (h.below hV)).mono fun _ _ r => H r, fun V hV => (rAt_is p n c P d V (h.below hV)).mono fun _ _ r => H r⟩
theorem firsts (p : Option Addr) (n c : Nat) (P : Nat → Pc) (d v : Int) (w : World) (h : IsP w p n c P) :
    ∃ x : Int, ∃ y : Bool, (∀ V, Below w.heap.size w V → Calls Try.prog 14 #[.slice p n c, .int .i64 d, .int .i64 v] V fun e V' => e = .returned (.tuple #[.int .i64 x, .bool y]) ∧ Below V.heap.size V V') ∧
      (∀ V, Below w.heap.size w V → Calls Try.prog 15 #[.slice p n c, .int .i64 d, .int .i64 v] V fun e V' => e = .returned (.tuple #[.int .i64 x, .bool y]) ∧ Below V.heap.size V V') := by
  by_cases hz : ckV P n = 0
  · obtain ⟨x, y, H⟩ := SkR.det (meant P d v) (late P d) n
    refine ⟨x, y, fun V hV => ?_, fun V hV => ?_⟩
    all_goals
      have hp := h.below hV
      by_cases h0 : n = 0
      · subst h0; first | exact (First_zero p c _ _ d v V).mono fun _ _ r => H r | exact (rFirst_zero p c _ _ d v V).mono fun _ _ r => H r
      · obtain ⟨b, off, rfl, hP⟩ := hp.row (by omega)
        have hn : n ≤ 1024 := by
          by_cases q : 1024 < n
          · unfold ckV at hz; rw [if_pos q] at hz; cases hz
          · omega
        have hg : ckE P n = 0 := by unfold ckV at hz; rwa [if_neg (by omega)] at hz
        first | exact (First_good b off n c P d v V hn hP hg).mono fun _ _ r => H r | exact (rFirst_good b off n c P d v V hn hP hg).mono fun _ _ r => H r
  · exact ⟨0, false, fun V hV => First_bad p n c d v _ V hz (Check_any p n c P V (h.below hV)), fun V hV => rFirst_bad p n c d v _ V hz (rCheck_any p n c P V (h.below hV))⟩
theorem dayss (p : Option Addr) (n c : Nat) (P : Nat → Pc) (v : Int) (w : World) (h : IsP w p n c P) :
    ∃ x : Int, (∀ V, Below w.heap.size w V → Calls Try.prog 18 #[.slice p n c, .int .i64 v] V (RetV x V)) ∧
      (∀ V, Below w.heap.size w V → Calls Try.prog 19 #[.slice p n c, .int .i64 v] V (RetV x V)) := by
  by_cases hz : ckV P n = 0
  · by_cases h0 : n = 0
    · subst h0; exact ⟨0, fun V _ => Days_zero p c v V, fun V _ => rDays_zero p c v V⟩
    · obtain ⟨b, off, rfl, _⟩ := h.row (by omega)
      have hn : n ≤ 1024 := by
        by_cases q : 1024 < n
        · unfold ckV at hz; rw [if_pos q] at hz; cases hz
        · omega
      have hg : ckE P n = 0 := by unfold ckV at hz; rwa [if_neg (by omega)] at hz
      have hP : ∀ V, Below w.heap.size w V → Pcs V b off n P := fun V hV => by
        obtain ⟨b', off', e, hP⟩ := (h.below hV).row (by omega)
        injection e with e; injection e with e1 e2 _
        subst e1 e2; exact hP
      exact ⟨dsum P v n, fun V hV => Days_good b off n c P v V hn (hP V hV) hg, fun V hV => rDays_good b off n c P v V hn (hP V hV) hg⟩
  · exact ⟨0, fun V hV => Days_bad p n c v _ V hz (Check_any p n c P V (h.below hV)), fun V hV => rDays_bad p n c v _ V hz (rCheck_any p n c P V (h.below hV))⟩
end Go.Proofs.Ytekigilhmdphnaa
