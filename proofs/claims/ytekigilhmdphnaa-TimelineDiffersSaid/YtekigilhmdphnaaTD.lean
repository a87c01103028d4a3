/- The reference's Check. -/
import Derived.Test.YtekigilhmdphnaaTC
namespace Go.Proofs.Ytekigilhmdphnaa
open Go.RowKit Go.Shelf

set_option maxRecDepth 10000 in
set_option maxHeartbeats 4000000 in
theorem rCheck_some (b off n c : Nat) (P : Nat → Pc) (w : World) (hn : n ≤ 1024) (hP : Pcs w b off n P) :
    Calls Try.prog 17 #[.slice (some ⟨b, off, none⟩) n c] w (RetV (ckE P n) w) := by
  have HP := Lib.hid hP
  clear hP
  have e1 : ¬ (1024 : Int) < (n : Int) := by omega
  go_enter Try.func17, Try.ntmps17
  go_wp2
  go_loopg [3] n (fun gg s3 wr => ∃ kk : Nat, kk ≤ n ∧ n - kk ≤ gg ∧ s3 = .int .i64 kk ∧ Aside (Below w.heap.size w wr) ∧ Aside (ckE P kk = 0))
  case atStart => exact ⟨0, Nat.zero_le _, by omega, rfl, Below.refl _ w, rfl⟩
  case round =>
    obtain ⟨kk, hkk, hg, rfl, BW, A⟩ := hrel
    by_cases hlt : kk < n
    · have hltz : (kk : Int) < (n : Int) := by omega
      have hz0 : (0 : Int) ≤ (kk : Int) := by omega
      have KA := Lib.hid (fun h => ckE_at P A.out h hlt)
      have KN := Lib.hid (ckE_next P A.out)
      obtain ⟨l0, l1, l2⟩ := (HP.out.below BW.out).2 kk hlt
      have hcall := Lib.hid (Good_any (P kk).f (P kk).u)
      cases hq : spanB (P kk).f (P kk).u with
      | false =>
        have CA : ckAt P kk = 2 := by unfold ckAt; rw [if_neg (by rw [hq]; decide)]
        have CA := Lib.hid CA
        rw [hq] at hcall
        clear hq
        go_wp2_with fail
        refine (hcall.out _).mono ?_; rintro e w' ⟨rfl, hb'⟩
        go_wp2
        go_ret
        exact ⟨by rw [KA.out (by rw [CA.out]; decide), CA.out]; rfl, BW.out.trans (hb'.mono BW.out.size)⟩
      | true =>
        rw [hq] at hcall
        go_wp2_with fail
        refine (hcall.out _).mono ?_; rintro e w' ⟨rfl, hb'⟩
        have BW3 := Lib.hid (BW.out.trans (hb'.mono BW.out.size))
        clear hcall l0 l1 l2 hb'
        obtain ⟨x0, x1, x2⟩ := (HP.out.below BW3.out).2 kk hlt
        generalize hy : P kk = y at *
        by_cases hk0 : kk = 0
        · have CA : ckAt P kk = 0 := by unfold ckAt; rw [hy, if_pos hq, if_neg (by omega)]
          have CA := Lib.hid (KN.out CA)
          have g0 : decide ((0 : Int) < (kk : Int)) = false := by simp; omega
          clear hq hy KA KN
          go_wp2_with fail
          go_quiet (fail)
          go_wp2_with fail
          go_roundg (n - (kk + 1))
          case measure => omega
          case rel => exact ⟨kk + 1, by omega, by omega, by go_num, (show Aside _ from BdN BW3.out _), (show Aside _ from CA.out)⟩
        · obtain ⟨m, rfl⟩ : ∃ m, kk = m + 1 := ⟨kk - 1, by omega⟩
          have CA : ckAt P (m + 1) = if y.f < (P m).u ∨ linkB (P m) y = true then 5 else 0 := by
            unfold ckAt; rw [hy, if_pos hq]
            by_cases q : y.f < (P m).u ∨ linkB (P m) y = true
            · rw [if_pos q, if_pos ⟨by omega, by simpa using q⟩]
            · rw [if_neg q, if_neg (fun h => q (by simpa using h.2))]
          obtain ⟨m0, m1, m2⟩ := (HP.out.below BW3.out).2 m (by omega)
          generalize P m = z at *
          clear hq hy hk0
          have g0 : decide ((0 : Int) < ((m + 1 : Nat) : Int)) = true := by simp
          have s1 : IntKind.i64.wrap (((m + 1 : Nat) : Int) - 1) = (m : Int) := by rw [show ((m + 1 : Nat) : Int) - 1 = (m : Int) from by omega]; exact IntWalk.i64_in _ ⟨by omega, by omega⟩
          have s5 : IntKind.i64.wrap ((m : Int) + 1 - 1) = (m : Int) := by rw [show (m : Int) + 1 - 1 = (m : Int) from by omega]; exact IntWalk.i64_in _ ⟨by omega, by omega⟩
          have s6 : IntKind.i64.wrap (m : Int) = (m : Int) := IntWalk.i64_in _ ⟨by omega, by omega⟩
          have s2 : (0 : Int) ≤ (m : Int) := by omega
          have s3 : (m : Int) < (n : Int) := by omega
          have s4 : ((m : Int)).toNat = m := by omega
          by_cases c1 : y.f < z.u
          · rw [if_pos (Or.inl c1)] at CA
            have CA := Lib.hid CA
            go_wp2_with fail
            go_quiet (fail)
            go_wp2_with fail
            go_ret
            exact ⟨by rw [KA.out (by rw [CA.out]; decide), CA.out]; rfl, BdN BW3.out _⟩
          · have g1 : decide (y.f < z.u) = false := by simpa using c1
            by_cases c2 : y.f = z.u
            · by_cases c3 : y.v = z.v
              · rw [if_pos (Or.inr (show linkB z y = true from decide_eq_true ⟨c2.symm, c3.symm⟩))] at CA
                have CA := Lib.hid CA
                have g2 : (y.f == z.u) = true := by simpa using c2
                have g3 : (y.v == z.v) = true := by simpa using c3
                clear c1 c2 c3
                go_wp2_with fail
                go_quiet (fail)
                go_wp2_with fail
                go_ret
                exact ⟨by rw [KA.out (by rw [CA.out]; decide), CA.out]; rfl, BdN BW3.out _⟩
              · rw [if_neg (by rintro (h | h); exact c1 h; exact c3 (of_decide_eq_true h).2.symm)] at CA
                have CA := Lib.hid (KN.out CA)
                have g2 : (y.f == z.u) = true := by simpa using c2
                have g3 : (y.v == z.v) = false := by simpa using c3
                clear c1 c2 c3 KA KN
                go_wp2_with fail
                go_quiet (fail)
                clear s1 s5 s6
                go_wp2_with fail
                go_roundg (n - (m + 1 + 1))
                case measure => omega
                case rel => exact ⟨m + 1 + 1, by omega, by omega, by go_num, (show Aside _ from BdN BW3.out _), (show Aside _ from CA.out)⟩
            · rw [if_neg (by rintro (h | h); exact c1 h; exact c2 (of_decide_eq_true h).1.symm)] at CA
              have CA := Lib.hid (KN.out CA)
              have g2 : (y.f == z.u) = false := by simpa using c2
              clear c1 c2 KA KN
              go_wp2_with fail
              go_quiet (fail)
              clear s1 s5 s6
              go_wp2_with fail
              go_roundg (n - (m + 1 + 1))
              case measure => omega
              case rel => exact ⟨m + 1 + 1, by omega, by omega, by go_num, (show Aside _ from BdN BW3.out _), (show Aside _ from CA.out)⟩
    · have : kk = n := by omega
      subst this
      have hltz : ¬ (kk : Int) < (kk : Int) := by omega
      go_wp2
      go_ret
      exact ⟨by rw [A.out]; rfl, BW.out⟩

set_option maxHeartbeats 1000000 in
theorem rCheck_large (p : Option Addr) (n c : Nat) (w : World) (hn : 1024 < n) (hm : n ≤ 9223372036854775807) :
    Calls Try.prog 17 #[.slice p n c] w (RetV 8 w) := by
  have e1 : (1024 : Int) < (n : Int) := by omega
  go_enter Try.func17, Try.ntmps17
  go_wp2
  go_ret
  exact ⟨rfl, Below.refl _ w⟩
set_option maxHeartbeats 1000000 in
theorem rCheck_none (p : Option Addr) (c : Nat) (w : World) :
    Calls Try.prog 17 #[.slice p 0 c] w (RetV 0 w) := by
  go_enter Try.func17, Try.ntmps17
  go_wp2
  go_loopg [3] 1 (fun gg s3 wr => s3 = .int .i64 0 ∧ Aside (Below w.heap.size w wr))
  case atStart => exact ⟨rfl, Below.refl _ w⟩
  case round =>
    obtain ⟨rfl, BW⟩ := hrel
    go_wp2
    go_ret
    exact ⟨rfl, BW.out⟩

/-- A list of pieces as an argument: none, or a row in memory. -/
def IsP (w : World) (p : Option Addr) (n c : Nat) (P : Nat → Pc) : Prop :=
  (p = none ∧ n = 0 ∧ c = 0) ∨ ∃ a : Addr, p = some a ∧ n ≤ 9223372036854775807 ∧ (0 < n → a.spot = none ∧ Pcs w a.block a.off n P)
theorem IsP.below {w w' : World} {p : Option Addr} {n c : Nat} {P : Nat → Pc} (h : IsP w p n c P) (hb : Below w.heap.size w w') : IsP w' p n c P := by
  rcases h with h | ⟨a, h1, h2, h3⟩
  · exact Or.inl h
  · exact Or.inr ⟨a, h1, h2, fun h0 => ⟨(h3 h0).1, (h3 h0).2.below hb⟩⟩
theorem IsP.le {w : World} {p : Option Addr} {n c : Nat} {P : Nat → Pc} (h : IsP w p n c P) : n ≤ 9223372036854775807 := by
  rcases h with ⟨_, h, _⟩ | ⟨a, _, h, _⟩
  · omega
  · exact h
theorem IsP.row {w : World} {p : Option Addr} {n c : Nat} {P : Nat → Pc} (h : IsP w p n c P) (h0 : 0 < n) : ∃ b off, p = some ⟨b, off, none⟩ ∧ Pcs w b off n P := by
  rcases h with ⟨_, h, _⟩ | ⟨⟨b, off, sp⟩, h1, _, h⟩
  · omega
  · obtain ⟨h2, h3⟩ := h h0
    simp only at h2
    subst h2
    exact ⟨b, off, h1, h3⟩
theorem Check_any (p : Option Addr) (n c : Nat) (P : Nat → Pc) (w : World) (h : IsP w p n c P) : Calls Try.prog 16 #[.slice p n c] w (RetV (ckV P n) w) := by
  unfold ckV
  have hm := h.le
  by_cases h1 : 1024 < n
  · rw [if_pos h1]; exact Check_large p n c w h1 hm
  · rw [if_neg h1]
    by_cases h0 : n = 0
    · subst h0; exact Check_none p c w
    · obtain ⟨b, off, rfl, hP⟩ := h.row (by omega)
      exact Check_some b off n c P w (by omega) hP
theorem rCheck_any (p : Option Addr) (n c : Nat) (P : Nat → Pc) (w : World) (h : IsP w p n c P) : Calls Try.prog 17 #[.slice p n c] w (RetV (ckV P n) w) := by
  unfold ckV
  have hm := h.le
  by_cases h1 : 1024 < n
  · rw [if_pos h1]; exact rCheck_large p n c w h1 hm
  · rw [if_neg h1]
    by_cases h0 : n = 0
    · subst h0; exact rCheck_none p c w
    · obtain ⟨b, off, rfl, hP⟩ := h.row (by omega)
      exact rCheck_some b off n c P w (by omega) hP
end Go.Proofs.Ytekigilhmdphnaa
