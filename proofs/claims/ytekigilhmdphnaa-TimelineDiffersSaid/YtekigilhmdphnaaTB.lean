/- The reference's value on a day; the days of a value. -/
import Derived.Test.YtekigilhmdphnaaTA
namespace Go.Proofs.Ytekigilhmdphnaa
open Go.RowKit Go.Shelf

set_option maxHeartbeats 2000000 in
theorem rAt_any (b off n c : Nat) (P : Nat → Pc) (d : Int) (w : World) (hn : n ≤ 9223372036854775807) (hP : Pcs w b off n P) :
    Calls Try.prog 13 #[.slice (some ⟨b, off, none⟩) n c, .int .i64 d] w (AtR P n d w) := by
  have HP := Lib.hid hP
  clear hP
  go_enter Try.func13, Try.ntmps13
  go_wp2
  go_loopg [6] n (fun gg s6 wr => ∃ kk : Nat, kk ≤ n ∧ n - kk ≤ gg ∧ s6 = .int .i64 kk ∧ Aside (Below w.heap.size w wr) ∧ Aside (∀ j, j < kk → hasB (P j) d = false))
  case atStart => exact ⟨0, Nat.zero_le _, by omega, rfl, Below.refl _ w, fun j hj => absurd hj (Nat.not_lt_zero _)⟩
  case round =>
    obtain ⟨kk, hkk, hg, rfl, BW, A⟩ := hrel
    by_cases hlt : kk < n
    · have hltz : (kk : Int) < (n : Int) := by omega
      have hz0 : (0 : Int) ≤ (kk : Int) := by omega
      obtain ⟨l0, l1, l2⟩ := (HP.out.below BW.out).2 kk hlt
      have hcall := In_any (P kk).f (P kk).u d
      have hh : hasB ⟨(P kk).f, (P kk).u, 0⟩ d = hasB (P kk) d := rfl
      rw [hh] at hcall
      clear hh
      generalize hy : P kk = y at l0 l1 l2 hcall
      have Y := Lib.hid hy
      clear hy
      have HC := Lib.hid hcall
      clear hcall
      cases hq : hasB y d with
      | true =>
        rw [hq] at HC
        go_wp2_with fail
        refine (HC.out _).mono ?_; rintro e w' ⟨rfl, hb'⟩
        obtain ⟨k0, k1, k2⟩ := (HP.out.below (BW.out.trans (hb'.mono BW.out.size))).2 kk hlt
        rw [Y.out] at k2
        clear l0 l1 l2
        go_wp2
        go_ret2
        exact ⟨Or.inl ⟨kk, hlt, by rw [Y.out]; exact hq, A.out, by rw [Y.out]; rfl⟩, BW.out.trans (hb'.mono BW.out.size)⟩
      | false =>
        rw [hq] at HC
        go_wp2_with fail
        refine (HC.out _).mono ?_; rintro e w' ⟨rfl, hb'⟩
        go_wp2_with fail
        go_roundg (n - (kk + 1))
        case measure => omega
        case rel =>
          refine ⟨kk + 1, by omega, by omega, by go_num, (show Aside _ from BW.out.trans (hb'.mono BW.out.size)), (show Aside _ from fun j hj => ?_)⟩
          by_cases e : j = kk
          · rw [e, Y.out]; exact hq
          · exact A.out j (by omega)
    · have hltz : ¬ (kk : Int) < (n : Int) := by omega
      have : kk = n := by omega
      subst this
      go_wp2
      go_ret2
      exact ⟨Or.inr ⟨A.out, rfl⟩, BW.out⟩

/-- At and the reference's agree: one answer satisfies what is said of both. -/
theorem AtR.same {P : Nat → Pc} {n : Nat} {d : Int} {w1 w2 w1' w2' : World} {e1 e2 : Ending} (h : AtR P n d w1 e1 w1') (g : AtR P n d w2 e2 w2') : e1 = e2 := by
  rcases h.1 with ⟨k, hk, h1, h2, rfl⟩ | ⟨h1, rfl⟩
  · rcases g.1 with ⟨j, hj, g1, g2, rfl⟩ | ⟨g1, rfl⟩
    · have e : k = j := by
        rcases Nat.lt_trichotomy k j with c | c | c
        · rw [g2 k c] at h1; cases h1
        · exact c
        · rw [h2 j c] at g1; cases g1
      rw [e]
    · rw [g1 k hk] at h1; cases h1
  · rcases g.1 with ⟨j, hj, g1, g2, rfl⟩ | ⟨g1, rfl⟩
    · rw [h1 j hj] at g1; cases g1
    · rfl
end Go.Proofs.Ytekigilhmdphnaa
