/- How many pieces end ahead of a day. -/
import Derived.Test.YtekigilhmdphnaaTF
import Derived.Laws.Entries
namespace Go.Proofs.Ytekigilhmdphnaa
open Go.RowKit Go.Shelf

set_option maxHeartbeats 1000000 in
theorem endedFn_any (A D b off n c : Nat) (P : Nat → Pc) (d : Int) (k : Nat) (w : World) (hk : k < n) (hA : w.cell? ⟨A, 0, none⟩ = some (.slice (some ⟨b, off, none⟩) n c)) (hD : w.cell? ⟨D, 0, none⟩ = some (.int .i64 d)) (hP : Pcs w b off n P) :
    Calls Try.prog 54 #[.int .i64 k, .pointer (some ⟨A, 0, none⟩), .pointer (some ⟨D, 0, none⟩)] w fun e w' => e = .returned (.bool (decide (d < (P k).u))) ∧ Below w.heap.size w w' := by
  obtain ⟨l0, l1, l2⟩ := hP.2 k hk
  have s2 : (0 : Int) ≤ (k : Int) := by omega
  have s3 : (k : Int) < (n : Int) := by omega
  generalize P k = y at *
  clear hP
  go_enter Try.func54, Try.ntmps54
  go_wp2_with fail
  go_quiet (fail)
  go_wp2_with fail
  go_ret
  exact ⟨rfl, BdN (Below.refl _ w) _⟩

/-- Where a test turns. -/
def TurnR (q : Nat → Bool) (n : Nat) (w : World) (e : Ending) (w' : World) : Prop :=
  ∃ r : Nat, r ≤ n ∧ (0 < r → q (r - 1) = false) ∧ (r < n → q r = true) ∧ e = .returned (.int .i64 r) ∧ Below w.heap.size w w'

set_option maxHeartbeats 2000000 in
theorem Search_ended (n : Nat) (c1 c2 : Value) (q : Nat → Bool) (w : World) (hn : n ≤ 1099511627776)
    (hq : ∀ V, Below w.heap.size w V → ∀ k, k < n → Calls Try.prog 54 #[.int .i64 k, c1, c2] V fun e V' => e = .returned (.bool (q k)) ∧ Below V.heap.size V V') :
    Calls Try.prog 48 #[.int .i64 n, .func (.func 54) #[] #[c1, c2]] w (TurnR q n w) := by
  have eg : ∀ args w, (callFunc 54 args).run Try.prog w = .ok (.enter 54 args) w := enters_of Try.func54 (by kernel_rfl) rfl
  have HQ := Lib.hid hq
  clear hq
  go_enter Try.func48, Try.ntmps48
  go_wp2_with fail
  go_loopg [5, 6, 7] n (fun gg s5 s6 _ wr => ∃ i j : Nat, i ≤ j ∧ j ≤ n ∧ j - i ≤ gg ∧ s5 = .int .i64 i ∧ s6 = .int .i64 j ∧ Aside (Below w.heap.size w wr) ∧ Aside ((0 < i → q (i - 1) = false) ∧ (j < n → q j = true)))
  case atStart => exact ⟨0, n, by omega, by omega, by omega, rfl, rfl, Below.refl _ w, fun h => absurd h (by omega), fun h => absurd h (by omega)⟩
  case round =>
    obtain ⟨i, j, hij, hjn, hg, rfl, rfl, BW, A⟩ := hrel
    by_cases hlt : i < j
    · have c1 : (i : Int) < (j : Int) := by omega
      obtain ⟨h, hh⟩ : ∃ h, h = (i + j) / 2 := ⟨_, rfl⟩
      have h1 : IntKind.i64.wrap ((i : Int) + (j : Int)) = (i : Int) + (j : Int) := IntWalk.i64_in _ ⟨by omega, by omega⟩
      have h2 : IntKind.u64.wrap ((i : Int) + (j : Int)) = (i : Int) + (j : Int) := IntWalk.u64_in _ ⟨by omega, by omega⟩
      have h3 : ((i : Int) + (j : Int)) / 2 = (h : Int) := by omega
      have h4 : IntKind.i64.wrap (h : Int) = (h : Int) := IntWalk.i64_in _ ⟨by omega, by omega⟩
      have h5 : IntKind.u64.wrap (h : Int) = (h : Int) := IntWalk.u64_in _ ⟨by omega, by omega⟩
      have hi1 : i ≤ h := by omega
      have hj1 : h < j := by omega
      have HC := Lib.hid (HQ.out wr BW.out h (by omega))
      clear hh
      cases hqh : q h with
      | true =>
        rw [hqh] at HC
        go_wp2_with (go_at_fn 54; refine HC.out.mono ?_; rintro e w' ⟨rfl, hb'⟩)
        go_roundg (h - i)
        case measure => omega
        case rel => exact ⟨i, h, by omega, by omega, by omega, rfl, rfl, (show Aside _ from BW.out.trans (hb'.mono BW.out.size)), (show Aside _ from ⟨A.out.1, fun _ => hqh⟩)⟩
      | false =>
        rw [hqh] at HC
        go_wp2_with (go_at_fn 54; refine HC.out.mono ?_; rintro e w' ⟨rfl, hb'⟩)
        go_roundg (j - (h + 1))
        case measure => omega
        case rel => exact ⟨h + 1, j, by omega, by omega, by omega, by go_num, rfl, (show Aside _ from BW.out.trans (hb'.mono BW.out.size)), (show Aside _ from ⟨fun _ => hqh, A.out.2⟩)⟩
    · obtain rfl : i = j := by omega
      have c1 : ¬ (i : Int) < (i : Int) := by omega
      go_wp2_with fail
      go_ret
      exact ⟨i, hjn, A.out.1, A.out.2, rfl, BW.out⟩
set_option maxHeartbeats 2000000 in
theorem Search_behind (n : Nat) (c1 c2 c3 : Value) (q : Nat → Bool) (w : World) (hn : n ≤ 1099511627776)
    (hq : ∀ V, Below w.heap.size w V → ∀ k, k < n → Calls Try.prog 49 #[.int .i64 k, c1, c2, c3] V fun e V' => e = .returned (.bool (q k)) ∧ Below V.heap.size V V') :
    Calls Try.prog 48 #[.int .i64 n, .func (.func 49) #[] #[c1, c2, c3]] w (TurnR q n w) := by
  have eg : ∀ args w, (callFunc 49 args).run Try.prog w = .ok (.enter 49 args) w := enters_of Try.func49 (by kernel_rfl) rfl
  have HQ := Lib.hid hq
  clear hq
  go_enter Try.func48, Try.ntmps48
  go_wp2_with fail
  go_loopg [5, 6, 7] n (fun gg s5 s6 _ wr => ∃ i j : Nat, i ≤ j ∧ j ≤ n ∧ j - i ≤ gg ∧ s5 = .int .i64 i ∧ s6 = .int .i64 j ∧ Aside (Below w.heap.size w wr) ∧ Aside ((0 < i → q (i - 1) = false) ∧ (j < n → q j = true)))
  case atStart => exact ⟨0, n, by omega, by omega, by omega, rfl, rfl, Below.refl _ w, fun h => absurd h (by omega), fun h => absurd h (by omega)⟩
  case round =>
    obtain ⟨i, j, hij, hjn, hg, rfl, rfl, BW, A⟩ := hrel
    by_cases hlt : i < j
    · have c1 : (i : Int) < (j : Int) := by omega
      obtain ⟨h, hh⟩ : ∃ h, h = (i + j) / 2 := ⟨_, rfl⟩
      have h1 : IntKind.i64.wrap ((i : Int) + (j : Int)) = (i : Int) + (j : Int) := IntWalk.i64_in _ ⟨by omega, by omega⟩
      have h2 : IntKind.u64.wrap ((i : Int) + (j : Int)) = (i : Int) + (j : Int) := IntWalk.u64_in _ ⟨by omega, by omega⟩
      have h3 : ((i : Int) + (j : Int)) / 2 = (h : Int) := by omega
      have h4 : IntKind.i64.wrap (h : Int) = (h : Int) := IntWalk.i64_in _ ⟨by omega, by omega⟩
      have h5 : IntKind.u64.wrap (h : Int) = (h : Int) := IntWalk.u64_in _ ⟨by omega, by omega⟩
      have hi1 : i ≤ h := by omega
      have hj1 : h < j := by omega
      have HC := Lib.hid (HQ.out wr BW.out h (by omega))
      clear hh
      cases hqh : q h with
      | true =>
        rw [hqh] at HC
        go_wp2_with (go_at_fn 49; refine HC.out.mono ?_; rintro e w' ⟨rfl, hb'⟩)
        go_roundg (h - i)
        case measure => omega
        case rel => exact ⟨i, h, by omega, by omega, by omega, rfl, rfl, (show Aside _ from BW.out.trans (hb'.mono BW.out.size)), (show Aside _ from ⟨A.out.1, fun _ => hqh⟩)⟩
      | false =>
        rw [hqh] at HC
        go_wp2_with (go_at_fn 49; refine HC.out.mono ?_; rintro e w' ⟨rfl, hb'⟩)
        go_roundg (j - (h + 1))
        case measure => omega
        case rel => exact ⟨h + 1, j, by omega, by omega, by omega, by go_num, rfl, (show Aside _ from BW.out.trans (hb'.mono BW.out.size)), (show Aside _ from ⟨fun _ => hqh, A.out.2⟩)⟩
    · obtain rfl : i = j := by omega
      have c1 : ¬ (i : Int) < (i : Int) := by omega
      go_wp2_with fail
      go_ret
      exact ⟨i, hjn, A.out.1, A.out.2, rfl, BW.out⟩

set_option maxHeartbeats 1000000 in
theorem ended_any (p : Option Addr) (n c : Nat) (P : Nat → Pc) (d : Int) (w : World) (hn : n ≤ 1099511627776) (hP : IsP w p n c P) :
    Calls Try.prog 47 #[.slice p n c, .int .i64 d] w (TurnR (fun k => decide (d < (P k).u)) n w) := by
  have HC := Lib.hid (fun V (hV : Below ((w.alloc (.cells #[.slice p n c] 22)).alloc (.cells #[.int .i64 d] 3)).heap.size ((w.alloc (.cells #[.slice p n c] 22)).alloc (.cells #[.int .i64 d] 3)) V) => Search_ended n (.pointer (some ⟨w.heap.size, 0, none⟩)) (.pointer (some ⟨w.heap.size + 1, 0, none⟩)) (fun k => decide (d < (P k).u)) V hn (fun V' hV' k hk => by
    have hp := hP.below (((Below.refl w.heap.size w).alloc (Nat.le_refl _) (.cells #[.slice p n c] 22)).alloc (by simp) (.cells #[.int .i64 d] 3))
    have hp := (hp.below hV).below hV'
    obtain ⟨b, off, rfl, hr⟩ := hp.row (by omega)
    have z0 := hV.size
    have hA : V'.cell? ⟨w.heap.size, 0, none⟩ = some (.slice (some ⟨b, off, none⟩) n c) := by
      rw [hV'.cell (p := ⟨w.heap.size, 0, none⟩) (by simp at z0; show w.heap.size < V.heap.size; omega), hV.cell (p := ⟨w.heap.size, 0, none⟩) (by simp; omega)]
      simp
    have hD : V'.cell? ⟨w.heap.size + 1, 0, none⟩ = some (.int .i64 d) := by
      rw [hV'.cell (p := ⟨w.heap.size + 1, 0, none⟩) (by simp at z0; show w.heap.size + 1 < V.heap.size; omega), hV.cell (p := ⟨w.heap.size + 1, 0, none⟩) (by simp)]
      simp
    exact endedFn_any w.heap.size (w.heap.size + 1) b off n c P d k V' hk hA hD hr))
  have B0 := Lib.hid (((Below.refl w.heap.size w).alloc (Nat.le_refl _) (.cells #[.slice p n c] 22)).alloc (by simp) (.cells #[.int .i64 d] 3))
  have hl : n ≤ 9223372036854775807 := by omega
  clear hP hn
  go_enter Try.func47, Try.ntmps47
  go_wp2_with fail
  refine (HC.out _ (Below.refl _ _)).mono ?_
  rintro e w' ⟨r, h1, h2, h3, rfl, hb⟩
  have H1 := Lib.hid h1; have H2 := Lib.hid h2; have H3 := Lib.hid h3; have HB := Lib.hid hb
  clear h1 h2 h3 hb
  go_wp2_with fail
  go_ret
  exact ⟨r, H1.out, H2.out, H3.out, rfl, B0.out.trans (HB.out.mono B0.out.size)⟩
end Go.Proofs.Ytekigilhmdphnaa
