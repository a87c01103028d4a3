/- First and Days, and the reference's. -/
import Derived.Test.YtekigilhmdphnaaTD
namespace Go.Proofs.Ytekigilhmdphnaa
open Go.RowKit Go.Shelf

/-- What is found first: the first piece that is meant gives its number. -/
def SkR (q : Nat → Bool) (g : Nat → Int) (n : Nat) (w : World) (e : Ending) (w' : World) : Prop :=
  ((∃ k, k < n ∧ q k = true ∧ (∀ j, j < k → q j = false) ∧ e = .returned (.tuple #[.int .i64 (g k), .bool true])) ∨
    ((∀ j, j < n → q j = false) ∧ e = .returned (.tuple #[.int .i64 0, .bool false]))) ∧ Below w.heap.size w w'
theorem SkR.same {q : Nat → Bool} {g : Nat → Int} {n : Nat} {w1 w2 w1' w2' : World} {e1 e2 : Ending} (h : SkR q g n w1 e1 w1') (k : SkR q g n w2 e2 w2') : e1 = e2 := by
  rcases h.1 with ⟨i, hi, h1, h2, rfl⟩ | ⟨h1, rfl⟩
  · rcases k.1 with ⟨j, hj, g1, g2, rfl⟩ | ⟨g1, rfl⟩
    · have e : i = j := by
        rcases Nat.lt_trichotomy i j with c | c | c
        · rw [g2 i c] at h1; cases h1
        · exact c
        · rw [h2 j c] at g1; cases g1
      rw [e]
    · rw [g1 i hi] at h1; cases h1
  · rcases k.1 with ⟨j, hj, g1, g2, rfl⟩ | ⟨g1, rfl⟩
    · rw [h1 j hj] at g1; cases g1
    · rfl
def meant (P : Nat → Pc) (d v : Int) (k : Nat) : Bool := decide ((P k).v = v ∧ d < (P k).u)
def late (P : Nat → Pc) (d : Int) (k : Nat) : Int := if d < (P k).f then (P k).f else d

set_option maxRecDepth 10000 in
set_option maxHeartbeats 2000000 in
theorem First_good (b off n c : Nat) (P : Nat → Pc) (d v : Int) (w : World) (hn : n ≤ 1024) (hP : Pcs w b off n P) (hg : ckE P n = 0) :
    Calls Try.prog 14 #[.slice (some ⟨b, off, none⟩) n c, .int .i64 d, .int .i64 v] w (SkR (meant P d v) (late P d) n w) := by
  have HC := Lib.hid (Check_some b off n c P w hn hP)
  rw [hg] at HC
  have HP := Lib.hid hP
  clear hP hg
  go_enter Try.func14, Try.ntmps14
  go_wp2_with fail
  refine HC.out.mono ?_; rintro e w0 ⟨rfl, b0⟩
  have B0 := Lib.hid b0
  clear b0 HC
  go_wp2_with fail
  go_loopg [9, 15] n (fun gg _ s15 wr => ∃ kk : Nat, kk ≤ n ∧ n - kk ≤ gg ∧ s15 = .int .i64 kk ∧ Aside (Below w.heap.size w wr) ∧ Aside (∀ j, j < kk → meant P d v j = false))
  case atStart => exact ⟨0, Nat.zero_le _, by omega, rfl, B0.out, fun j hj => absurd hj (Nat.not_lt_zero _)⟩
  case round =>
    obtain ⟨kk, hkk, hg, rfl, BW, A⟩ := hrel
    by_cases hlt : kk < n
    · have hltz : (kk : Int) < (n : Int) := by omega
      obtain ⟨l0, l1, l2⟩ := (HP.out.below BW.out).2 kk hlt
      have AB := (Below.refl wr.heap.size wr).alloc (Nat.le_refl _) (.cells #[.int .i64 (P kk).f, .int .i64 (P kk).u, .int .i64 (P kk).v] 47)
      have BX := Lib.hid (Box3.new wr (P kk) 47)
      have BW2 := Lib.hid (BW.out.trans (AB.mono BW.out.size))
      have MM : meant P d v kk = decide ((P kk).v = v ∧ d < (P kk).u) := rfl
      have LL : late P d kk = if d < (P kk).f then (P kk).f else d := rfl
      clear AB BW
      generalize hy : P kk = y at *
      obtain ⟨_, x0, x1, x2⟩ := BX.out
      clear hy
      by_cases c1 : y.v = v
      · by_cases c2 : d < y.u
        · have MM := Lib.hid (MM.trans (decide_eq_true ⟨c1, c2⟩))
          have g1 : (y.v == v) = true := by simpa using c1
          have LL := Lib.hid LL
          clear c1
          by_cases c3 : d < y.f
          · go_wp2
            go_ret2
            refine ⟨Or.inl ⟨kk, hlt, MM.out, A.out, ?_⟩, BW2.out⟩
            rw [LL.out, if_pos c3]; first | rfl | (congr 3; omega) | (simp; omega)
          · go_wp2
            go_ret2
            refine ⟨Or.inl ⟨kk, hlt, MM.out, A.out, ?_⟩, BW2.out⟩
            rw [LL.out, if_neg (by omega)]; first | rfl | (congr 3; omega) | (simp; omega)
        · have MM := Lib.hid (MM.trans (decide_eq_false (fun h => c2 h.2)))
          have g1 : (y.v == v) = true := by simpa using c1
          clear c1
          go_wp2_with fail
          go_roundg (n - (kk + 1))
          case measure => omega
          case rel =>
            refine ⟨kk + 1, by omega, by omega, by go_num, (show Aside _ from BW2.out), (show Aside _ from fun j hj => ?_)⟩
            by_cases e : j = kk
            · rw [e]; exact MM.out
            · exact A.out j (by omega)
      · have MM := Lib.hid (MM.trans (decide_eq_false (fun h => c1 h.1)))
        have g1 : (y.v == v) = false := by simpa using c1
        clear c1
        go_wp2_with fail
        go_roundg (n - (kk + 1))
        case measure => omega
        case rel =>
          refine ⟨kk + 1, by omega, by omega, by go_num, (show Aside _ from BW2.out), (show Aside _ from fun j hj => ?_)⟩
          by_cases e : j = kk
          · rw [e]; exact MM.out
          · exact A.out j (by omega)
    · have hltz : ¬ (kk : Int) < (n : Int) := by omega
      have : kk = n := by omega
      subst this
      go_wp2
      go_ret2
      exact ⟨Or.inr ⟨A.out, rfl⟩, BW.out⟩

set_option maxRecDepth 10000 in
set_option maxHeartbeats 2000000 in
theorem rFirst_good (b off n c : Nat) (P : Nat → Pc) (d v : Int) (w : World) (hn : n ≤ 1024) (hP : Pcs w b off n P) (hg : ckE P n = 0) :
    Calls Try.prog 15 #[.slice (some ⟨b, off, none⟩) n c, .int .i64 d, .int .i64 v] w (SkR (meant P d v) (late P d) n w) := by
  have HC := Lib.hid (rCheck_some b off n c P w hn hP)
  rw [hg] at HC
  have HP := Lib.hid hP
  clear hP hg
  go_enter Try.func15, Try.ntmps15
  go_wp2_with fail
  refine HC.out.mono ?_; rintro e w0 ⟨rfl, b0⟩
  have B0 := Lib.hid b0
  clear b0 HC
  go_wp2_with fail
  go_loopg [8] n (fun gg s8 wr => ∃ kk : Nat, kk ≤ n ∧ n - kk ≤ gg ∧ s8 = .int .i64 kk ∧ Aside (Below w.heap.size w wr) ∧ Aside (∀ j, j < kk → meant P d v j = false))
  case atStart => exact ⟨0, Nat.zero_le _, by omega, rfl, B0.out, fun j hj => absurd hj (Nat.not_lt_zero _)⟩
  case round =>
    obtain ⟨kk, hkk, hg, rfl, BW, A⟩ := hrel
    by_cases hlt : kk < n
    · have hltz : (kk : Int) < (n : Int) := by omega
      have hz0 : (0 : Int) ≤ (kk : Int) := by omega
      obtain ⟨l0, l1, l2⟩ := (HP.out.below BW.out).2 kk hlt
      have MM : meant P d v kk = decide ((P kk).v = v ∧ d < (P kk).u) := rfl
      have LL : late P d kk = if d < (P kk).f then (P kk).f else d := rfl
      generalize hy : P kk = y at *
      clear hy
      by_cases c1 : y.v = v
      · by_cases c2 : d < y.u
        · have MM := Lib.hid (MM.trans (decide_eq_true ⟨c1, c2⟩))
          have g1 : (y.v == v) = true := by simpa using c1
          have LL := Lib.hid LL
          clear c1
          by_cases c3 : d < y.f
          · go_wp2
            go_ret2
            refine ⟨Or.inl ⟨kk, hlt, MM.out, A.out, ?_⟩, BW.out⟩
            rw [LL.out, if_pos c3]; first | rfl | (congr 3; omega) | (simp; omega)
          · go_wp2
            all_goals
              go_ret2
              refine ⟨Or.inl ⟨kk, hlt, MM.out, A.out, ?_⟩, BW.out⟩
              rw [LL.out, if_neg (by omega)]; first | rfl | (congr 3; omega) | (simp; omega)
        · have MM := Lib.hid (MM.trans (decide_eq_false (fun h => c2 h.2)))
          have g1 : (y.v == v) = true := by simpa using c1
          clear c1
          go_wp2_with fail
          go_roundg (n - (kk + 1))
          case measure => omega
          case rel =>
            refine ⟨kk + 1, by omega, by omega, by go_num, (show Aside _ from BW.out), (show Aside _ from fun j hj => ?_)⟩
            by_cases e : j = kk
            · rw [e]; exact MM.out
            · exact A.out j (by omega)
      · have MM := Lib.hid (MM.trans (decide_eq_false (fun h => c1 h.1)))
        have g1 : (y.v == v) = false := by simpa using c1
        clear c1
        go_wp2_with fail
        go_roundg (n - (kk + 1))
        case measure => omega
        case rel =>
          refine ⟨kk + 1, by omega, by omega, by go_num, (show Aside _ from BW.out), (show Aside _ from fun j hj => ?_)⟩
          by_cases e : j = kk
          · rw [e]; exact MM.out
          · exact A.out j (by omega)
    · have hltz : ¬ (kk : Int) < (n : Int) := by omega
      have : kk = n := by omega
      subst this
      go_wp2
      go_ret2
      exact ⟨Or.inr ⟨A.out, rfl⟩, BW.out⟩
end Go.Proofs.Ytekigilhmdphnaa
