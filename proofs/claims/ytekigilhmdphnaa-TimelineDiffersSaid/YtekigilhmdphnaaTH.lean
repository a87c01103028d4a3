/- joined: pieces that touch become one. -/
import Derived.Test.YtekigilhmdphnaaTG
import Derived.Deep.MidRow
namespace Go.Proofs.Ytekigilhmdphnaa
open Go.RowKit Go.Shelf

def updP (M : Nat → Pc) (i : Nat) (p : Pc) : Nat → Pc := fun j => if j = i then p else M j
/-- A row of pieces that may be written. -/
structure Pw (w : World) (g n : Nat) (P : Nat → Pc) : Prop where
  row : Pcs w g 0 n P
  there : w.there g 0 (n * 3)
theorem Pw.below {w w' : World} {g n : Nat} {P : Nat → Pc} (h : Pw w g n P) (hb : Below w.heap.size w w') : Pw w' g n P :=
  ⟨h.row.below hb, fun j hj => by
    have := h.there j hj
    rw [hb.cell (p := ⟨g, 0 + j, none⟩) h.row.1, hb.frozen (p := ⟨g, 0 + j, none⟩) h.row.1]; exact this⟩
theorem there_set {w : World} {g n : Nat} (h : w.there g 0 n) (i : Nat) (v : Value) : (w.setCell ⟨g, i, none⟩ v).there g 0 n :=
  show (w.setCells g i [v]).there g 0 n from World.there_setCells h _ _ _
theorem Pw.setU {w : World} {g n : Nat} {M : Nat → Pc} (h : Pw w g n M) (i : Nat) (hi : i < n) (u : Int) :
    Pw (w.setCell ⟨g, i * 3 + 1, none⟩ (.int .i64 u)) g n (updP M i ⟨(M i).f, u, (M i).v⟩) := by
  refine ⟨⟨by simpa [World.setCell] using h.row.1, fun j hj => ?_⟩, there_set h.there _ _⟩
  obtain ⟨a, b, c⟩ := h.row.2 j hj
  rw [Nat.zero_add] at a b c ⊢
  have nz : ∀ o o', o ≠ o' → (⟨g, o, none⟩ : Addr) ≠ ⟨g, o', none⟩ := fun o o' ho e => ho (by injection e)
  rw [World.cell?_setCell_other _ _ _ _ (nz (i * 3 + 1) (j * 3) (by omega)), World.cell?_setCell_other _ _ _ _ (nz (i * 3 + 1) (j * 3 + 2) (by omega))]
  by_cases e : j = i
  · subst e
    have o := (h.there (j * 3 + 1) (by omega)).1
    rw [Nat.zero_add] at o
    rw [World.cell?_setCell_same' _ _ _ o]
    simp [updP, a, c]
  · rw [World.cell?_setCell_other _ _ _ _ (nz (i * 3 + 1) (j * 3 + 1) (by omega))]
    simp [updP, e, a, b, c]
theorem Pw.setP {w : World} {g n : Nat} {M : Nat → Pc} (h : Pw w g n M) (i : Nat) (hi : i < n) (p : Pc) :
    Pw (((w.setCell ⟨g, i * 3, none⟩ (.int .i64 p.f)).setCell ⟨g, i * 3 + 1, none⟩ (.int .i64 p.u)).setCell ⟨g, i * 3 + 2, none⟩ (.int .i64 p.v)) g n (updP M i p) := by
  have t1 := there_set h.there (i * 3) (.int .i64 p.f)
  have t2 := there_set t1 (i * 3 + 1) (.int .i64 p.u)
  refine ⟨⟨by simpa [World.setCell] using h.row.1, fun j hj => ?_⟩, there_set t2 _ _⟩
  obtain ⟨a, b, c⟩ := h.row.2 j hj
  rw [Nat.zero_add] at a b c ⊢
  have nz : ∀ o o', o ≠ o' → (⟨g, o, none⟩ : Addr) ≠ ⟨g, o', none⟩ := fun o o' ho e => ho (by injection e)
  by_cases e : j = i
  · subst e
    have o0 := (h.there (j * 3) (by omega)).1
    have o1 := (t1 (j * 3 + 1) (by omega)).1
    have o2 := (t2 (j * 3 + 2) (by omega)).1
    rw [Nat.zero_add] at o0 o1 o2
    refine ⟨?_, ?_, ?_⟩
    · rw [World.cell?_setCell_other _ _ _ _ (nz _ _ (by omega)), World.cell?_setCell_other _ _ _ _ (nz _ _ (by omega)), World.cell?_setCell_same' _ _ _ o0]; simp [updP]
    · rw [World.cell?_setCell_other _ _ _ _ (nz _ _ (by omega)), World.cell?_setCell_same' _ _ _ o1]; simp [updP]
    · rw [World.cell?_setCell_same' _ _ _ o2]; simp [updP]
  · refine ⟨?_, ?_, ?_⟩
    · rw [World.cell?_setCell_other _ _ _ _ (nz _ _ (by omega)), World.cell?_setCell_other _ _ _ _ (nz _ _ (by omega)), World.cell?_setCell_other _ _ _ _ (nz _ _ (by omega)), a]; simp [updP, e]
    · rw [World.cell?_setCell_other _ _ _ _ (nz _ _ (by omega)), World.cell?_setCell_other _ _ _ _ (nz _ _ (by omega)), World.cell?_setCell_other _ _ _ _ (nz _ _ (by omega)), b]; simp [updP, e]
    · rw [World.cell?_setCell_other _ _ _ _ (nz _ _ (by omega)), World.cell?_setCell_other _ _ _ _ (nz _ _ (by omega)), World.cell?_setCell_other _ _ _ _ (nz _ _ (by omega)), c]; simp [updP, e]

theorem Pw.sub {w : World} {g n : Nat} {M : Nat → Pc} (h : Pw w g n M) (i : Nat) (hi : i < n) : w.there g (i * 3) 3 := fun j hj => by
  have := h.there (i * 3 + j) (by omega)
  rwa [Nat.zero_add] at this
theorem Pw.drewN {w : World} {g n : Nat} {M : Nat → Pc} (h : Pw w g n M) (k : Nat) : Pw (w.drewN k) g n M := h.below (BdN (Below.refl _ w) k)
theorem below_setCells {B g : Nat} (hB : B ≤ g) {w0 : World} : ∀ (vs : List Value) (o : Nat) {w : World}, Below B w0 w → Below B w0 (w.setCells g o vs)
  | [], _, _, h => h
  | v :: r, o, _, h => below_setCells hB r (o + 1) (h.setCell (p := ⟨g, o, none⟩) hB v)
theorem one3 (a b c : Int) : (#[.int .i64 a, .int .i64 b, .int .i64 c] : Array Value).all (·.oneCell') = true :=
  all_oneCell_toArray (cs := [.int .i64 a, .int .i64 b, .int .i64 c]) (fun v hv => by
    simp only [List.mem_cons, List.not_mem_nil, or_false] at hv
    rcases hv with rfl | rfl | rfl <;> rfl)
/-- What joined makes of the first pieces: the row, and how many count. -/
def jm (P : Nat → Pc) : Nat → (Nat → Pc) × Nat
  | 0 => (P, 0)
  | k + 1 => if 0 < (jm P k).2 ∧ linkB ((jm P k).1 ((jm P k).2 - 1)) (P k) = true
      then (updP (jm P k).1 ((jm P k).2 - 1) ⟨((jm P k).1 ((jm P k).2 - 1)).f, (P k).u, ((jm P k).1 ((jm P k).2 - 1)).v⟩, (jm P k).2)
      else (updP (jm P k).1 (jm P k).2 (P k), (jm P k).2 + 1)
theorem jm_inv (P : Nat → Pc) : ∀ k, (jm P k).2 ≤ k ∧ ∀ j, k ≤ j → (jm P k).1 j = P j
  | 0 => ⟨Nat.le_refl _, fun _ _ => rfl⟩
  | k + 1 => by
    obtain ⟨h1, h2⟩ := jm_inv P k
    unfold jm
    split
    · refine ⟨by omega, fun j hj => ?_⟩
      show updP _ _ _ j = _
      unfold updP
      rw [if_neg (by omega)]
      exact h2 j (by omega)
    · refine ⟨by omega, fun j hj => ?_⟩
      show updP _ _ _ j = _
      unfold updP
      rw [if_neg (by omega)]
      exact h2 j (by omega)

set_option maxRecDepth 10000 in
set_option maxHeartbeats 4000000 in
theorem joined_any (g n c B : Nat) (P : Nat → Pc) (w : World) (hn : n ≤ 1099511627776) (hc : n ≤ c) (hB : B ≤ g) (hBw : B ≤ w.heap.size) (hP : Pw w g n P) :
    Calls Try.prog 37 #[.slice (some ⟨g, 0, none⟩) n c] w fun e w' => e = .returned (.slice (some ⟨g, 0, none⟩) (jm P n).2 c) ∧ Pw w' g n (jm P n).1 ∧ Below B w w' := by
  have HP := Lib.hid hP
  clear hP
  go_enter Try.func37, Try.ntmps37
  go_wp2_with fail
  go_loopg [3, 5, 8] n (fun gg s3 _ s8 wr => ∃ k : Nat, k ≤ n ∧ n - k ≤ gg ∧ s3 = .int .i64 ((jm P k).2 : Nat) ∧ s8 = .int .i64 k ∧ Aside (Pw wr g n (jm P k).1) ∧ Aside (Below B w wr))
  case atStart => exact ⟨0, Nat.zero_le _, by omega, rfl, rfl, HP.out, Below.refl _ w⟩
  case round =>
    obtain ⟨k, hk, hg, rfl, rfl, HM, BW⟩ := hrel
    obtain ⟨i1, i2⟩ := jm_inv P k
    by_cases hlt : k < n
    · have c1 : (k : Int) < (n : Int) := by omega
      have c0 : (0 : Int) ≤ (k : Int) := by omega
      have J : jm P (k + 1) = if 0 < (jm P k).2 ∧ linkB ((jm P k).1 ((jm P k).2 - 1)) (P k) = true
        then (updP (jm P k).1 ((jm P k).2 - 1) ⟨((jm P k).1 ((jm P k).2 - 1)).f, (P k).u, ((jm P k).1 ((jm P k).2 - 1)).v⟩, (jm P k).2)
        else (updP (jm P k).1 (jm P k).2 (P k), (jm P k).2 + 1) := rfl
      have ek := i2 k (Nat.le_refl _)
      generalize hX : jm P k = X at *
      obtain ⟨M, m⟩ := X
      clear hX
      simp only at J i1 ek HM ⊢
      clear i2
      obtain ⟨l0, l1, l2⟩ := HM.out.row.2 k hlt
      rw [ek, Nat.zero_add] at l0 l1 l2
      generalize P k = y at *
      have AB := (Below.refl wr.heap.size wr).alloc (Nat.le_refl _) (.cells #[.int .i64 y.f, .int .i64 y.u, .int .i64 y.v] 47)
      have BX := Lib.hid (Box3.new wr y 47)
      have zw : B ≤ wr.heap.size := Nat.le_trans hBw BW.out.size
      have BW2 := Lib.hid (BW.out.trans (AB.mono zw))
      have HM2 := Lib.hid (HM.out.below AB)
      clear AB ek
      obtain ⟨xs, x0, x1, x2⟩ := BX.out
      by_cases hm0 : m = 0
      · subst hm0
        rw [if_neg (by omega)] at J
        have J := Lib.hid J
        have g0 : decide ((0 : Int) < ((0 : Nat) : Int)) = false := by simp
        have gz : (0 : Int) < (n : Int) := by omega
        clear HM i1
        go_upto_region 5 with (fail)
        have zw2 : B ≤ (wr.alloc (.cells #[.int .i64 y.f, .int .i64 y.u, .int .i64 y.v] 47)).heap.size := by simp; omega
        generalize wr.alloc (.cells #[.int .i64 y.f, .int .i64 y.u, .int .i64 y.v] 47) = w2 at *
        clear l0 l1 l2
        go_quiet (fail)
        have HM3 := HM2.out.drewN nq
        have HP9 := Lib.hid (HM3.setP 0 (by omega) y)
        have T3 : (w2.drewN nq).there g 0 3 := HM3.sub 0 (by omega)
        have B3 := Lib.hid (below_setCells hB [.int .i64 y.f, .int .i64 y.u, .int .i64 y.v] (0 * 3) (BdN BW2.out nq))
        clear HM3
        go_wp2_with (refine wpList_store_mid rfl 47 _ _ rfl g 0 #[.int .i64 y.f, .int .i64 y.u, .int .i64 y.v] rfl rfl T3 (by kernel_rfl) (one3 _ _ _) ?_)
        go_roundg (n - (k + 1))
        case measure => omega
        case rel => exact ⟨k + 1, by omega, by omega, by rw [J.out]; rfl, by go_num, (show Aside _ from by rw [J.out]; exact HP9.out), (show Aside _ from B3.out)⟩
      · obtain ⟨m, rfl⟩ : ∃ m', m = m' + 1 := ⟨m - 1, by omega⟩
        rw [Nat.add_sub_cancel] at J
        obtain ⟨z0, z1, z2⟩ := HM2.out.row.2 m (by omega)
        rw [Nat.zero_add] at z0 z1 z2
        have hcon := continues_any (M m) y
        generalize hz : M m = z at *
        have EZ := Lib.hid hz
        have HC := Lib.hid hcon
        clear hz hcon HM
        have hgl : g < (wr.alloc (.cells #[.int .i64 y.f, .int .i64 y.u, .int .i64 y.v] 47)).heap.size := HM2.out.row.1
        have gz : (m : Int) < (n : Int) := by omega
        have g0 : decide ((0 : Int) < ((m + 1 : Nat) : Int)) = true := by simp
        have s1 : IntKind.i64.wrap (((m + 1 : Nat) : Int) - 1) = (m : Int) := by rw [show ((m + 1 : Nat) : Int) - 1 = (m : Int) from by omega]; exact IntWalk.i64_in _ ⟨by omega, by omega⟩
        have s5 : IntKind.i64.wrap ((m : Int) + 1 - 1) = (m : Int) := by rw [show (m : Int) + 1 - 1 = (m : Int) from by omega]; exact IntWalk.i64_in _ ⟨by omega, by omega⟩
        have s6 : IntKind.i64.wrap (m : Int) = (m : Int) := IntWalk.i64_in _ ⟨by omega, by omega⟩
        have s2 : (0 : Int) ≤ (m : Int) := by omega
        have s4 : ((m : Int)).toNat = m := by omega
        go_upto_region 5 with (fail)
        have zw2 : B ≤ (wr.alloc (.cells #[.int .i64 y.f, .int .i64 y.u, .int .i64 y.v] 47)).heap.size := by simp; omega
        generalize wr.alloc (.cells #[.int .i64 y.f, .int .i64 y.u, .int .i64 y.v] 47) = w2 at *
        have hS0 : S6 w2 wr.heap.size g (m * 3) y z w2.drew := ⟨x0, x1, x2, z0, z1, z2, xs, hgl, (Below.refl _ w2).drew⟩
        have hS0 := Lib.hid hS0
        clear l0 l1 l2 x0 x1 x2 z0 z1 z2 xs
        cases hq : linkB z y with
        | true =>
          rw [hq] at HC J
          rw [if_pos ⟨Nat.succ_pos _, rfl⟩] at J
          have J := Lib.hid J
          clear hq
          go_region_held3 (fun W => W.cell? ⟨wr.heap.size, 0, none⟩ = some (.int .i64 y.f) ∧ W.cell? ⟨wr.heap.size, 1, none⟩ = some (.int .i64 y.u) ∧ W.cell? ⟨wr.heap.size, 2, none⟩ = some (.int .i64 y.v) ∧ W.cell? ⟨g, m * 3, none⟩ = some (.int .i64 z.f) ∧ W.cell? ⟨g, m * 3 + 1, none⟩ = some (.int .i64 z.u) ∧ W.cell? ⟨g, m * 3 + 2, none⟩ = some (.int .i64 z.v) ∧ (wr.heap.size < w2.heap.size ∧ g < w2.heap.size ∧ Below w2.heap.size w2 W))
            (first | assumption | exact hS0.out)
            ((go_at_call 33; refine (S6.keep (u := w2) (B := wr.heap.size) (b := g) (o := m * 3) (y := y) (l := z) (by assumption) (HC.out _)).mono ?_; rintro e w5 ⟨rfl, hS5, b5⟩))
          have HM5 := HM2.out.below hS5.2.2.2.2.2.2.2.2
          have B5 := BW2.out.trans (hS5.2.2.2.2.2.2.2.2.mono zw2)
          obtain ⟨_, z1, _⟩ := HM5.row.2 m (by omega)
          rw [Nat.zero_add] at z1
          have f1 := (HM5.sub m (by omega) 1 (by omega)).2
          have hp9 := HM5.setU m (by omega) y.u
          rw [EZ.out] at hp9
          have HP9 := Lib.hid hp9
          clear hp9
          have B9 := Lib.hid (B5.setCell (p := ⟨g, m * 3 + 1, none⟩) hB (.int .i64 y.u))
          have y1 := hS5.2.1
          clear HM5 B5 b5 hS5
          go_wp2_with fail
          go_roundg (n - (k + 1))
          case measure => omega
          case rel => exact ⟨k + 1, by omega, by omega, by rw [J.out]; show Value.int .i64 ((m : Int) + 1) = .int .i64 ((m + 1 : Nat) : Int); go_num, by go_num, (show Aside _ from by rw [J.out]; exact HP9.out), (show Aside _ from B9.out)⟩
        | false =>
          rw [hq] at HC J
          rw [if_neg (by simp)] at J
          have J := Lib.hid J
          clear hq
          go_region_held3 (fun W => W.cell? ⟨wr.heap.size, 0, none⟩ = some (.int .i64 y.f) ∧ W.cell? ⟨wr.heap.size, 1, none⟩ = some (.int .i64 y.u) ∧ W.cell? ⟨wr.heap.size, 2, none⟩ = some (.int .i64 y.v) ∧ W.cell? ⟨g, m * 3, none⟩ = some (.int .i64 z.f) ∧ W.cell? ⟨g, m * 3 + 1, none⟩ = some (.int .i64 z.u) ∧ W.cell? ⟨g, m * 3 + 2, none⟩ = some (.int .i64 z.v) ∧ (wr.heap.size < w2.heap.size ∧ g < w2.heap.size ∧ Below w2.heap.size w2 W))
            (first | assumption | exact hS0.out)
            ((go_at_call 33; refine (S6.keep (u := w2) (B := wr.heap.size) (b := g) (o := m * 3) (y := y) (l := z) (by assumption) (HC.out _)).mono ?_; rintro e w5 ⟨rfl, hS5, b5⟩))
          have HM5 := HM2.out.below hS5.2.2.2.2.2.2.2.2
          have B5 := BW2.out.trans (hS5.2.2.2.2.2.2.2.2.mono zw2)
          have y0 := hS5.1
          have y1 := hS5.2.1
          have y2 := hS5.2.2.1
          have T3 := HM5.sub (m + 1) (by omega)
          have HP9 := Lib.hid (HM5.setP (m + 1) (by omega) y)
          have B9 := Lib.hid (below_setCells hB [.int .i64 y.f, .int .i64 y.u, .int .i64 y.v] ((m + 1) * 3) B5)
          have gz2 : (m : Int) + 1 < (n : Int) := by omega
          have s7 : (0 : Int) ≤ (m : Int) + 1 := by omega
          have s8 : ((m : Int) + 1).toNat = m + 1 := by omega
          clear HM5 B5 b5 hS5 s1 s5 s6
          go_wp2_with (refine wpList_store_mid rfl 47 _ _ rfl g ((m + 1) * 3) #[.int .i64 y.f, .int .i64 y.u, .int .i64 y.v] rfl rfl T3 (by kernel_rfl) (one3 _ _ _) ?_)
          go_roundg (n - (k + 1))
          case measure => omega
          case rel => exact ⟨k + 1, by omega, by omega, by rw [J.out]; show Value.int .i64 ((m : Int) + 1 + 1) = .int .i64 ((m + 1 + 1 : Nat) : Int); go_num, by go_num, (show Aside _ from by rw [J.out]; exact HP9.out), (show Aside _ from B9.out)⟩
    · obtain rfl : k = n := by omega
      have c1 : ¬ (k : Int) < (k : Int) := by omega
      have HM := Lib.hid HM.out
      generalize hX : jm P k = X at *
      obtain ⟨M, m⟩ := X
      have EX := Lib.hid hX
      clear hX
      simp only at i1 HM ⊢
      have q1 : (0 : Int) ≤ (m : Int) := by omega
      have q2 : (m : Int) ≤ (c : Int) := by omega
      go_wp2_with fail
      go_ret
      exact ⟨by rw [EX.out]; rfl, by rw [EX.out]; exact HM.out, BW.out⟩
end Go.Proofs.Ytekigilhmdphnaa
