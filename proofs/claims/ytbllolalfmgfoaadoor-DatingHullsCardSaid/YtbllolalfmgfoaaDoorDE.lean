/- The lists of the periods that begin or end on a day: those of a year's ends. -/
import Derived.Test.YtbllolalfmgfoaaDoorDD
namespace Go.Proofs.YtbllolalfmgfoaaDoor
open Go.RowKit Go.Shelf

def pv (x : Int × Int) : Value := .agg #[.int .i64 x.1, .int .i64 x.2]
/-- What IndexFunc gives for a test. -/
def FirstT (q : Nat → Bool) (n : Nat) (z : Int) : Prop := ((∀ j, j < n → q j = false) ∧ z = -1) ∨ ∃ i : Nat, i < n ∧ z = i ∧ q i = true ∧ ∀ j, j < i → q j = false

set_option maxHeartbeats 2000000 in
theorem IndexFuncP_any (g : Nat) (lb : Array Value) (eg : ∀ args w, (callFunc g args).run Tryd.prog w = .ok (.enter g args) w) (b off n c : Nat) (D : Nat → Int × Int) (q : Nat → Bool) (w : World)
    (hn : n ≤ 9223372036854775807) (hD : Dats w b off n D)
    (hp : ∀ (W : World) j, j < n → Below w.heap.size w W → Calls Tryd.prog g (#[pv (D j)] ++ lb) W fun e w' => e = .returned (.bool (q j)) ∧ Below W.heap.size W w') :
    Calls Tryd.prog 91 #[.slice (some ⟨b, off, none⟩) n c, .func (.func g) #[] lb] w
      fun e w' => ∃ z : Int, e = .returned (.int .i64 z) ∧ FirstT q n z ∧ Below w.heap.size w w' := by
  have hrow : ∀ (W : World), Below w.heap.size w W → ∀ j, j < n → W.cell? ⟨b, off + j * 2, none⟩ = some (.int .i64 (D j).1) ∧ W.cell? ⟨b, off + j * 2 + 1, none⟩ = some (.int .i64 (D j).2) := fun W hW j hj => (hD.below hW).2 j hj
  clear hD
  go_enter Tryd.func91, Tryd.ntmps91
  go_wp2
  go_loopg [5, 8] n (fun gg _ s8 wr => ∃ kk : Nat, kk ≤ n ∧ n - kk ≤ gg ∧ s8 = .int .i64 kk ∧ Aside (Below w.heap.size w wr) ∧ Aside (∀ j, j < kk → q j = false))
  case atStart => exact ⟨0, Nat.zero_le _, by omega, rfl, Below.refl _ w, fun j hj => absurd hj (Nat.not_lt_zero _)⟩
  case round =>
    obtain ⟨kk, hkk, hg, rfl, BW, A⟩ := hrel
    by_cases hlt : kk < n
    · have hltz : (kk : Int) < (n : Int) := by omega
      obtain ⟨l1, l2⟩ := hrow wr BW.out kk (by omega)
      have hcall := hp wr kk hlt BW.out
      unfold pv at hcall
      clear hrow hp
      generalize D kk = y at l1 l2 hcall
      cases hq : q kk with
      | true =>
        rw [hq] at hcall
        go_wp2_with (go_at_fn g; refine hcall.mono ?_; rintro e w' ⟨rfl, hb'⟩)
        go_ret
        exact ⟨_, rfl, Or.inr ⟨kk, hlt, rfl, hq, A.out⟩, BW.out.trans (hb'.mono BW.out.size)⟩
      | false =>
        rw [hq] at hcall
        go_wp2_with (go_at_fn g; refine hcall.mono ?_; rintro e w' ⟨rfl, hb'⟩)
        go_roundg (n - (kk + 1))
        case measure => omega
        case rel =>
          refine ⟨kk + 1, by omega, by omega, by go_num, (show Aside _ from BW.out.trans (hb'.mono BW.out.size)), (show Aside _ from fun j hj => ?_)⟩
          by_cases e : j = kk
          · rw [e]; exact hq
          · exact A.out j (by omega)
    · have hltz : ¬ (kk : Int) < (n : Int) := by omega
      have : kk = n := by omega
      subst this
      go_wp2
      go_ret
      exact ⟨_, rfl, Or.inl ⟨A.out, rfl⟩, BW.out⟩

/-- The test of around turns the one that it was handed. -/
theorem aroundTest (g : Nat) (lb : Array Value) (eg : ∀ args w, (callFunc g args).run Tryd.prog w = .ok (.enter g args) w) (C : Nat) (x : Int × Int) (r : Bool) (W : World) (hC : C < W.heap.size)
    (hc : W.cell? ⟨C, 0, none⟩ = some (.func (.func g) #[] lb))
    (hp : ∀ V, Below W.heap.size W V → Calls Tryd.prog g (#[pv x] ++ lb) V fun e w' => e = .returned (.bool r) ∧ Below V.heap.size V w') :
    Calls Tryd.prog 87 #[pv x, .pointer (some ⟨C, 0, none⟩)] W fun e w' => e = .returned (.bool (!r)) ∧ Below W.heap.size W w' := by
  have hB : Below W.heap.size W (W.alloc (.cells #[.int .i64 x.1, .int .i64 x.2] 51)) := (Below.refl _ W).alloc (Nat.le_refl _) _
  have hc1 := (hB.cell (p := ⟨C, 0, none⟩) hC).trans hc
  have h := hp _ hB
  unfold pv at h ⊢
  clear hp hc
  go_enter Tryd.func87, Tryd.ntmps87
  go_wp2_with (go_at_fn g; refine h.mono ?_; rintro e w' ⟨rfl, hb'⟩)
  go_ret
  exact ⟨rfl, hB.trans (hb'.mono hB.size)⟩

/-- The three periods round a day. -/
def all3P (d y m : Int) : Nat → Int × Int := sel3 (Cal.num y 1 1, 4) (Cal.num y m 1, 7) (d, 10)

theorem firsts {d y m k : Int} (hD : Cal.DateIs d y m k) (h1 : d ≤ 1048575) : ofB y 1 1 = true ∧ ofB y m 1 = true := by
  have y0 := hD.y0; have y1 := hD.y1; have m0 := hD.m0; have m1 := hD.m1; have k0 := hD.k0
  have e := hD.eq
  have b1 := Cal.ln_bd y 1; have b2 := Cal.ln_bd y m
  have l1 := Cal.len_of y 1 y0 y1 (by omega) (by omega); have l2 := Cal.len_of y m y0 y1 m0 m1
  have c1 := Cal.cum_1 y; have c2 := Cal.cum_bd y m m0 (by omega)
  unfold Cal.num at e
  refine ⟨ofB_mk ⟨by omega, by omega, ?_⟩, ofB_mk ⟨by omega, by omega, ?_⟩⟩
  · unfold Cal.num; omega
  · unfold Cal.num; omega

set_option maxHeartbeats 2000000 in
/-- around, where the test holds for the year, the month and the day. -/
theorem around_all (g : Nat) (lb : Array Value) (eg : ∀ args w, (callFunc g args).run Tryd.prog w = .ok (.enter g args) w) (d y m k : Int) (w : World) (hT : Tab w) (hD : Cal.DateIs d y m k) (h0 : 0 ≤ d) (h1 : d ≤ 1048575)
    (hp : ∀ (W : World) j, j < 3 → Below w.heap.size w W → Calls Tryd.prog g (#[pv (all3P d y m j)] ++ lb) W fun e w' => e = .returned (.bool true) ∧ Below W.heap.size W w') :
    Calls Tryd.prog 64 #[.int .i64 d, .func (.func g) #[] lb] w
      fun e w' => ∃ B, e = .returned (.slice (some ⟨B, 0, none⟩) 3 3) ∧ Dats w' B 0 3 (all3P d y m) ∧ Below w.heap.size w w' ∧ w.heap.size ≤ B := by
  have eg1 : ∀ args w, (callFunc 87 args).run Tryd.prog w = .ok (.enter 87 args) w := enters_of Tryd.func87 (by kernel_rfl) rfl
  obtain ⟨f1, f2⟩ := firsts hD h1
  have hB : Below w.heap.size w (w.alloc (.cells #[.func (.func g) #[] lb] 76)) := (Below.refl _ w).alloc (Nat.le_refl _) _
  have hc : (w.alloc (.cells #[.func (.func g) #[] lb] 76)).cell? ⟨w.heap.size, 0, none⟩ = some (.func (.func g) #[] lb) := cell_new w _ _ 0
  have hs : w.heap.size < (w.alloc (.cells #[.func (.func g) #[] lb] 76)).heap.size := by simp
  have hT1 := hT.below hB
  generalize hW : w.alloc (.cells #[.func (.func g) #[] lb] 76) = W at hB hc hs hT1
  have c1 := Date_yes d y m k W hT1 hD h0 h1
  have c2 := Of_any y 1 1 W hT1
  rw [ofV_yes f1, ofE_yes f1] at c2
  have c3 := Of_any y m 1 W hT1
  rw [ofV_yes f2, ofE_yes f2] at c3
  have c1 := Lib.hid c1; have c2 := Lib.hid c2; have c3 := Lib.hid c3
  clear hT hD hT1 f1 f2
  have d4 : Calls Tryd.prog 86 #[.slice (some ⟨W.heap.size, 0, none⟩) 3 3, .func (.func 87) #[] #[.pointer (some ⟨w.heap.size, 0, none⟩)]]
      (W.alloc (.cells #[.int .i64 (Cal.num y 1 1), .int .i64 4, .int .i64 (Cal.num y m 1), .int .i64 7, .int .i64 d, .int .i64 10] 51))
      fun e w' => e = .returned (.slice (some ⟨W.heap.size, 0, none⟩) 3 3) ∧ Below (W.heap.size + 1) (W.alloc (.cells #[.int .i64 (Cal.num y 1 1), .int .i64 4, .int .i64 (Cal.num y m 1), .int .i64 7, .int .i64 d, .int .i64 10] 51)) w' := by
    have hd := dats3 (Cal.num y 1 1, 4) (Cal.num y m 1, 7) (d, 10) W W.heap.size rfl 51
    simp only at hd
    have hB2 : Below W.heap.size W (W.alloc (.cells #[.int .i64 (Cal.num y 1 1), .int .i64 4, .int .i64 (Cal.num y m 1), .int .i64 7, .int .i64 d, .int .i64 10] 51)) := (Below.refl _ W).alloc (Nat.le_refl _) _
    have hs2 : (W.alloc (.cells #[.int .i64 (Cal.num y 1 1), .int .i64 4, .int .i64 (Cal.num y m 1), .int .i64 7, .int .i64 d, .int .i64 10] 51)).heap.size = W.heap.size + 1 := by simp
    generalize W.alloc (.cells #[.int .i64 (Cal.num y 1 1), .int .i64 4, .int .i64 (Cal.num y m 1), .int .i64 7, .int .i64 d, .int .i64 10] 51) = V at hd hB2 hs2 ⊢
    have ci := IndexFuncP_any 87 #[.pointer (some ⟨w.heap.size, 0, none⟩)] eg1 W.heap.size 0 3 3 (all3P d y m) (fun _ => false) V (by omega) hd (fun U j hj hU => by
      have b1 : Below W.heap.size W U := hB2.trans (hU.mono hB2.size)
      have hcU := (b1.cell (p := ⟨w.heap.size, 0, none⟩) hs).trans hc
      exact aroundTest g lb eg w.heap.size (all3P d y m j) true U (Nat.lt_of_lt_of_le hs b1.size) hcU (fun U' hU' =>
        hp U' j hj (hB.trans ((b1.trans (hU'.mono b1.size)).mono hB.size))))
    clear hd hp hc hW
    rw [hs2] at ci
    go_enter Tryd.func86, Tryd.ntmps86
    go_wp2_with fail
    refine ci.mono ?_; rintro e w1 ⟨z, rfl, hz, hb⟩
    obtain rfl : z = -1 := by
      rcases hz with ⟨_, h⟩ | ⟨i, _, _, h, _⟩
      · exact h
      · cases h
    go_wp2
    go_ret
    exact ⟨rfl, hb⟩
  have d4 := Lib.hid d4
  clear hp
  go_enter Tryd.func64, Tryd.ntmps64
  go_wp2_with fail
  refine c1.out.mono ?_; rintro e w1 ⟨rfl, rfl⟩
  go_wp2_with fail
  refine c2.out.mono ?_; rintro e w1 ⟨rfl, rfl⟩
  go_wp2_with fail
  refine c3.out.mono ?_; rintro e w1 ⟨rfl, rfl⟩
  go_wp2_with fail
  refine d4.out.mono ?_; rintro e w1 ⟨rfl, hb⟩
  have hd := dats3 (Cal.num y 1 1, 4) (Cal.num y m 1, 7) (d, 10) W W.heap.size rfl 51
  simp only at hd
  have hd2 := hd.below (by simpa using hb)
  clear hd
  go_wp2
  go_ret
  exact ⟨W.heap.size, rfl, hd2, hB.trans ((((Below.refl _ W).alloc (Nat.le_refl _) _).trans (hb.mono (by omega))).mono hB.size), hB.size⟩
end Go.Proofs.YtbllolalfmgfoaaDoor
