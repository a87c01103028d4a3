/- The natural order: compare, Natural. -/
import Derived.Test.YtnjnjcgbdhiigaaGreatDoorCS
import Derived.RangeFuncFrom
namespace Go.Proofs.YtnjnjcgbdhiigaaGreatDoor
open Go.RowKit Go.Shelf
attribute [local go_sem] Oper.semAt_some

theorem fst0_app : ∀ (l m : List (List UInt8 × List UInt8)), fst0 l = 0 → fst0 (l ++ m) = fst0 m
  | [], _, _ => rfl
  | (p, q) :: r, m, h => by
    unfold fst0 at h
    show fst0 ((p, q) :: (r ++ m)) = _
    by_cases e : cmpP p q = 0
    · rw [if_pos e] at h
      conv => lhs; unfold fst0
      rw [if_pos e, fst0_app r m h]
    · rw [if_neg e] at h; exact absurd h e
theorem fst0_stop : ∀ (l m : List (List UInt8 × List UInt8)), fst0 l ≠ 0 → fst0 (l ++ m) = fst0 l
  | [], _, h => absurd rfl h
  | (p, q) :: r, m, h => by
    unfold fst0 at h
    show fst0 ((p, q) :: (r ++ m)) = _
    by_cases e : cmpP p q = 0
    · rw [if_pos e] at h
      conv => lhs; unfold fst0
      conv => rhs; unfold fst0
      rw [if_pos e, if_pos e, fst0_stop r m h]
    · conv => lhs; unfold fst0
      conv => rhs; unfold fst0
      rw [if_neg e, if_neg e]
/-- Between two rounds. -/
structure NI (w : World) (pre : List (Txt × Txt)) (W : World) : Prop where
  r : Bw W (w.heap.size + 1) (.int .i64 0)
  z : fst0 (pre.map bts2) = 0
  bel : Below w.heap.size w W
/-- A pair has decided. -/
structure NX (w : World) (pre : List (Txt × Txt)) (W : World) : Prop where
  r : Bw W (w.heap.size + 1) (.int .i64 (fst0 (pre.map bts2)))
  z : fst0 (pre.map bts2) ≠ 0
  bel : Below w.heap.size w W

theorem NI.grown {w : World} {pre : List (Txt × Txt)} {W W' : World} {row : Option Nat} (h : NI w pre W) (g : W.grownBy W' row) (hr : ∀ r, row = some r → w.heap.size + 4 ≤ r) : NI w pre W' :=
  ⟨h.r.g g (fun e => by have := hr _ e; omega), h.z, h.bel.grown g h.bel.size (fun k e => by have := hr k e; omega)⟩
theorem NX.grown {w : World} {pre : List (Txt × Txt)} {W W' : World} {row : Option Nat} (h : NX w pre W) (g : W.grownBy W' row) (hr : ∀ r, row = some r → w.heap.size + 4 ≤ r) : NX w pre W' :=
  ⟨h.r.g g (fun e => by have := hr _ e; omega), h.z, h.bel.grown g h.bel.size (fun k e => by have := hr k e; omega)⟩
theorem fst0_one (x : Txt × Txt) : fst0 ([x].map bts2) = cmpP (bts x.1) (bts x.2) := by
  show (if cmpP (bts x.1) (bts x.2) = 0 then (0 : Int) else cmpP (bts x.1) (bts x.2)) = _
  split
  · rename_i h; exact h.symm
  · rfl

set_option maxRecDepth 100000 in
set_option maxHeartbeats 2000000 in
theorem compare_any (a b : Txt) (w : World) :
    Calls Tryz.prog 47 #[.agg #[], .string a.1, .string b.1] w fun e w' => e = .returned (.int .i64 (natL (bts a) (bts b))) ∧ Below w.heap.size w w' := by
  obtain ⟨U, hU⟩ : ∃ U, U = (w.alloc (.cells #[] 62)).alloc (.cells #[.int .i64 0] 3) := ⟨_, rfl⟩
  have z : U.heap.size = w.heap.size + 2 := by rw [hU]; simp
  have PA := parts_any a.1 b.1 U
  have PI := parts_in 5 (by omega) a b U
  have N0 : NI w [] U := by
    have c := c_new (w.alloc (.cells #[] 62)) (.int .i64 0) 3
    rw [World.size_alloc] at c
    rw [hU]
    exact ⟨c, rfl, ((Below.refl _ w).alloc (Nat.le_refl _) _).alloc (by simp) _⟩
  rw [z] at PA PI
  obtain ⟨rr, hrr⟩ : ∃ rr, rr = natL (bts a) (bts b) := ⟨_, rfl⟩
  rw [← hrr]
  have HR := Lib.hid hrr
  clear hrr
  refine (callsIn_wide (n := 6)).1 ?_
  refine callsIn_of_wp_marks Tryz.func47 rfl trivial ?_ rfl
  simp only [Tryz.ntmps47, List.size_toArray, List.length_cons, List.length_nil, Nat.reduceAdd, Nat.reduceSub, Array.replicate_succ, Array.replicate_zero, List.push_toArray, List.append_toArray, List.nil_append, List.cons_append]
  have hfS : Fence.wide.fn 63 := trivial
  subst hU
  gi_wp2_with (gi_at_call 63; refine (callsIn_wide.2 PA).mono ?_; rintro e V' ⟨rfl, hV0⟩; have HV := Lib.hid hV0; clear hV0)
  rw [← HV.out] at PI
  have z' : V'.heap.size = w.heap.size + 4 := by rw [HV.out]; simp
  have P0 : NI w [] V' := by
    rw [HV.out]
    exact (N0.grown (World.grownBy_alloc _ _ none) (fun r e => by cases e)).grown (World.grownBy_alloc _ _ none) (fun r e => by cases e)
  clear N0 HV z PA
  refine wpIn_rangeFunc_ownF (F := Fence.wide) (n := 6) rfl (by omega) (gf := 80) rfl trivial (enters_of Tryz.func80 (by kernel_rfl) rfl) PI (fun _ _ => trivial) (fun _ _ _ _ _ _ _ _ => trivial) (Below.refl _ _) (fun _ => rfl)
    (NI w) (fun c pre W => c = .ret ∧ NX w pre W) (fun _ W W' row h g hr => h.grown g (fun r e => by rw [← z']; exact (hr r e).1)) (fun _ _ W W' row h g hr => ⟨h.1, h.2.grown g (fun r e => by rw [← z']; exact (hr r e).1)⟩) P0
    (fun x => { tmps := #[.agg #[], .string a.1, .string b.1, .pointer (some ⟨w.heap.size, 0, none⟩), undef, undef, .pointer (some ⟨w.heap.size + 1, 0, none⟩), .string x.1.1, .string x.2.1, undef, .string a.1, .string b.1, .func (.func 80) #[] #[.pointer (some ⟨w.heap.size + 2, 0, none⟩), .pointer (some ⟨w.heap.size + 2 + 1, 0, none⟩)], .string x.1.1, .string x.2.1, undef, undef, undef, undef, undef, undef, undef, undef, undef], defers := [] }) ?assign ?body ?done ?stop
  case assign =>
    intro l x W K hK
    simp only [encP]
    gi_wp2
    exact hK
  case body =>
    intro l pre x W hi hlen
    have CP := Lib.hid (cmpP_any x.1.1 x.2.1 x.1.2 x.2.2 W)
    have F1 := fst0_one x
    have FA : fst0 ((pre ++ [x]).map bts2) = cmpP (bts x.1) (bts x.2) := by rw [List.map_append, fst0_app _ _ hi.z, F1]
    obtain ⟨n, hn⟩ : ∃ n, n = cmpP (bts x.1) (bts x.2) := ⟨_, rfl⟩
    have CP : Hid (Calls Tryz.prog 64 #[.string x.1.1, .string x.2.1] W fun e w' => e = .returned (.int .i64 n) ∧ Below W.heap.size W w') := by rw [hn]; exact CP
    rw [← hn] at FA
    have HF := Lib.hid FA
    have HI := Lib.hid hi
    have h1 : 1 ≤ 6 - 1 - 1 := by omega
    clear hi F1 FA hn
    by_cases h0 : n = 0
    · have D : (n != 0) = false := by simp [h0]
      have H0 := Lib.hid h0
      clear h0
      gi_wp2_with (refine ⟨trivial, ?_⟩; gi_at_call 64; refine (CallsIn.inRound l (callsIn_wide.2 CP.out)).mono ?_; rintro e W1 ⟨rfl, b1⟩; have B1 := Lib.hid b1; clear b1)
      have g1 := gb_below (r := none) B1.out
      exact ⟨KeepsOthers.of_grownBy g1 (fun j o e => by cases e), trivial, (HI.out.grown g1 (fun r e => by cases e)).r, by rw [HF.out, H0.out], (HI.out.grown g1 (fun r e => by cases e)).bel⟩
    · have D : (n != 0) = true := by simp [h0]
      have H0 := Lib.hid h0
      clear h0
      gi_wp2_with (refine ⟨trivial, ?_⟩; gi_at_call 64; refine (CallsIn.inRound l (callsIn_wide.2 CP.out)).mono ?_; rintro e W1 ⟨rfl, b1⟩; have p1 := HI.out.grown (gb_below (r := none) b1) (fun r e => by cases e); have q0 := p1.r.1; have q1 := p1.r.2; have P1 := Lib.hid p1; have KB := Lib.hid (KeepsOthers.of_grownBy (gb_below (r := none) b1) (fun j o e => by cases e)); clear p1 b1)
      exact ⟨KB.out.trans (KeepsOthers.setCell _ _ _), rfl, by rw [HF.out]; exact P1.out.r.set, by rw [HF.out]; exact H0.out, P1.out.bel.setCell (p := ⟨w.heap.size + 1, 0, none⟩) (Nat.le_succ _) _⟩
  case done =>
    intro D xs W hD hS hi hK
    have E : rr = Lib.compareBytes (bts a) (bts b) := by
      rw [HR.out]
      unfold natL
      rw [← hS, hi.z, if_pos rfl]
    have CS := Lib.hid (Any.strings_Compare Tryz.lays106 a.1 b.1 W)
    have CS : Hid (Calls Tryz.prog 65 #[.string a.1, .string b.1] W fun e w' => e = .returned (.int .i64 rr) ∧ w' = W) := by rw [E]; exact CS
    have q0 := hi.r.1
    have q1 := hi.r.2
    have HI := Lib.hid hi
    have HK := Lib.hid hK
    clear hi hS E hK
    gi_wp2_with (refine ⟨trivial, ?_⟩; gi_at_call 65; refine (callsIn_wide.2 CS.out).mono ?_; rintro e W1 ⟨rfl, hw⟩; obtain rfl : W = W1 := hw.symm)
    have c1 := (HI.out.r.set (v' := .int .i64 rr))
    have b1 := HI.out.bel.setCell (p := ⟨w.heap.size + 1, 0, none⟩) (Nat.le_succ _) (.int .i64 rr)
    have k1 := (KeepsOthers.setCell W ⟨w.heap.size + 1, 0, none⟩ (.int .i64 rr)).same D _ HK.out rfl
    have sz : w.heap.size + 4 ≤ D := by rw [← z']; exact hD
    generalize W.setCell ⟨w.heap.size + 1, 0, none⟩ (.int .i64 rr) = W2 at *
    have g2 := grownBy_putObj' W2 D (.deferred none)
    have f1 := (c1.g g2 (by simp; omega)).1
    refine ⟨by simp, .inl ⟨_, _, rfl, run_takeDeferred k1, ?_⟩⟩
    exact ⟨.int .i64 rr, by simp [results, Tryz.results47, go_sem, f1], rfl, b1.grown g2 b1.size (fun k e => by cases e; omega)⟩
  case stop =>
    intro D c pre W hD hS hi hK
    obtain ⟨rfl, hi⟩ := hi
    obtain ⟨M, hM⟩ := hS
    have E : fst0 (pre.map bts2) = rr := by
      rw [HR.out]
      unfold natL
      rw [← hM, fst0_stop _ _ hi.z, if_neg hi.z]
    gi_wp2
    have sz : w.heap.size + 4 ≤ D := by rw [← z']; exact hD
    have q1 := hi.r.1
    rw [E] at q1
    have g2 := grownBy_putObj' W D (.deferred none)
    have f1 := cell_g q1 g2 (by simp; omega)
    refine ⟨by simp, .inl ⟨_, _, rfl, run_takeDeferred hK, ?_⟩⟩
    exact ⟨.int .i64 rr, by simp [results, Tryz.results47, go_sem, f1], rfl, hi.bel.grown g2 hi.bel.size (fun k e => by cases e; omega)⟩
set_option maxHeartbeats 1000000 in
theorem Natural_any (a b : Txt) (w : World) :
    Calls Tryz.prog 24 #[.string a.1, .string b.1] w fun e w' => e = .returned (.int .i64 (natL (bts a) (bts b))) ∧ Below w.heap.size w w' := by
  have CO := Lib.hid (compare_any a b w)
  go_enter Tryz.func24, Tryz.ntmps24
  go_wp2_with fail
  refine CO.out.mono ?_; rintro e w1 ⟨rfl, b1⟩
  have B1 := Lib.hid b1
  go_wp2_with fail
  go_ret
  exact ⟨rfl, B1.out⟩
end Go.Proofs.YtnjnjcgbdhiigaaGreatDoor
