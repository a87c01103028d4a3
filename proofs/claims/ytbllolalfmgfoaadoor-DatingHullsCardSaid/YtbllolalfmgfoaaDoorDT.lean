/- The walk of DatingJoins. -/
import Derived.Test.YtbllolalfmgfoaaDoorDS
namespace Go.Proofs.YtbllolalfmgfoaaDoor
open Go.RowKit Go.Shelf

/-- A list of datings as an argument: none, or a row in memory. -/
def IsList (w : World) (p : Option Addr) (n c : Nat) (D : Nat → Int × Int) : Prop :=
  (p = none ∧ n = 0 ∧ c = 0) ∨ ∃ a : Addr, p = some a ∧ n ≤ 9223372036854775807 ∧ (0 < n → a.spot = none ∧ Dats w a.block a.off n D)
theorem IsList.below {w w' : World} {p : Option Addr} {n c : Nat} {D : Nat → Int × Int} (h : IsList w p n c D) (hb : Below w.heap.size w w') : IsList w' p n c D := by
  rcases h with h | ⟨a, h1, h2, h3⟩
  · exact Or.inl h
  · exact Or.inr ⟨a, h1, h2, fun h0 => ⟨(h3 h0).1, (h3 h0).2.below hb⟩⟩
/-- What Hull gives: the same as the reference's. -/
theorem hulls (p : Option Addr) (n c : Nat) (D : Nat → Int × Int) (w : World) (h : IsList w p n c D) :
    ∃ F L E : Int, (∀ V, Below w.heap.size w V → Calls Tryd.prog 22 #[.slice p n c] V (DatE F L E V)) ∧ (∀ V, Below w.heap.size w V → Calls Tryd.prog 23 #[.slice p n c] V (DatE F L E V)) := by
  rcases h with ⟨rfl, rfl, rfl⟩ | ⟨⟨b, off, spot⟩, rfl, hm, hD⟩
  · exact ⟨0, 0, 9, fun V _ => Hull_empty _ (Or.inl rfl) V, fun V _ => rHull_empty _ (Or.inl rfl) V⟩
  · by_cases h0 : n = 0
    · subst h0
      exact ⟨0, 0, 9, fun V _ => Hull_empty _ (Or.inr ⟨_, _, rfl⟩) V, fun V _ => rHull_empty _ (Or.inr ⟨_, _, rfl⟩) V⟩
    · obtain ⟨hsp, hE⟩ := hD (by omega)
      clear hD
      simp only at hsp hE
      subst hsp
      have hD := hE
      clear hE
      by_cases h1 : 1024 < n
      · exact ⟨0, 0, 8, fun V _ => Hull_large b off n c V h1 hm, fun V _ => rHull_large b off n c V h1 hm⟩
      · cases hg : allGd D n
        · refine ⟨0, 0, 1, fun V hV => Hull_bad b off n c D V (by omega) (by omega) (hD.below hV) hg, fun V hV => (rHull_some b off n c D V (by omega) (by omega) (hD.below hV)).mono fun e w' he => ?_⟩
          rcases he with ⟨h, _⟩ | ⟨_, h⟩
          · rw [hg] at h; cases h
          · exact h
        · refine ⟨hF D n, hL D n, 0, fun V hV => Hull_good b off n c D V (by omega) (by omega) (hD.below hV) hg, fun V hV => (rHull_some b off n c D V (by omega) (by omega) (hD.below hV)).mono fun e w' he => ?_⟩
          rcases he with ⟨_, h⟩ | ⟨h, _⟩
          · exact h
          · rw [hg] at h; cases h
theorem yearsBoth (a b n : Int) (w : World) (hT : Tab w) :
    ∃ F L E : Int, (∀ V, Below w.heap.size w V → Calls Tryd.prog 18 #[.agg #[.int .i64 a, .int .i64 b], .int .i64 n] V (DatE F L E V)) ∧
      (∀ V, Below w.heap.size w V → Calls Tryd.prog 19 #[.agg #[.int .i64 a, .int .i64 b], .int .i64 n] V (DatE F L E V)) := by
  cases hg : gd (a, b)
  · exact ⟨0, 0, 1, fun V _ => Dyears_bad a b n V hg, fun V _ => RDyears_bad a b n V hg⟩
  · by_cases hn : 0 ≤ n ∧ n ≤ 200
    · obtain ⟨a0, ab, b1⟩ := gd_t hg
      simp only at a0 ab b1
      obtain ⟨u, hu⟩ := YV.some a n a0 (by omega)
      obtain ⟨v, hv⟩ := YV.some b n (by omega) b1
      exact ⟨u, v, 0, fun V hV => Dyears_good a b n u v V (hT.below hV) hg hn.1 hn.2 hu hv, fun V _ => RDyears_good a b n u v V hg hn.1 hn.2 hu hv⟩
    · exact ⟨0, 0, 2, fun V _ => Dyears_range a b n V hg hn, fun V _ => RDyears_range a b n V hg hn⟩
theorem eqSame (u v : Int) (w : World) : (binOp .eql 23 (.agg #[.int .i64 u, .int .i64 v]) (.agg #[.int .i64 u, .int .i64 v])).run Tryd.prog w = .ok (.bool true) w := by
  have h := eqD u v u v w
  simpa using h

set_option maxRecDepth 100000 in
set_option maxHeartbeats 8000000 in
theorem DatingJoins_any (a b c d k : Int) (p : Option Addr) (n cap : Nat) (D : Nat → Int × Int) (w : World) (hT : Tab w) (hl : IsList w p n cap D) :
    Calls Tryd.prog 4 #[.agg #[.int .i64 a, .int .i64 b], .agg #[.int .i64 c, .int .i64 d], .slice p n cap, .int .i64 k] w fun e w' => e = .returned (.bool true) ∧ Below w.heap.size w w' := by
  have X0 := Pair.new w a b c d 23 23
  have g0 : Below w.heap.size w ((w.alloc (.cells #[.int .i64 a, .int .i64 b] 23)).alloc (.cells #[.int .i64 c, .int .i64 d] 23)) := ((Below.refl _ w).alloc (Nat.le_refl _) _).alloc (by simp) _
  have C0 := Lib.hid (awake_any _ (hT.below g0))
  obtain ⟨F1, L1, E1, c1, c2⟩ := yearsBoth a b k w hT
  obtain ⟨F3, L3, E3, c5, c6⟩ := hulls p n cap D w hl
  have C1 := Lib.hid c1
  have C2 := Lib.hid c2
  have C3 := Lib.hid (fun V (_ : Below w.heap.size w V) => Meet_any a b c d V)
  have C4 := Lib.hid (fun V (_ : Below w.heap.size w V) => rMeet_any a b c d V)
  have C5 := Lib.hid c5
  have C6 := Lib.hid c6
  generalize mtF a b c d = F2 at C3 C4
  generalize mtL a b c d = L2 at C3 C4
  generalize mtB a b c d = E2 at C3 C4
  have q1 := eqSame F1 L1
  have q2 := eqSame F2 L2
  have q3 := eqSame F3 L3
  have qg1 := eqDg F1 L1 F1 L1
  have qg2 := eqDg F2 L2 F2 L2
  have qg3 := eqDg F3 L3 F3 L3
  clear hT hl c1 c2 c5 c6
  by_cases h1 : n ≤ 40
  · have e1 : ¬ (40 : Int) < (n : Int) := by omega
    have e2 : ¬ (1034 : Int) < (n : Int) := by omega
    go_enter Tryd.func4, Tryd.ntmps4
    go_wp2_with fail
    generalize (w.alloc (.cells #[.int .i64 a, .int .i64 b] 23)).alloc (.cells #[.int .i64 c, .int .i64 d] 23) = W at X0 g0 C0 ⊢
    refine C0.out.mono ?_; rintro e w1 ⟨rfl, b1⟩
    have X1 := X0.below b1
    have g1 := g0.trans (b1.mono g0.size)
    clear X0 g0 C0 b1
    obtain ⟨k0, k1, k2, k3⟩ := X1.cells
    have X1 := Lib.hid X1
    go_wp2_with fail
    refine (C1.out _ g1).mono ?_; rintro e w11 ⟨rfl, b11⟩
    have AB := b11.alloc b11.size (.cells #[.int .i64 F1, .int .i64 L1] 23)
    have g21 := g1.trans (AB.mono g1.size)
    have X21 := Lib.hid (X1.out.below AB)
    have N121 := Lib.hid (Box2.new w11 (.int .i64 F1) (.int .i64 L1) 23)
    clear AB b11 C1 k0 k1 k2 k3 g1 X1 
    generalize hW21 : w11.alloc (.cells #[.int .i64 F1, .int .i64 L1] 23) = W21 at g21 X21 N121
    obtain ⟨k0, k1, k2, k3⟩ := X21.out.cells
    go_wp2_with fail
    refine (C2.out _ g21).mono ?_; rintro e w12 ⟨rfl, b12⟩
    have AB := b12.alloc b12.size (.cells #[.int .i64 F1, .int .i64 L1] 23)
    have g22 := g21.trans (AB.mono g21.size)
    have X22 := Lib.hid (X21.out.below AB)
    have N122 := Lib.hid (N121.out.below AB)
    have N222 := Lib.hid (Box2.new w12 (.int .i64 F1) (.int .i64 L1) 23)
    clear AB b12 C2 k0 k1 k2 k3 g21 X21 N121
    generalize hW22 : w12.alloc (.cells #[.int .i64 F1, .int .i64 L1] 23) = W22 at g22 X22 N122 N222
    obtain ⟨k0, k1, k2, k3⟩ := X22.out.cells
    go_wp2_with fail
    refine (C3.out _ g22).mono ?_; rintro e w13 ⟨rfl, b13⟩
    have AB := b13.alloc b13.size (.cells #[.int .i64 F2, .int .i64 L2] 23)
    have g23 := g22.trans (AB.mono g22.size)
    have X23 := Lib.hid (X22.out.below AB)
    have N123 := Lib.hid (N122.out.below AB)
    have N223 := Lib.hid (N222.out.below AB)
    have N323 := Lib.hid (Box2.new w13 (.int .i64 F2) (.int .i64 L2) 23)
    clear AB b13 C3 k0 k1 k2 k3 g22 X22 N122 N222
    generalize hW23 : w13.alloc (.cells #[.int .i64 F2, .int .i64 L2] 23) = W23 at g23 X23 N123 N223 N323
    obtain ⟨k0, k1, k2, k3⟩ := X23.out.cells
    go_wp2_with fail
    refine (C4.out _ g23).mono ?_; rintro e w14 ⟨rfl, b14⟩
    have AB := b14.alloc b14.size (.cells #[.int .i64 F2, .int .i64 L2] 23)
    have g24 := g23.trans (AB.mono g23.size)
    have X24 := Lib.hid (X23.out.below AB)
    have N124 := Lib.hid (N123.out.below AB)
    have N224 := Lib.hid (N223.out.below AB)
    have N324 := Lib.hid (N323.out.below AB)
    have N424 := Lib.hid (Box2.new w14 (.int .i64 F2) (.int .i64 L2) 23)
    clear AB b14 C4 k0 k1 k2 k3 g23 X23 N123 N223 N323
    generalize hW24 : w14.alloc (.cells #[.int .i64 F2, .int .i64 L2] 23) = W24 at g24 X24 N124 N224 N324 N424
    obtain ⟨k0, k1, k2, k3⟩ := X24.out.cells
    go_wp2_with fail
    refine (C5.out _ g24).mono ?_; rintro e w15 ⟨rfl, b15⟩
    have AB := b15.alloc b15.size (.cells #[.int .i64 F3, .int .i64 L3] 23)
    have g25 := g24.trans (AB.mono g24.size)
    have X25 := Lib.hid (X24.out.below AB)
    have N125 := Lib.hid (N124.out.below AB)
    have N225 := Lib.hid (N224.out.below AB)
    have N325 := Lib.hid (N324.out.below AB)
    have N425 := Lib.hid (N424.out.below AB)
    have N525 := Lib.hid (Box2.new w15 (.int .i64 F3) (.int .i64 L3) 23)
    clear AB b15 C5 k0 k1 k2 k3 g24 X24 N124 N224 N324 N424
    generalize hW25 : w15.alloc (.cells #[.int .i64 F3, .int .i64 L3] 23) = W25 at g25 X25 N125 N225 N325 N425 N525
    obtain ⟨k0, k1, k2, k3⟩ := X25.out.cells
    go_wp2_with fail
    refine (C6.out _ g25).mono ?_; rintro e w16 ⟨rfl, b16⟩
    have AB := b16.alloc b16.size (.cells #[.int .i64 F3, .int .i64 L3] 23)
    have g26 := g25.trans (AB.mono g25.size)
    have X26 := Lib.hid (X25.out.below AB)
    have N126 := Lib.hid (N125.out.below AB)
    have N226 := Lib.hid (N225.out.below AB)
    have N326 := Lib.hid (N325.out.below AB)
    have N426 := Lib.hid (N425.out.below AB)
    have N526 := Lib.hid (N525.out.below AB)
    have N626 := Lib.hid (Box2.new w16 (.int .i64 F3) (.int .i64 L3) 23)
    clear AB b16 C6 k0 k1 k2 k3 g25 X25 N125 N225 N325 N425 N525
    generalize hW26 : w16.alloc (.cells #[.int .i64 F3, .int .i64 L3] 23) = W26 at g26 X26 N126 N226 N326 N426 N526 N626
    obtain ⟨k0, k1, k2, k3⟩ := X26.out.cells
    obtain ⟨_, m1, n1, _⟩ := N126.out
    obtain ⟨_, m2, n2, _⟩ := N226.out
    obtain ⟨_, m3, n3, _⟩ := N326.out
    obtain ⟨_, m4, n4, _⟩ := N426.out
    obtain ⟨_, m5, n5, _⟩ := N526.out
    obtain ⟨_, m6, n6, _⟩ := N626.out
    clear k0 k1 k2 k3 X26
    go_wp2
    go_ret
    exact ⟨by first | rfl | (simp [*]; done), g26⟩
  · have e1 : (40 : Int) < (n : Int) := by omega
    by_cases h2 : n ≤ 1024
    · have e2 : (n : Int) ≤ 1024 := by omega
      go_enter Tryd.func4, Tryd.ntmps4
      go_wp2_with fail
      generalize (w.alloc (.cells #[.int .i64 a, .int .i64 b] 23)).alloc (.cells #[.int .i64 c, .int .i64 d] 23) = W at X0 g0 C0 ⊢
      refine C0.out.mono ?_; rintro e w1 ⟨rfl, b1⟩
      have X1 := X0.below b1
      have g1 := g0.trans (b1.mono g0.size)
      clear X0 g0 C0 b1
      go_wp2
      go_ret
      exact ⟨rfl, g1⟩
    · have e2 : ¬ (n : Int) ≤ 1024 := by omega
      by_cases h3 : n ≤ 1034
      · have e3 : ¬ (1034 : Int) < (n : Int) := by omega
        go_enter Tryd.func4, Tryd.ntmps4
        go_wp2_with fail
        generalize (w.alloc (.cells #[.int .i64 a, .int .i64 b] 23)).alloc (.cells #[.int .i64 c, .int .i64 d] 23) = W at X0 g0 C0 ⊢
        refine C0.out.mono ?_; rintro e w1 ⟨rfl, b1⟩
        have X1 := X0.below b1
        have g1 := g0.trans (b1.mono g0.size)
        clear X0 g0 C0 b1
        obtain ⟨k0, k1, k2, k3⟩ := X1.cells
        have X1 := Lib.hid X1
        go_wp2_with fail
        refine (C1.out _ g1).mono ?_; rintro e w11 ⟨rfl, b11⟩
        have AB := b11.alloc b11.size (.cells #[.int .i64 F1, .int .i64 L1] 23)
        have g21 := g1.trans (AB.mono g1.size)
        have X21 := Lib.hid (X1.out.below AB)
        have N121 := Lib.hid (Box2.new w11 (.int .i64 F1) (.int .i64 L1) 23)
        clear AB b11 C1 k0 k1 k2 k3 g1 X1 
        generalize hW21 : w11.alloc (.cells #[.int .i64 F1, .int .i64 L1] 23) = W21 at g21 X21 N121
        obtain ⟨k0, k1, k2, k3⟩ := X21.out.cells
        go_wp2_with fail
        refine (C2.out _ g21).mono ?_; rintro e w12 ⟨rfl, b12⟩
        have AB := b12.alloc b12.size (.cells #[.int .i64 F1, .int .i64 L1] 23)
        have g22 := g21.trans (AB.mono g21.size)
        have X22 := Lib.hid (X21.out.below AB)
        have N122 := Lib.hid (N121.out.below AB)
        have N222 := Lib.hid (Box2.new w12 (.int .i64 F1) (.int .i64 L1) 23)
        clear AB b12 C2 k0 k1 k2 k3 g21 X21 N121
        generalize hW22 : w12.alloc (.cells #[.int .i64 F1, .int .i64 L1] 23) = W22 at g22 X22 N122 N222
        obtain ⟨k0, k1, k2, k3⟩ := X22.out.cells
        go_wp2_with fail
        refine (C3.out _ g22).mono ?_; rintro e w13 ⟨rfl, b13⟩
        have AB := b13.alloc b13.size (.cells #[.int .i64 F2, .int .i64 L2] 23)
        have g23 := g22.trans (AB.mono g22.size)
        have X23 := Lib.hid (X22.out.below AB)
        have N123 := Lib.hid (N122.out.below AB)
        have N223 := Lib.hid (N222.out.below AB)
        have N323 := Lib.hid (Box2.new w13 (.int .i64 F2) (.int .i64 L2) 23)
        clear AB b13 C3 k0 k1 k2 k3 g22 X22 N122 N222
        generalize hW23 : w13.alloc (.cells #[.int .i64 F2, .int .i64 L2] 23) = W23 at g23 X23 N123 N223 N323
        obtain ⟨k0, k1, k2, k3⟩ := X23.out.cells
        go_wp2_with fail
        refine (C4.out _ g23).mono ?_; rintro e w14 ⟨rfl, b14⟩
        have AB := b14.alloc b14.size (.cells #[.int .i64 F2, .int .i64 L2] 23)
        have g24 := g23.trans (AB.mono g23.size)
        have X24 := Lib.hid (X23.out.below AB)
        have N124 := Lib.hid (N123.out.below AB)
        have N224 := Lib.hid (N223.out.below AB)
        have N324 := Lib.hid (N323.out.below AB)
        have N424 := Lib.hid (Box2.new w14 (.int .i64 F2) (.int .i64 L2) 23)
        clear AB b14 C4 k0 k1 k2 k3 g23 X23 N123 N223 N323
        generalize hW24 : w14.alloc (.cells #[.int .i64 F2, .int .i64 L2] 23) = W24 at g24 X24 N124 N224 N324 N424
        obtain ⟨k0, k1, k2, k3⟩ := X24.out.cells
        go_wp2_with fail
        refine (C5.out _ g24).mono ?_; rintro e w15 ⟨rfl, b15⟩
        have AB := b15.alloc b15.size (.cells #[.int .i64 F3, .int .i64 L3] 23)
        have g25 := g24.trans (AB.mono g24.size)
        have X25 := Lib.hid (X24.out.below AB)
        have N125 := Lib.hid (N124.out.below AB)
        have N225 := Lib.hid (N224.out.below AB)
        have N325 := Lib.hid (N324.out.below AB)
        have N425 := Lib.hid (N424.out.below AB)
        have N525 := Lib.hid (Box2.new w15 (.int .i64 F3) (.int .i64 L3) 23)
        clear AB b15 C5 k0 k1 k2 k3 g24 X24 N124 N224 N324 N424
        generalize hW25 : w15.alloc (.cells #[.int .i64 F3, .int .i64 L3] 23) = W25 at g25 X25 N125 N225 N325 N425 N525
        obtain ⟨k0, k1, k2, k3⟩ := X25.out.cells
        go_wp2_with fail
        refine (C6.out _ g25).mono ?_; rintro e w16 ⟨rfl, b16⟩
        have AB := b16.alloc b16.size (.cells #[.int .i64 F3, .int .i64 L3] 23)
        have g26 := g25.trans (AB.mono g25.size)
        have X26 := Lib.hid (X25.out.below AB)
        have N126 := Lib.hid (N125.out.below AB)
        have N226 := Lib.hid (N225.out.below AB)
        have N326 := Lib.hid (N325.out.below AB)
        have N426 := Lib.hid (N425.out.below AB)
        have N526 := Lib.hid (N525.out.below AB)
        have N626 := Lib.hid (Box2.new w16 (.int .i64 F3) (.int .i64 L3) 23)
        clear AB b16 C6 k0 k1 k2 k3 g25 X25 N125 N225 N325 N425 N525
        generalize hW26 : w16.alloc (.cells #[.int .i64 F3, .int .i64 L3] 23) = W26 at g26 X26 N126 N226 N326 N426 N526 N626
        obtain ⟨k0, k1, k2, k3⟩ := X26.out.cells
        obtain ⟨_, m1, n1, _⟩ := N126.out
        obtain ⟨_, m2, n2, _⟩ := N226.out
        obtain ⟨_, m3, n3, _⟩ := N326.out
        obtain ⟨_, m4, n4, _⟩ := N426.out
        obtain ⟨_, m5, n5, _⟩ := N526.out
        obtain ⟨_, m6, n6, _⟩ := N626.out
        clear k0 k1 k2 k3 X26
        go_wp2
        go_ret
        exact ⟨by first | rfl | (simp [*]; done), g26⟩
      · have e3 : (1034 : Int) < (n : Int) := by omega
        go_enter Tryd.func4, Tryd.ntmps4
        go_wp2_with fail
        generalize (w.alloc (.cells #[.int .i64 a, .int .i64 b] 23)).alloc (.cells #[.int .i64 c, .int .i64 d] 23) = W at X0 g0 C0 ⊢
        refine C0.out.mono ?_; rintro e w1 ⟨rfl, b1⟩
        have X1 := X0.below b1
        have g1 := g0.trans (b1.mono g0.size)
        clear X0 g0 C0 b1
        go_wp2
        go_ret
        exact ⟨rfl, g1⟩
end Go.Proofs.YtbllolalfmgfoaaDoor
