/- The walk of DatingYears. -/
import Derived.Test.YtbllolalfmgfoaaDoorDO
import Derived.Test.YtbllolalfmgfoaaDoorDL
namespace Go.Proofs.YtbllolalfmgfoaaDoor
open Go.RowKit Go.Shelf

set_option maxRecDepth 100000 in
set_option maxHeartbeats 4000000 in
theorem DatingYears_bad (a b x n : Int) (w : World) (hT : Tab w) (n0 : 0 ≤ n) (n1 : n ≤ 255) (hg : gd (a, b) = false) :
    Calls Tryd.prog 8 #[.agg #[.int .i64 a, .int .i64 b], .int .u32 x, .int .u8 n] w fun e w' => e = .returned (.bool true) ∧ Below w.heap.size w w' := by
  have X0 := Box2.new w (.int .i64 a) (.int .i64 b) 23
  have g0 : Below w.heap.size w (w.alloc (.cells #[.int .i64 a, .int .i64 b] 23)) := (Below.refl _ w).alloc (Nat.le_refl _) _
  have C0 := Lib.hid (awake_any _ (hT.below g0))
  have CY := Lib.hid (fun V m => Dyears_bad a b m V hg)
  have CK := Lib.hid (fun V => Check_any a b V)
  rw [chk_f hg] at CK
  have m1 : IntKind.i64.wrap n = n := IntWalk.i64_in _ ⟨by omega, by omega⟩
  have m2 : n.tmod 201 = n % 201 := Int.tmod_eq_emod_of_nonneg n0
  have m3 : IntKind.i64.wrap (n % 201) = n % 201 := IntWalk.i64_in _ ⟨by omega, by omega⟩
  have q := eqD 0 0 0 0
  have qg := eqDg 0 0 0 0
  simp only [and_self, decide_true] at q
  clear hT hg
  go_enter Tryd.func8, Tryd.ntmps8
  go_wp2_with fail
  generalize w.alloc (.cells #[.int .i64 a, .int .i64 b] 23) = W at X0 g0 C0 ⊢
  refine C0.out.mono ?_; rintro e w1 ⟨rfl, b1⟩
  have X1 := X0.below b1
  have g1 := g0.trans (b1.mono g0.size)
  clear X0 g0 C0 b1
  have XH := Lib.hid X1
  obtain ⟨_, k0, k1, _⟩ := X1
  go_wp2_with fail
  refine (CY.out _ _).mono ?_; rintro e w2 ⟨rfl, b2⟩
  have X2 := XH.out.below b2
  have g2 := g1.trans (b2.mono g1.size)
  have N := Box2.new w2 (.int .i64 0) (.int .i64 0) 23
  have X3 := X2.below ((Below.refl _ w2).alloc (Nat.le_refl _) (.cells #[.int .i64 0, .int .i64 0] 23))
  have g3 := g2.alloc g2.size (.cells #[.int .i64 0, .int .i64 0] 23)
  clear X2 g2 g1 XH k0 k1 b2 CY
  have NH := Lib.hid N
  obtain ⟨_, k0, k1, _⟩ := X3
  obtain ⟨_, n0', n1', _⟩ := N
  go_wp2_with fail
  generalize w2.alloc (.cells #[.int .i64 0, .int .i64 0] 23) = W3 at g3 NH k0 k1 n0' n1' ⊢
  refine (CK.out _).mono ?_; rintro e w4 ⟨rfl, b4⟩
  have g4 := g3.trans (b4.mono g3.size)
  obtain ⟨_, j0, j1, _⟩ := NH.out.below b4
  clear g3 CK b4 k0 k1 n0' n1' NH
  go_wp2
  go_ret
  exact ⟨rfl, g4⟩

theorem two_same {v x : Int} {f : FuncId} {args : Array Value} {w : World} (h : Calls Tryd.prog f args w (Two v x w)) :
    Calls Tryd.prog f args w fun e w' => e = .returned (.tuple #[.int .i64 v, .int .i64 x]) ∧ w' = w := h.mono fun _ _ ⟨a, b⟩ => ⟨a, b.symm⟩

set_option maxRecDepth 100000 in
set_option maxHeartbeats 4000000 in
theorem DatingYears_any (a b x n : Int) (w : World) (hT : Tab w) (x0 : 0 ≤ x) (x1 : x < 4294967296) (n0 : 0 ≤ n) (n1 : n ≤ 255) :
    Calls Tryd.prog 8 #[.agg #[.int .i64 a, .int .i64 b], .int .u32 x, .int .u8 n] w fun e w' => e = .returned (.bool true) ∧ Below w.heap.size w w' := by
  cases hg : gd (a, b)
  · exact DatingYears_bad a b x n w hT n0 n1 hg
  obtain ⟨a0, ab, b1⟩ := gd_t hg
  simp only at a0 ab b1
  have kk : 0 ≤ n % 201 ∧ n % 201 ≤ 200 := by omega
  obtain ⟨p0, p1⟩ := pick_in a b x ab
  obtain ⟨u, hu⟩ := YV.some a (n % 201) a0 (by omega)
  obtain ⟨v, hv⟩ := YV.some b (n % 201) (by omega) b1
  obtain ⟨t, ht⟩ := YV.some (a + x % (b - a + 1)) (n % 201) (by omega) (by omega)
  have ut := YV.mono hu ht p0 kk.1
  have tv := YV.mono ht hv p1 kk.1
  have X0 := Box2.new w (.int .i64 a) (.int .i64 b) 23
  have g0 : Below w.heap.size w (w.alloc (.cells #[.int .i64 a, .int .i64 b] 23)) := (Below.refl _ w).alloc (Nat.le_refl _) _
  have C0 := Lib.hid (awake_any _ (hT.below g0))
  have CY := Lib.hid (fun V (hV : Below w.heap.size w V) => Dyears_good a b (n % 201) u v V (hT.below hV) hg kk.1 kk.2 hu hv)
  have C1 := Lib.hid (fun V (hV : Below w.heap.size w V) => hu.call a0 (by omega) kk.1 kk.2 V (hT.below hV))
  have C2 := Lib.hid (fun V (hV : Below w.heap.size w V) => hv.call (by omega) b1 kk.1 kk.2 V (hT.below hV))
  have C3 := Lib.hid (fun V (hV : Below w.heap.size w V) => two_same (ht.call (by omega) (by omega) kk.1 kk.2 V (hT.below hV)))
  have CK := Lib.hid (fun V => Check_any a b V)
  rw [chk_t hg] at CK
  have m1 : IntKind.i64.wrap n = n := IntWalk.i64_in _ ⟨by omega, by omega⟩
  have m2 : n.tmod 201 = n % 201 := Int.tmod_eq_emod_of_nonneg n0
  have m3 : IntKind.i64.wrap (n % 201) = n % 201 := IntWalk.i64_in _ ⟨by omega, by omega⟩
  obtain ⟨r1, r2, r3, r4, r5, r6, r7, r8⟩ := pick_nums a b x a0 ab b1 x0 x1
  have q := eqD u v u v
  have qg := eqDg u v u v
  simp only [and_self, decide_true] at q
  generalize n % 201 = k at *
  clear hT hg hu hv ht p0 p1 kk
  go_enter Tryd.func8, Tryd.ntmps8
  go_wp2_with fail
  generalize w.alloc (.cells #[.int .i64 a, .int .i64 b] 23) = W at X0 g0 C0 ⊢
  refine C0.out.mono ?_; rintro e w1 ⟨rfl, b1⟩
  have X1 := X0.below b1
  have g1 := g0.trans (b1.mono g0.size)
  clear X0 g0 C0 b1
  have XH := Lib.hid X1
  obtain ⟨_, k0, k1, _⟩ := X1
  go_wp2_with fail
  refine (CY.out _ g1).mono ?_; rintro e w2 ⟨rfl, b2⟩
  have X2 := XH.out.below b2
  have g2 := g1.trans (b2.mono g1.size)
  have N := Box2.new w2 (.int .i64 u) (.int .i64 v) 23
  have X3 := X2.below ((Below.refl _ w2).alloc (Nat.le_refl _) (.cells #[.int .i64 u, .int .i64 v] 23))
  have g3 := g2.alloc g2.size (.cells #[.int .i64 u, .int .i64 v] 23)
  clear X2 g2 g1 XH k0 k1 b2 CY
  have NH := Lib.hid N
  have XH := Lib.hid X3
  obtain ⟨_, k0, k1, _⟩ := X3
  clear N
  go_wp2_with fail
  generalize w2.alloc (.cells #[.int .i64 u, .int .i64 v] 23) = W3 at g3 NH XH k0 k1 ⊢
  refine (CK.out _).mono ?_; rintro e w4 ⟨rfl, b4⟩
  have g4 := g3.trans (b4.mono g3.size)
  obtain ⟨_, j0, j1, _⟩ := NH.out.below b4
  obtain ⟨_, i0, i1, _⟩ := XH.out.below b4
  clear g3 CK b4 k0 k1 NH XH
  have C3' := Lib.hid (fun m => C3.out (w4.drewN m) (g4.trans ((below_drewN w4 m).mono g4.size)))
  have C1' := Lib.hid (fun m => C1.out (w4.drewN m) (g4.trans ((below_drewN w4 m).mono g4.size)))
  have C2' := Lib.hid (fun m => C2.out (w4.drewN m) (g4.trans ((below_drewN w4 m).mono g4.size)))
  have G4 := Lib.hid (fun m => g4.trans ((below_drewN w4 m).mono g4.size))
  clear C1 C2 C3 g4
  go_wp2_with fail
  go_quiet ((go_at_call 28; refine Calls.quiet_of_same (C3'.out _)))
  go_wp2_with fail
  refine (C1'.out _).mono ?_; rintro e w5 ⟨rfl, rfl⟩
  go_wp2_with fail
  refine (C2'.out _).mono ?_; rintro e w5 ⟨rfl, rfl⟩
  go_wp2
  go_ret
  exact ⟨rfl, G4.out _⟩
end Go.Proofs.YtbllolalfmgfoaaDoor
