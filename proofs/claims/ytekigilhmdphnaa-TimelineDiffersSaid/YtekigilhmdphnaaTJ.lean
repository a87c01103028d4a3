/- replaced at the chapter's example. -/
import Derived.Test.YtekigilhmdphnaaTK
namespace Go.Proofs.Ytekigilhmdphnaa
open Go.RowKit Go.Shelf

/-- What replaced keeps while it runs: its boxes, the piece. -/
def St (u : World) (A D F b : Nat) (df du : Int) (W : World) : Prop :=
  W.cell? ⟨A, 0, none⟩ = some (.slice (some ⟨b, 0, none⟩) 1 1) ∧ W.cell? ⟨D, 0, none⟩ = some (.int .i64 df) ∧ W.cell? ⟨D, 1, none⟩ = some (.int .i64 du) ∧ W.cell? ⟨F, 0, none⟩ = some (.int .i64 0) ∧ Ex W b ∧ (A < u.heap.size ∧ D < u.heap.size ∧ F < u.heap.size ∧ b < u.heap.size ∧ Below u.heap.size u W)
theorem St.go {u : World} {A D F b : Nat} {df du : Int} {W V : World} (h : St u A D F b df du W) (hb : Below W.heap.size W V) : St u A D F b df du V := by
  obtain ⟨h1, h2, h3, h4, h5, h6, h7, h8, h9, h10⟩ := h
  have z := h10.size
  exact ⟨(hb.cell (p := ⟨A, 0, none⟩) (Nat.lt_of_lt_of_le h6 z)).trans h1, (hb.cell (p := ⟨D, 0, none⟩) (Nat.lt_of_lt_of_le h7 z)).trans h2, (hb.cell (p := ⟨D, 1, none⟩) (Nat.lt_of_lt_of_le h7 z)).trans h3, (hb.cell (p := ⟨F, 0, none⟩) (Nat.lt_of_lt_of_le h8 z)).trans h4, h5.below hb, h6, h7, h8, h9, h10.trans (hb.mono z)⟩

theorem St.go' {u : World} {A D F b : Nat} {df du : Int} {W V : World} (h : St u A D F b df du W) (hb : Below u.heap.size W V) : St u A D F b df du V := by
  obtain ⟨h1, h2, h3, h4, h5, h6, h7, h8, h9, h10⟩ := h
  exact ⟨(hb.cell (p := ⟨A, 0, none⟩) h6).trans h1, (hb.cell (p := ⟨D, 0, none⟩) h7).trans h2, (hb.cell (p := ⟨D, 1, none⟩) h7).trans h3, (hb.cell (p := ⟨F, 0, none⟩) h8).trans h4,
    ⟨Nat.lt_of_lt_of_le h5.1 hb.size, (hb.cell (p := ⟨b, 0, none⟩) h9).trans h5.2.1, (hb.cell (p := ⟨b, 1, none⟩) h9).trans h5.2.2.1, (hb.cell (p := ⟨b, 2, none⟩) h9).trans h5.2.2.2⟩, h6, h7, h8, h9, h10.trans hb⟩
theorem St.size {u : World} {A D F b : Nat} {df du : Int} {W : World} (h : St u A D F b df du W) : u.heap.size ≤ W.heap.size := h.2.2.2.2.2.2.2.2.2.size
/-- Three cells in a row, as what is appended. -/
theorem news3 {w : World} {g : Nat} {y : Pc} (h : Box3 w g y) : ∀ j u, [Value.int .i64 y.f, .int .i64 y.u, .int .i64 y.v][j]? = some u → w.cell? ((⟨g, 0, none⟩ : Addr).add j) = some u := fun j u hj => by
  rw [Addr.add_lit, Nat.zero_add]
  match j, hj with
  | 0, hj => simp at hj; subst hj; exact h.2.1
  | 1, hj => simp at hj; subst hj; exact h.2.2.1
  | 2, hj => simp at hj; subst hj; exact h.2.2.2
theorem one3L (a b c : Int) : ∀ u ∈ [Value.int .i64 a, .int .i64 b, .int .i64 c], u.oneCell' = true := fun v hv => by
  simp only [List.mem_cons, List.not_mem_nil, or_false] at hv
  rcases hv with rfl | rfl | rfl <;> rfl
theorem St.keep {u : World} {A D F b : Nat} {df du : Int} {W : World} {f : FuncId} {args : Array Value} {v : Value} (hS : W.cell? ⟨A, 0, none⟩ = some (.slice (some ⟨b, 0, none⟩) 1 1) ∧ W.cell? ⟨F, 0, none⟩ = some (.int .i64 0) ∧ St u A D F b df du W)
    (h : Calls Try.prog f args W fun e w' => e = .returned v ∧ Below W.heap.size W w') : Calls Try.prog f args W fun e w' => e = .returned v ∧ (w'.cell? ⟨A, 0, none⟩ = some (.slice (some ⟨b, 0, none⟩) 1 1) ∧ w'.cell? ⟨F, 0, none⟩ = some (.int .i64 0) ∧ St u A D F b df du w') ∧ Below W.heap.size W w' :=
  h.mono fun _ _ ⟨he, hb⟩ => ⟨he, ⟨(hS.2.2.go hb).1, (hS.2.2.go hb).2.2.2.1, hS.2.2.go hb⟩, hb⟩
theorem St.search {u : World} {A D F b : Nat} {df du : Int} {W : World} (h : St u A D F b df du W) (hd : 10 < du) :
    Calls Try.prog 48 #[.int .i64 1, .func (.func 49) #[] #[.pointer (some ⟨A, 0, none⟩), .pointer (some ⟨F, 0, none⟩), .pointer (some ⟨D, 0, none⟩)]] W fun e w' => e = .returned (.int .i64 1) ∧ Below W.heap.size W w' := by
  obtain ⟨h1, h2, h3, h4, h5, h6, h7, h8, h9, h10⟩ := h
  have z := h10.size
  exact Search_ex A F D b du W h5 h1 h4 h3 (Nat.lt_of_lt_of_le h6 z) (Nat.lt_of_lt_of_le h8 z) (Nat.lt_of_lt_of_le h7 z) hd

set_option maxRecDepth 10000 in
set_option maxHeartbeats 4000000 in
theorem replaced_set (b bw : Nat) (w : World) (h : Ex w b) (hw : Box3 w bw ⟨15, 25, 2⟩) :
    Calls Try.prog 38 #[.slice (some ⟨b, 0, none⟩) 1 1, .agg #[.int .i64 15, .int .i64 25], .slice (some ⟨bw, 0, none⟩) 1 1] w fun e w' => ∃ v, e = .returned v ∧ w'.ownsRow w.heap.size 47 3 v 2 [.int .i64 10, .int .i64 15, .int .i64 1, .int .i64 15, .int .i64 25, .int .i64 2] ∧ Below w.heap.size w w' := by
  have B0 := ((Below.refl w.heap.size w).alloc (Nat.le_refl _) (.cells #[.slice (some ⟨b, 0, none⟩) 1 1] 22)).alloc (by simp) (.cells #[.int .i64 15, .int .i64 25] 33)
  have E0 := h.below B0
  have W0 := hw.below B0
  have C0 := Lib.hid (fun V => ended_ex b 15 V)
  have a0 : ((w.alloc (.cells #[.slice (some ⟨b, 0, none⟩) 1 1] 22)).alloc (.cells #[.int .i64 15, .int .i64 25] 33)).cell? ⟨w.heap.size, 0, none⟩ = some (.slice (some ⟨b, 0, none⟩) 1 1) := by simp
  have d0 : ((w.alloc (.cells #[.slice (some ⟨b, 0, none⟩) 1 1] 22)).alloc (.cells #[.int .i64 15, .int .i64 25] 33)).cell? ⟨w.heap.size + 1, 0, none⟩ = some (.int .i64 15) := by simp
  have d1 : ((w.alloc (.cells #[.slice (some ⟨b, 0, none⟩) 1 1] 22)).alloc (.cells #[.int .i64 15, .int .i64 25] 33)).cell? ⟨w.heap.size + 1, 1, none⟩ = some (.int .i64 25) := by simp
  have z0 : ((w.alloc (.cells #[.slice (some ⟨b, 0, none⟩) 1 1] 22)).alloc (.cells #[.int .i64 15, .int .i64 25] 33)).heap.size = w.heap.size + 2 := by simp
  have E0 := Lib.hid E0
  have W0 := Lib.hid W0
  have B0 := Lib.hid B0
  have Z0 := Lib.hid z0
  clear h hw z0
  go_enter Try.func38, Try.ntmps38
  go_wp2_with fail
  generalize (w.alloc (.cells #[.slice (some ⟨b, 0, none⟩) 1 1] 22)).alloc (.cells #[.int .i64 15, .int .i64 25] 33) = w1 at *
  refine (C0.out w1 E0.out (by decide)).mono ?_; rintro e w2 ⟨rfl, b2⟩
  have B2 := B0.out.trans (b2.mono B0.out.size)
  have bl : b < w1.heap.size := E0.out.1
  have hS : St w2 w.heap.size (w.heap.size + 1) w2.heap.size b 15 25 w2 ∨ True := Or.inr trivial
  clear hS
  have al := (Below.refl w2.heap.size w2).alloc (Nat.le_refl _) (.cells #[.int .i64 0] 3)
  have b3 := b2.trans (al.mono b2.size)
  have s0 : St (w2.alloc (.cells #[.int .i64 0] 3)) w.heap.size (w.heap.size + 1) w2.heap.size b 15 25 (w2.alloc (.cells #[.int .i64 0] 3)) :=
    ⟨(b3.cell (p := ⟨w.heap.size, 0, none⟩) (by rw [Z0.out]; simp)).trans a0, (b3.cell (p := ⟨w.heap.size + 1, 0, none⟩) (by rw [Z0.out]; simp)).trans d0, (b3.cell (p := ⟨w.heap.size + 1, 1, none⟩) (by rw [Z0.out]; simp)).trans d1, by simp, E0.out.below b3,
      by have := b2.size; have := Z0.out; simp; omega, by have := b2.size; have := Z0.out; simp; omega, by simp, by have := b2.size; simp; omega, Below.refl _ _⟩
  have W3 := Lib.hid (W0.out.below b3)
  have B3 := Lib.hid (B0.out.trans (b3.mono B0.out.size))
  have S0 := Lib.hid s0
  clear a0 d0 d1 C0 B2 bl al b3 s0 E0 W0 B0 b2
  go_upto_region 2 with (fail)
  generalize w2.alloc (.cells #[.int .i64 0] 3) = w4 at *
  generalize w2.heap.size = F at *
  clear Z0
  have v1 : IntKind.i64.wrap 1 = 1 := by decide
  have hS0 := Lib.hid (show w4.drew.cell? ⟨w.heap.size, 0, none⟩ = some (.slice (some ⟨b, 0, none⟩) 1 1) ∧ w4.drew.cell? ⟨F, 0, none⟩ = some (.int .i64 0) ∧ St w4 w.heap.size (w.heap.size + 1) F b 15 25 w4.drew from ⟨S0.out.1, S0.out.2.2.2.1, S0.out.go (Below.refl _ w4).drew⟩)
  go_region_held3 (fun W => W.cell? ⟨w.heap.size, 0, none⟩ = some (.slice (some ⟨b, 0, none⟩) 1 1) ∧ W.cell? ⟨F, 0, none⟩ = some (.int .i64 0) ∧ St w4 w.heap.size (w.heap.size + 1) F b 15 25 W)
    (first | assumption | exact hS0.out)
    ((go_at_call 48; refine (St.keep (by assumption) (St.search (u := w4) (A := w.heap.size) (D := w.heap.size + 1) (F := F) (b := b) (df := 15) (du := 25) (by first | exact hS0.out.2.2 | assumption) (by decide))).mono ?_; rintro e w5 ⟨rfl, hS5, b5⟩))
  have W5 := Lib.hid (W3.out.below hS5.2.2.2.2.2.2.2.2.2.2.2)
  have B5 := Lib.hid (B3.out.trans (hS5.2.2.2.2.2.2.2.2.2.2.2.mono B3.out.size))
  have S5 := Lib.hid hS5.2.2
  clear hS5 b5 hS0 W3 B3 S0
  obtain ⟨h1, h2, h3, h4, h5, h6, h7, h8, h9, h10⟩ := S5.out
  obtain ⟨_, k0, k1, k2⟩ := h5
  clear h6 h7 h8 h9 h10
  go_wp2_with fail
  go_quiet (fail)
  have S6 := Lib.hid (S5.out.go (BdN (Below.refl _ w5) nq))
  have W6 := Lib.hid (W5.out.below (BdN (Below.refl _ w5) nq))
  have B6 := Lib.hid (BdN B5.out nq)
  clear h1 h2 h3 h4 k0 k1 k2 S5 W5 B5
  generalize w5.drewN nq = w6 at *
  obtain ⟨h1, h2, h3, h4, h5, h6, h7, h8, h9, h10⟩ := S6.out
  obtain ⟨_, k0, k1, k2⟩ := h5
  clear h6 h7 h8 h9 h10
  go_upto_region 6 with (fail)
  have al := (Below.refl w6.heap.size w6).alloc (Nat.le_refl _) (.cells #[.int .i64 10, .int .i64 20, .int .i64 1] 47)
  have BX := Box3.new w6 ⟨10, 20, 1⟩ 47
  have fz : (w6.alloc (.cells #[.int .i64 10, .int .i64 20, .int .i64 1] 47)).frozen? ⟨w6.heap.size, 1, none⟩ = false := by simp
  clear h1 h2 h3 h4 k0 k1 k2
  obtain ⟨h1, h2, h3, h4, h5, h6, h7, h8, h9, h10⟩ := S6.out.go al
  clear h1 h3 h4 h5 h6 h7 h8 h9 h10
  have al2 := al.setCell (p := ⟨w6.heap.size, 1, none⟩) (Nat.le_refl _) (.int .i64 15)
  have S8 := Lib.hid (S6.out.go al2)
  have W8 := Lib.hid (W6.out.below al2)
  have B8 := Lib.hid (B6.out.trans (al2.mono B6.out.size))
  have hBk : w.heap.size ≤ w6.heap.size := B6.out.size
  generalize w6.alloc (.cells #[.int .i64 10, .int .i64 20, .int .i64 1] 47) = w7 at *
  have nz : ∀ o o', o ≠ o' → (⟨w6.heap.size, o, none⟩ : Addr) ≠ ⟨w6.heap.size, o', none⟩ := fun o o' ho e => ho (by injection e)
  have BX8 : Box3 (w7.setCell ⟨w6.heap.size, 1, none⟩ (.int .i64 15)) w6.heap.size ⟨10, 15, 1⟩ :=
    ⟨by simpa [World.setCell] using BX.1, by rw [World.cell?_setCell_other _ _ _ _ (nz 1 0 (by decide))]; exact BX.2.1, World.cell?_setCell_same' _ _ _ (by rw [BX.2.2.1]; rfl), by rw [World.cell?_setCell_other _ _ _ _ (nz 1 2 (by decide))]; exact BX.2.2.2⟩
  have BX8 := Lib.hid BX8
  have c1 := BX.2.2.1
  clear al al2 nz BX S6 W6 B6
  go_upto_region 7 with (fail)
  generalize w7.setCell ⟨w6.heap.size, 1, none⟩ (.int .i64 15) = w8 at *
  generalize w6.heap.size = Bk at *
  clear c1 fz h2
  obtain ⟨i0, hi, hz0, hz1, hz2⟩ := info_parts (P := Try.prog) (e := 47) (z := .agg #[.int .i64 0, .int .i64 0, .int .i64 0]) (size := 3) (bytes := 24) (by kernel_rfl)
  have US : Try.prog.underlying 22 = some (.slice 47) := by kernel_rfl
  obtain ⟨_, x0, x1, x2⟩ := BX8.out
  have NB := Box3.new w8 ⟨10, 15, 1⟩ 47
  have al := (Below.refl w8.heap.size w8).alloc (Nat.le_refl _) (.cells #[.int .i64 10, .int .i64 15, .int .i64 1] 47)
  have S9 := Lib.hid (S8.out.go al)
  have W9 := Lib.hid (W8.out.below al)
  have B9 := Lib.hid (B8.out.trans (al.mono B8.out.size))
  obtain ⟨K, hK⟩ : ∃ K, K = (w8.alloc (.cells #[.int .i64 10, .int .i64 15, .int .i64 1] 47)).heap.size := ⟨_, rfl⟩
  have K1 : w.heap.size ≤ K := by rw [hK]; exact B9.out.size
  have K2 : w4.heap.size ≤ K := by rw [hK]; exact S9.out.size
  have HK := Lib.hid hK
  clear al S8 W8 B8 hK
  go_wp2_with (at_builtin; refine wpList_append_own _ rfl (.tmp 47) (.tmp 49) 22 rfl K 47 i0 (.agg #[.int .i64 0, .int .i64 0, .int .i64 0]) 3 24 US hi hz0 hz1 hz2 rfl (by decide) _ 0 [] rfl (World.ownsRow_nil _ _ _ _) ⟨w8.heap.size, 0, none⟩ 1 1 [.int .i64 10, .int .i64 15, .int .i64 1] rfl rfl (news3 NB) (one3L _ _ _) (by decide) (by decide) (Nat.le_of_eq HK.out) ?_)
  intro v10 w10 own10 grow10 hn10
  have g10 := (Below.refl _ (w8.alloc (.cells #[.int .i64 10, .int .i64 15, .int .i64 1] 47))).grown grow10 (Nat.le_refl _) (fun k hk => by cases hk)
  have S10 := Lib.hid (S9.out.go g10)
  have W10 := Lib.hid (W9.out.below g10)
  have B10 := Lib.hid (B9.out.trans (g10.mono B9.out.size))
  have own10 := Lib.hid own10
  have K10 : K ≤ w10.heap.size := by rw [HK.out]; exact g10.size
  clear g10 S9 W9 B9 grow10 hn10 NB x0 x1 x2 BX8
  go_wp2_with (at_builtin; refine wpList_append_own _ rfl (.tmp 51) (.tmp 52) 22 rfl K 47 i0 (.agg #[.int .i64 0, .int .i64 0, .int .i64 0]) 3 24 US hi hz0 hz1 hz2 rfl (by decide) _ (0 + 1) _ rfl own10.out ⟨bw, 0, none⟩ 1 1 [.int .i64 15, .int .i64 25, .int .i64 2] rfl rfl (news3 W10.out) (one3L _ _ _) (by decide) (by decide) K10 ?_)
  intro v11 w11 own11 grow11 hn11
  have hob := (own10.out).lt
  have g11 : Below K w10 w11 := (Below.refl _ w10).grown grow11 K10 (fun k hk => (hob k hk).1)
  have S11 := Lib.hid (S10.out.go' (g11.mono K2))
  have B11 := Lib.hid (B10.out.trans (g11.mono K1))
  have K11 : K ≤ w11.heap.size := Nat.le_trans K10 g11.size
  have own11 := Lib.hid own11
  clear g11 S10 W10 B10 own10 grow11 hob hn11 K10 HK
  obtain ⟨h1, h2, h3, h4, h5, h6, h7, h8, h9, h10⟩ := S11.out
  obtain ⟨_, k0, k1, k2⟩ := h5
  clear h6 h7 h8 h9 h10
  have v0 : IntKind.i64.wrap (1 - 1) = 0 := by decide
  go_upto_region 9 with (fail)
  go_quiet (fail)
  have S12 := Lib.hid (S11.out.go (BdN (Below.refl _ w11) nq))
  have B12 := Lib.hid (BdN B11.out nq)
  have own12 : Hid ((w11.drewN nq).ownsRow K 47 3 v11 (0 + 1 + 1) ([] ++ [.int .i64 10, .int .i64 15, .int .i64 1] ++ [.int .i64 15, .int .i64 25, .int .i64 2])) := own11
  have K12 : K ≤ (w11.drewN nq).heap.size := K11
  clear h1 h2 h3 h4 k0 k1 k2 S11 B11 own11 K11
  generalize w11.drewN nq = w12 at *
  obtain ⟨h1, h2, h3, h4, h5, h6, h7, h8, h9, h10⟩ := S12.out
  obtain ⟨_, k0, k1, k2⟩ := h5
  clear h6 h7 h8 h9 h10
  have mk : (Instr.makeSlice 22 (.int .i64 1) (.int .i64 1)).run Try.prog w12 = .ok (.slice (some ⟨w12.heap.size, 0, none⟩) 1 1) (w12.alloc (.cells #[.int .i64 0, .int .i64 0, .int .i64 0] 47)) := by
    have := run_make (P := Try.prog) w12 22 47 i0 _ US hi hz0 .i64 .i64 1 1 (by decide) (by decide) (by rw [hz2]; decide) (by decide)
    rw [hz1, show madeCells (Value.agg #[.int .i64 0, .int .i64 0, .int .i64 0]).cells (Int.toNat 1 * 3) = #[.int .i64 0, .int .i64 0, .int .i64 0] from by kernel_rfl] at this
    exact this
  have NB := Box3.new w12 ⟨0, 0, 0⟩ 47
  have th : (w12.alloc (.cells #[.int .i64 0, .int .i64 0, .int .i64 0] 47)).there w12.heap.size 0 3 := fun j hj => by
    rw [Nat.zero_add]
    have hg := heap_alloc_new w12 (.cells #[.int .i64 0, .int .i64 0, .int .i64 0] 47)
    rw [cell_of_row _ _ j _ _ (0, 0) hg]
    exact ⟨by rw [Array.getElem?_eq_getElem (by simpa using hj)]; rfl, frozen_of_row _ _ j _ _ hg⟩
  have al := (Below.refl w12.heap.size w12).alloc (Nat.le_refl _) (.cells #[.int .i64 0, .int .i64 0, .int .i64 0] 47)
  go_upto_region 14 with (fail)
  have S13 := Lib.hid (S12.out.go al)
  have E13 := S13.out.2.2.2.2.1
  have TH := Lib.hid th
  obtain ⟨h1, h2, h3, h4, _⟩ := S13.out
  clear mk k0 k1 k2 h2 h3
  have hsrc : ∀ j u, [Value.int .i64 10, .int .i64 20, .int .i64 1][j]? = some u → (w12.alloc (.cells #[.int .i64 0, .int .i64 0, .int .i64 0] 47)).cell? ((⟨b, 0, none⟩ : Addr).add j) = some u := news3 (y := ⟨10, 20, 1⟩) E13
  have hg0 := heap_alloc_new w12 (.cells #[.int .i64 0, .int .i64 0, .int .i64 0] 47)
  obtain ⟨cur, hg1, hg2⟩ := row_setCells [Value.int .i64 10, .int .i64 20, .int .i64 1] 0 hg0
  have al14 : Below w12.heap.size w12 ((w12.alloc (.cells #[.int .i64 0, .int .i64 0, .int .i64 0] 47)).setCells w12.heap.size 0 [.int .i64 10, .int .i64 20, .int .i64 1]) := below_setCells (Nat.le_refl _) _ _ al
  have S14 := Lib.hid (S12.out.go al14)
  have B14 := Lib.hid (B12.out.trans (al14.mono B12.out.size))
  obtain ⟨gv, cv, rfl, _, hgv, _, _, hcells, _⟩ := owned own12.out (by decide)
  have N14 : ∀ j u, [Value.int .i64 10, .int .i64 15, .int .i64 1, .int .i64 15, .int .i64 25, .int .i64 2][j]? = some u → ((w12.alloc (.cells #[.int .i64 0, .int .i64 0, .int .i64 0] 47)).setCells w12.heap.size 0 [.int .i64 10, .int .i64 20, .int .i64 1]).cell? ((⟨gv, 0, none⟩ : Addr).add j) = some u := fun j u hj => by
    rw [Addr.add_lit, Nat.zero_add, al14.cell (p := ⟨gv, j, none⟩) hgv]
    exact hcells j u hj
  have RT := Replace_tail w12.heap.size gv cv 2 w.heap.size _ _ (by decide) (by decide) rfl B14.out.size (ownsRow_begin (B12.out.size) hg1 1 hg2 (by decide)) N14 (fun u hu => by
    simp only [List.mem_cons, List.not_mem_nil, or_false] at hu
    rcases hu with rfl | rfl | rfl | rfl | rfl | rfl <;> rfl)
  have RT := Lib.hid RT
  have HSRC := Lib.hid hsrc
  clear hsrc hg0 hg1 hg2 al al14 hcells hgv N14 own12 th
  go_upto_region 15 with (refine wpList_copy_wide rfl (.tmp 85) (.tmp 86) 22 22 rfl 47 3 US (by kernel_rfl) w12.heap.size 0 1 1 ⟨b, 0, none⟩ 1 1 rfl rfl [.int .i64 10, .int .i64 20, .int .i64 1] rfl HSRC.out TH.out (one3L _ _ _) ?_)
  obtain ⟨h1, h2, h3, h4, _⟩ := S14.out
  clear h1 h2 h3
  generalize (w12.alloc (.cells #[.int .i64 0, .int .i64 0, .int .i64 0] 47)).setCells w12.heap.size 0 [.int .i64 10, .int .i64 20, .int .i64 1] = w14 at *
  go_wp2_with fail
  refine RT.out.mono ?_; rintro e w15 ⟨v, rfl, o15, b15⟩
  have O15 := Lib.hid o15
  have B15 := Lib.hid (B14.out.trans b15)
  clear o15 b15 RT h4
  go_wp2_with fail
  go_ret
  exact ⟨_, rfl, O15.out, B15.out⟩
end Go.Proofs.Ytekigilhmdphnaa
