/- What is wrong with an office by itself. -/
import Derived.Test.YtlmgjgcdfhccaaaOC
namespace Go.Proofs.Ytlmgjgcdfhccaaa
open Go.RowKit Go.Shelf

/-- The first fault that an office has by itself. -/
def rngB (o : Of) : Bool := decide (1 ≤ o.id ∧ o.id ≤ 1073741824 ∧ spanB o.fr o.un = true ∧ o.nx.length ≤ 8)
def selfE (o : Of) : Int := if rngB o = true then (if nmL (bts o.nm) = true then 0 else 4) else 2
theorem rng_no {o : Of} (h : ¬ (1 ≤ o.id ∧ o.id ≤ 1073741824 ∧ spanB o.fr o.un = true ∧ o.nx.length ≤ 8)) : selfE o = 2 := by
  unfold selfE
  rw [show rngB o = false from decide_eq_false h]
  rfl
theorem rng_yes {o : Of} (h : 1 ≤ o.id ∧ o.id ≤ 1073741824 ∧ spanB o.fr o.un = true ∧ o.nx.length ≤ 8) : selfE o = if nmL (bts o.nm) = true then 0 else 4 := by
  unfold selfE
  rw [show rngB o = true from decide_eq_true h]
  rfl

theorem self_len {o : Of} (h : selfE o = 0) : o.nx.length ≤ 1000 := by
  by_cases g : 1 ≤ o.id ∧ o.id ≤ 1073741824 ∧ spanB o.fr o.un = true ∧ o.nx.length ≤ 8
  · have := g.2.2.2; omega
  · rw [rng_no g] at h; omega
set_option maxHeartbeats 4000000 in
theorem fault_any (o : Of) (w : World) (hw : Lw w) : Calls Try.prog 44 #[o.val] w fun e w' => e = .returned (.int .i64 (selfE o)) ∧ Below w.heap.size w w' := by
  have NO := Lib.hid (fun h => rng_no (o := o) h)
  have YES := Lib.hid (fun h => rng_yes (o := o) h)
  obtain ⟨E, hE⟩ : ∃ E, E = selfE o := ⟨_, rfl⟩
  rw [← hE] at NO YES ⊢
  clear hE
  obtain ⟨id, nm, fr, un, nx, p, c⟩ := o
  replace NO : Hid (¬ (1 ≤ id ∧ id ≤ 1073741824 ∧ spanB fr un = true ∧ nx.length ≤ 8) → E = 2) := NO
  replace YES : Hid (1 ≤ id ∧ id ≤ 1073741824 ∧ spanB fr un = true ∧ nx.length ≤ 8 → E = if nmL (bts nm) = true then 0 else 4) := YES
  show Calls Try.prog 44 #[.agg #[.int .i64 id, .string nm.1, .int .i64 fr, .int .i64 un, .slice p nx.length c]] w fun e w' => e = .returned (.int .i64 E) ∧ Below w.heap.size w w'
  obtain ⟨n, hnn⟩ : ∃ n, n = nx.length := ⟨_, rfl⟩
  rw [← hnn] at NO YES ⊢
  clear hnn
  obtain ⟨W, hW⟩ : ∃ W, W = w.alloc (.cells #[.int .i64 id, .string nm.1, .int .i64 fr, .int .i64 un, .slice p n c] 43) := ⟨_, rfl⟩
  have BW : Below w.heap.size w W := by rw [hW]; exact (Below.refl _ w).alloc (Nat.le_refl _) _
  have z0 : W.cell? ⟨w.heap.size, 0, none⟩ = some (.int .i64 id) := by rw [hW]; exact World.cell?_alloc_mark w _ _ (0, 0) 0
  have z1 : W.cell? ⟨w.heap.size, 1, none⟩ = some (.string nm.1) := by rw [hW]; exact World.cell?_alloc_mark w _ _ (0, 0) 1
  have z2 : W.cell? ⟨w.heap.size, 2, none⟩ = some (.int .i64 fr) := by rw [hW]; exact World.cell?_alloc_mark w _ _ (0, 0) 2
  have z3 : W.cell? ⟨w.heap.size, 3, none⟩ = some (.int .i64 un) := by rw [hW]; exact World.cell?_alloc_mark w _ _ (0, 0) 3
  have z4 : W.cell? ⟨w.heap.size, 4, none⟩ = some (.slice p n c) := by rw [hW]; exact World.cell?_alloc_mark w _ _ (0, 0) 4
  have zs : w.heap.size < W.heap.size := by rw [hW]; simp
  have SP := Lib.hid (isSpan_any fr un)
  have NM := Lib.hid (fun V hV => Name_any nm V hV)
  have HW := Lib.hid (hw.below BW)
  have HB := Lib.hid BW
  clear BW hw
  by_cases a : 1 ≤ id
  rotate_left
  · have N := Lib.hid (NO.out fun h => a h.1)
    have d0 : decide (id < 1) = true := by simp; omega
    clear z1 z2 z3 z4 a
    go_enter Try.func44, Try.ntmps44
    go_wp2_with fail
    rw [← hW]
    go_wp2_with fail
    go_ret
    exact ⟨by rw [N.out]; rfl, HB.out⟩
  have d0 : decide (id < 1) = false := by simp; omega
  by_cases b : id ≤ 1073741824
  rotate_left
  · have N := Lib.hid (NO.out fun h => b h.2.1)
    have d1 : decide (1073741824 < id) = true := by simp; omega
    clear z1 z2 z3 z4 a b
    go_enter Try.func44, Try.ntmps44
    go_wp2_with fail
    rw [← hW]
    go_wp2_with fail
    go_ret
    exact ⟨by rw [N.out]; rfl, HB.out⟩
  have d1 : decide (1073741824 < id) = false := by simp; omega
  by_cases g : spanB fr un = true
  rotate_left
  · have N := Lib.hid (NO.out fun h => g h.2.2.1)
    have g : spanB fr un = false := by simpa using g
    rw [g] at SP
    clear a b g
    go_enter Try.func44, Try.ntmps44
    go_wp2_with fail
    rw [← hW]
    clear hW
    go_wp2_with fail
    refine (SP.out _).mono ?_; rintro e w1 ⟨rfl, b1⟩
    have B1 := Lib.hid (HB.out.trans (b1.mono HB.out.size))
    clear b1
    go_wp2_with fail
    go_ret
    exact ⟨by rw [N.out]; rfl, B1.out⟩
  rw [g] at SP
  by_cases l : n ≤ 8
  rotate_left
  · have N := Lib.hid (NO.out fun h => l h.2.2.2)
    have d2 : decide (8 < (n : Int)) = true := by simp; omega
    clear a b g l
    go_enter Try.func44, Try.ntmps44
    go_wp2_with fail
    rw [← hW]
    clear hW
    go_wp2_with fail
    refine (SP.out _).mono ?_; rintro e w1 ⟨rfl, b1⟩
    have B1 := Lib.hid (HB.out.trans (b1.mono HB.out.size))
    have z4 := (b1.cell (p := ⟨w.heap.size, 4, none⟩) zs).trans z4
    clear b1
    go_wp2_with fail
    go_ret
    exact ⟨by rw [N.out]; rfl, B1.out⟩
  have d2 : decide (8 < (n : Int)) = false := by simp; omega
  have Y := Lib.hid (YES.out ⟨a, b, g, l⟩)
  clear a b g l NO YES
  go_enter Try.func44, Try.ntmps44
  go_wp2_with fail
  rw [← hW]
  clear hW
  go_wp2_with fail
  refine (SP.out _).mono ?_; rintro e w1 ⟨rfl, b1⟩
  have B1 := Lib.hid (HB.out.trans (b1.mono HB.out.size))
  have H1 := Lib.hid (HW.out.below b1)
  have z1 := (b1.cell (p := ⟨w.heap.size, 1, none⟩) zs).trans z1
  have z4 := (b1.cell (p := ⟨w.heap.size, 4, none⟩) zs).trans z4
  have N1 := Lib.hid (NM.out w1 H1.out)
  clear b1 SP NM
  go_wp2_with fail
  refine N1.out.mono ?_; rintro e w2 ⟨rfl, b2⟩
  have B2 := Lib.hid (B1.out.trans (b2.mono B1.out.size))
  clear b2 N1
  cases hq : nmL (bts nm) with
  | true =>
    rw [hq] at Y
    go_wp2_with fail
    go_ret
    exact ⟨by rw [Y.out]; rfl, B2.out⟩
  | false =>
    rw [hq] at Y
    go_wp2_with fail
    go_ret
    exact ⟨by rw [Y.out]; rfl, B2.out⟩
end Go.Proofs.Ytlmgjgcdfhccaaa
