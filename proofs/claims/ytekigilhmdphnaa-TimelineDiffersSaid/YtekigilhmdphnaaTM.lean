/- Set and Clear at the chapter's example. -/
import Derived.Test.YtekigilhmdphnaaTL
namespace Go.Proofs.Ytekigilhmdphnaa
open Go.RowKit Go.Shelf

theorem ck_ex : ckE (fun _ => ⟨10, 20, 1⟩) 1 = 0 := by decide
theorem Check_ex (b : Nat) (w : World) (h : Ex w b) : Calls Try.prog 16 #[.slice (some ⟨b, 0, none⟩) 1 1] w fun e w' => e = .returned (.int .i64 0) ∧ Below w.heap.size w w' := by
  have := Check_some b 0 1 1 _ w (by decide) h.pcs
  rw [ck_ex] at this
  exact this
set_option maxHeartbeats 1000000 in
theorem checkChange_ex (b : Nat) (f u : Int) (w : World) (h : Ex w b) (hs : spanB f u = true) :
    Calls Try.prog 35 #[.slice (some ⟨b, 0, none⟩) 1 1, .agg #[.int .i64 f, .int .i64 u]] w fun e w' => e = .returned (.int .i64 0) ∧ Below w.heap.size w w' := by
  have al := (Below.refl w.heap.size w).alloc (Nat.le_refl _) (.cells #[.int .i64 f, .int .i64 u] 33)
  have C := Lib.hid (Check_ex b _ (h.below al))
  have d0 : (w.alloc (.cells #[.int .i64 f, .int .i64 u] 33)).cell? ⟨w.heap.size, 0, none⟩ = some (.int .i64 f) := by simp
  have d1 : (w.alloc (.cells #[.int .i64 f, .int .i64 u] 33)).cell? ⟨w.heap.size, 1, none⟩ = some (.int .i64 u) := by simp
  have z : w.heap.size < (w.alloc (.cells #[.int .i64 f, .int .i64 u] 33)).heap.size := by simp
  have I := isSpan_any f u
  rw [hs] at I
  have I := Lib.hid I
  have AL := Lib.hid al
  clear h hs al
  go_enter Try.func35, Try.ntmps35
  go_wp2_with fail
  refine C.out.mono ?_; rintro e w1 ⟨rfl, b1⟩
  have d0 := (b1.cell (p := ⟨w.heap.size, 0, none⟩) z).trans d0
  have d1 := (b1.cell (p := ⟨w.heap.size, 1, none⟩) z).trans d1
  have B1 := Lib.hid (AL.out.trans (b1.mono AL.out.size))
  clear b1 C
  go_wp2_with fail
  refine (I.out _).mono ?_; rintro e w2 ⟨rfl, b2⟩
  have B2 := Lib.hid (B1.out.trans (b2.mono B1.out.size))
  clear b2
  go_wp2_with fail
  go_ret
  exact ⟨rfl, B2.out⟩

/-- Two pieces in a row of one's own. -/
def two (p q : Pc) : Nat → Pc := fun j => if j = 0 then p else q
theorem own_two {w : World} {K : Nat} {v : Value} {p q : Pc} (h : w.ownsRow K 47 3 v 2 [.int .i64 p.f, .int .i64 p.u, .int .i64 p.v, .int .i64 q.f, .int .i64 q.u, .int .i64 q.v]) :
    ∃ g c, v = .slice (some ⟨g, 0, none⟩) 2 c ∧ K ≤ g ∧ 2 ≤ c ∧ Pw w g 2 (two p q) := by
  obtain ⟨g, c, rfl, hK, hg, hc, _, hcells, hth⟩ := owned h (by decide)
  refine ⟨g, c, rfl, hK, hc, ⟨hg, fun j hj => ?_⟩, fun j hj => hth j (by omega)⟩
  have : j = 0 ∨ j = 1 := by omega
  rcases this with rfl | rfl
  · exact ⟨hcells 0 _ rfl, hcells 1 _ rfl, hcells 2 _ rfl⟩
  · exact ⟨hcells 3 _ rfl, hcells 4 _ rfl, hcells 5 _ rfl⟩
theorem jm_no (P : Nat → Pc) (k : Nat) (h : ¬ (0 < (jm P k).2 ∧ linkB ((jm P k).1 ((jm P k).2 - 1)) (P k) = true)) : jm P (k + 1) = (updP (jm P k).1 (jm P k).2 (P k), (jm P k).2 + 1) := if_neg h
theorem jm_two : jm (two ⟨10, 15, 1⟩ ⟨15, 25, 2⟩) 2 = (updP (updP (two ⟨10, 15, 1⟩ ⟨15, 25, 2⟩) 0 ⟨10, 15, 1⟩) 1 ⟨15, 25, 2⟩, 2) := by
  have h0 : jm (two ⟨10, 15, 1⟩ ⟨15, 25, 2⟩) 1 = (updP (two ⟨10, 15, 1⟩ ⟨15, 25, 2⟩) 0 ⟨10, 15, 1⟩, 1) := jm_no _ 0 (fun h => absurd h.1 (Nat.lt_irrefl 0))
  have h1 := jm_no (two ⟨10, 15, 1⟩ ⟨15, 25, 2⟩) 1 (by rw [h0]; intro h; exact absurd h.2 (by decide))
  rw [h0] at h1
  exact h1

set_option maxHeartbeats 1000000 in
theorem limited_ex (g c : Nat) (w : World) :
    Calls Try.prog 36 #[.slice (some ⟨g, 0, none⟩) 2 c] w fun e w' => e = .returned (.tuple #[.slice (some ⟨g, 0, none⟩) 2 c, .int .i64 0]) ∧ Below w.heap.size w w' := by
  go_enter Try.func36, Try.ntmps36
  go_wp2_with fail
  go_ret2
  exact ⟨rfl, Below.refl _ w⟩

set_option maxHeartbeats 2000000 in
theorem Clear_ex (b : Nat) (w : World) (h : Ex w b) :
    Calls Try.prog 22 #[.slice (some ⟨b, 0, none⟩) 1 1, .agg #[.int .i64 12, .int .i64 14]] w fun e w' => ∃ g c, e = .returned (.tuple #[.slice (some ⟨g, 0, none⟩) 2 c, .int .i64 0]) ∧ Pcs w' g 0 2 (two ⟨10, 12, 1⟩ ⟨14, 20, 1⟩) ∧ Below w.heap.size w w' := by
  have al := (Below.refl w.heap.size w).alloc (Nat.le_refl _) (.cells #[.int .i64 12, .int .i64 14] 33)
  have E := Lib.hid (h.below al)
  have d0 : (w.alloc (.cells #[.int .i64 12, .int .i64 14] 33)).cell? ⟨w.heap.size, 0, none⟩ = some (.int .i64 12) := by simp
  have d1 : (w.alloc (.cells #[.int .i64 12, .int .i64 14] 33)).cell? ⟨w.heap.size, 1, none⟩ = some (.int .i64 14) := by simp
  have z : w.heap.size < (w.alloc (.cells #[.int .i64 12, .int .i64 14] 33)).heap.size := by simp
  have AL := Lib.hid al
  clear h al
  go_enter Try.func22, Try.ntmps22
  go_wp2_with fail
  refine (checkChange_ex b 12 14 _ E.out (by decide)).mono ?_; rintro e w1 ⟨rfl, b1⟩
  have d0 := (b1.cell (p := ⟨w.heap.size, 0, none⟩) z).trans d0
  have d1 := (b1.cell (p := ⟨w.heap.size, 1, none⟩) z).trans d1
  have B1 := Lib.hid (AL.out.trans (b1.mono AL.out.size))
  have E1 := Lib.hid (E.out.below b1)
  clear b1 E AL
  go_wp2_with fail
  refine (replaced_clear b w1 E1.out).mono ?_; rintro e w2 ⟨v, rfl, o2, b2⟩
  obtain ⟨g, c, rfl, hK, hc, P2⟩ := own_two (p := ⟨10, 12, 1⟩) (q := ⟨14, 20, 1⟩) o2
  have P2 := Lib.hid P2.row
  have B2 := Lib.hid (B1.out.trans (b2.mono B1.out.size))
  clear o2 b2
  go_wp2_with fail
  refine (limited_ex g c w2).mono ?_; rintro e w3 ⟨rfl, b3⟩
  have P3 := Lib.hid (P2.out.below b3)
  have B3 := Lib.hid (B2.out.trans (b3.mono B2.out.size))
  clear b3
  go_wp2_with fail
  go_ret2
  exact ⟨g, c, rfl, P3.out, B3.out⟩

set_option maxHeartbeats 2000000 in
theorem Set_ex (b : Nat) (w : World) (h : Ex w b) :
    Calls Try.prog 20 #[.slice (some ⟨b, 0, none⟩) 1 1, .agg #[.int .i64 15, .int .i64 25], .int .i64 2] w fun e w' => ∃ g c, e = .returned (.tuple #[.slice (some ⟨g, 0, none⟩) 2 c, .int .i64 0]) ∧ Pcs w' g 0 2 (two ⟨10, 15, 1⟩ ⟨15, 25, 2⟩) ∧ Below w.heap.size w w' := by
  have al := (Below.refl w.heap.size w).alloc (Nat.le_refl _) (.cells #[.int .i64 15, .int .i64 25] 33)
  have E := Lib.hid (h.below al)
  have d0 : (w.alloc (.cells #[.int .i64 15, .int .i64 25] 33)).cell? ⟨w.heap.size, 0, none⟩ = some (.int .i64 15) := by simp
  have d1 : (w.alloc (.cells #[.int .i64 15, .int .i64 25] 33)).cell? ⟨w.heap.size, 1, none⟩ = some (.int .i64 25) := by simp
  have z : w.heap.size < (w.alloc (.cells #[.int .i64 15, .int .i64 25] 33)).heap.size := by simp
  have AL := Lib.hid al
  clear h al
  go_enter Try.func20, Try.ntmps20
  go_wp2_with fail
  refine (checkChange_ex b 15 25 _ E.out (by decide)).mono ?_; rintro e w1 ⟨rfl, b1⟩
  have d0 := (b1.cell (p := ⟨w.heap.size, 0, none⟩) z).trans d0
  have d1 := (b1.cell (p := ⟨w.heap.size, 1, none⟩) z).trans d1
  have B1 := Lib.hid (AL.out.trans (b1.mono AL.out.size))
  have E1 := Lib.hid (E.out.below b1)
  clear b1 E AL
  have al2 := (Below.refl w1.heap.size w1).alloc (Nat.le_refl _) (.cells #[.int .i64 15, .int .i64 25, .int .i64 2] 47)
  have E2 := Lib.hid (E1.out.below al2)
  have N2 := Lib.hid (Box3.new w1 ⟨15, 25, 2⟩ 47)
  have B2 := Lib.hid (B1.out.trans (al2.mono B1.out.size))
  clear al2 B1 E1
  go_wp2_with fail
  refine (replaced_set b _ _ E2.out N2.out).mono ?_; rintro e w2 ⟨v, rfl, o2, b2⟩
  obtain ⟨g, c, rfl, hK, hc, P2⟩ := own_two (p := ⟨10, 15, 1⟩) (q := ⟨15, 25, 2⟩) o2
  have B3 := Lib.hid (B2.out.trans (b2.mono B2.out.size))
  have gl : g < w2.heap.size := P2.row.1
  have zK := b2.size
  have J := joined_any g 2 c _ _ w2 (by decide) hc hK zK P2
  rw [jm_two] at J
  have J := Lib.hid J
  have KK : w.heap.size ≤ (w1.alloc (.cells #[.int .i64 15, .int .i64 25, .int .i64 2] 47)).heap.size := B2.out.size
  clear o2 b2 P2 hK zK
  go_wp2_with fail
  refine J.out.mono ?_; rintro e w3 ⟨rfl, P3, b3⟩
  have P3 := Lib.hid P3.row
  have B4 := Lib.hid (B3.out.trans (b3.mono KK))
  clear b3 J KK
  go_wp2_with fail
  refine (limited_ex g c w3).mono ?_; rintro e w4 ⟨rfl, b4⟩
  have P4 := Lib.hid (P3.out.below b4)
  have B5 := Lib.hid (B4.out.trans (b4.mono B4.out.size))
  clear b4
  go_wp2_with fail
  go_ret2
  refine ⟨g, c, rfl, ⟨P4.out.1, fun j hj => ?_⟩, B5.out⟩
  have := P4.out.2 j hj
  have e : updP (updP (two ⟨10, 15, 1⟩ ⟨15, 25, 2⟩) 0 ⟨10, 15, 1⟩) 1 ⟨15, 25, 2⟩ j = two ⟨10, 15, 1⟩ ⟨15, 25, 2⟩ j := by
    have : j = 0 ∨ j = 1 := by omega
    rcases this with rfl | rfl <;> rfl
  rw [e] at this
  exact this
end Go.Proofs.Ytekigilhmdphnaa
