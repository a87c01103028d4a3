/- Set in general. -/
import Derived.Test.YtekigilhmdphnaaUC
namespace Go.Proofs.Ytekigilhmdphnaa
open Go.RowKit Go.Shelf

set_option maxHeartbeats 4000000 in
theorem Set_any (p : Option Addr) (n c : Nat) (P : Nat → Pc) (f u x : Int) (w : World) (h : IsP w p n c P) :
    Calls Try.prog 20 #[.slice p n c, .agg #[.int .i64 f, .int .i64 u], .int .i64 x] w fun e w' => ChgR (chV P n f u) P n f u [⟨f, u, x⟩] joinL e w' ∧ Below w.heap.size w w' := by
  have al := (Below.refl w.heap.size w).alloc (Nat.le_refl _) (.cells #[.int .i64 f, .int .i64 u] 33)
  have E := Lib.hid (h.below al)
  have d0 : (w.alloc (.cells #[.int .i64 f, .int .i64 u] 33)).cell? ⟨w.heap.size, 0, none⟩ = some (.int .i64 f) := by simp
  have d1 : (w.alloc (.cells #[.int .i64 f, .int .i64 u] 33)).cell? ⟨w.heap.size, 1, none⟩ = some (.int .i64 u) := by simp
  have z : w.heap.size < (w.alloc (.cells #[.int .i64 f, .int .i64 u] 33)).heap.size := by simp
  have AL := Lib.hid al
  have ZZ := Lib.hid (fun h => chV_zero (P := P) (n := n) (f := f) (u := u) h)
  have CC := Lib.hid (checkChange_any p n c P f u _ E.out)
  obtain ⟨k, hk⟩ : ∃ k, k = chV P n f u := ⟨_, rfl⟩
  rw [← hk] at CC ZZ ⊢
  clear h al hk
  go_enter Try.func20, Try.ntmps20
  go_wp2_with fail
  refine CC.out.mono ?_; rintro e w1 ⟨rfl, b1⟩
  have d0 := (b1.cell (p := ⟨w.heap.size, 0, none⟩) z).trans d0
  have d1 := (b1.cell (p := ⟨w.heap.size, 1, none⟩) z).trans d1
  have B1 := Lib.hid (AL.out.trans (b1.mono AL.out.size))
  have E1 := Lib.hid (E.out.below b1)
  clear b1 E AL CC
  by_cases k0 : k = 0
  · subst k0
    obtain ⟨hn, _⟩ := ZZ.out rfl
    have al2 := (Below.refl w1.heap.size w1).alloc (Nat.le_refl _) (.cells #[.int .i64 f, .int .i64 u, .int .i64 x] 47)
    have E2 := Lib.hid (E1.out.below al2)
    have N2 := Lib.hid (Box3.new w1 ⟨f, u, x⟩ 47)
    have B2 := Lib.hid (B1.out.trans (al2.mono B1.out.size))
    clear al2 B1 E1
    go_wp2_with fail
    refine (replaced_any p n c P f u _ [⟨f, u, x⟩] _ hn E2.out (Or.inr ⟨_, _, rfl, rfl, N2.out⟩)).mono ?_; rintro e w2 ⟨r, s, v, he, rfl, o2, b2⟩
    have HE := Lib.hid he
    have hr : r ≤ n := Nat.le_trans he.1 he.2.1
    have rl0 := repL_length P n r s f u [⟨f, u, x⟩] hr
    have l1 : (leftL P r s f).length ≤ 1 := by unfold leftL; split <;> simp
    have l2 : (rightL P r s u).length ≤ 1 := by unfold rightL; split <;> simp
    rw [List.length_append, List.length_append, List.length_singleton] at rl0
    obtain ⟨R, hR⟩ : ∃ R, R = repL P n r s f u [⟨f, u, x⟩] := ⟨_, rfl⟩
    rw [← hR] at o2 rl0
    obtain ⟨g, c, rfl, hKg, hg, hc, hm, hpw⟩ := own_pw o2 (by omega)
    have KK : w.heap.size ≤ (w1.alloc (.cells #[.int .i64 f, .int .i64 u, .int .i64 x] 47)).heap.size := B2.out.size
    have JJ := Lib.hid (joined_any g R.length c w.heap.size (ofL R) w2 (by omega) hc (Nat.le_trans KK hKg) (Nat.le_trans KK b2.size) hpw)
    have B3 := Lib.hid (B2.out.trans (b2.mono B2.out.size))
    have jl := jm_list (ofL R) R.length
    rw [toL_ofL] at jl
    have ji := (jm_inv (ofL R) R.length).1
    have HR := Lib.hid (show joinL R = joinL (repL P n r s f u [⟨f, u, x⟩]) by rw [hR])
    have rl : R.length ≤ 3000 := by omega
    have JI := Lib.hid ji
    have JL1 := Lib.hid jl
    have RL := Lib.hid rl
    clear rl0 he o2 b2 hR hr l1 l2 KK hpw hm rl ji jl hKg hg hc
    go_wp2_with fail
    refine JJ.out.mono ?_; rintro e w3 ⟨rfl, p3, b3⟩
    have B4 := Lib.hid (B3.out.trans b3)
    have jl := JL1.out
    have ji := JI.out
    have rl := RL.out
    clear JI JL1 RL
    obtain ⟨m, hm⟩ : ∃ m, m = (jm (ofL R) R.length).2 := ⟨_, rfl⟩
    rw [← hm] at jl ji ⊢
    have jlen : (joinL R).length = m := by rw [← jl, toL_length]
    have LR : LRes w3 (.slice (some ⟨g, 0, none⟩) m c) (joinL R) := ⟨_, c, (jm (ofL R) R.length).1, by rw [jlen], Or.inr ⟨_, rfl, by rw [jlen]; omega, fun _ => ⟨rfl, p3.row.1, fun j hj => p3.row.2 j (by rw [jlen] at hj; omega)⟩⟩, by rw [jlen]; exact jl⟩
    have LI := Lib.hid (limited_any (some ⟨g, 0, none⟩) m c w3 (by omega))
    have LR := Lib.hid LR
    have JL := Lib.hid jlen
    clear p3 b3 jl JJ hm jlen ji rl
    go_wp2_with fail
    refine LI.out.mono ?_; rintro e w4 ⟨rfl, rfl⟩
    by_cases hl : 1024 < m
    · rw [if_pos hl]
      go_wp2_with fail
      go_ret2
      exact ⟨⟨r, s, fun _ => HE.out, ChR.large (by rw [← HR.out, JL.out]; exact hl) rfl⟩, B4.out⟩
    · rw [if_neg hl]
      go_wp2_with fail
      go_ret2
      exact ⟨⟨r, s, fun _ => HE.out, ChR.good (v := .slice (some ⟨g, 0, none⟩) m c) (by rw [← HR.out, JL.out]; exact hl) (by rw [← HR.out]; exact LR.out) rfl⟩, B4.out⟩
  · have k1 : (k == 0) = false := by simpa using k0
    go_wp2_with fail
    go_ret2
    exact ⟨⟨0, 0, fun h => absurd h k0, ChR.err k0 rfl⟩, B1.out⟩
end Go.Proofs.Ytekigilhmdphnaa
