/- checkChange, limited, Clear, Set in general. -/
import Derived.Test.YtekigilhmdphnaaUB
import Derived.Test.YtekigilhmdphnaaTM
namespace Go.Proofs.Ytekigilhmdphnaa
open Go.RowKit Go.Shelf

def chV (P : Nat → Pc) (n : Nat) (f u : Int) : Int := if ckV P n = 0 then (if spanB f u = true then 0 else 2) else ckV P n

set_option maxHeartbeats 2000000 in
theorem checkChange_any (p : Option Addr) (n c : Nat) (P : Nat → Pc) (f u : Int) (w : World) (h : IsP w p n c P) :
    Calls Try.prog 35 #[.slice p n c, .agg #[.int .i64 f, .int .i64 u]] w fun e w' => e = .returned (.int .i64 (chV P n f u)) ∧ Below w.heap.size w w' := by
  have al := (Below.refl w.heap.size w).alloc (Nat.le_refl _) (.cells #[.int .i64 f, .int .i64 u] 33)
  have C := Lib.hid (Check_any p n c P _ (h.below al))
  have d0 : (w.alloc (.cells #[.int .i64 f, .int .i64 u] 33)).cell? ⟨w.heap.size, 0, none⟩ = some (.int .i64 f) := by simp
  have d1 : (w.alloc (.cells #[.int .i64 f, .int .i64 u] 33)).cell? ⟨w.heap.size, 1, none⟩ = some (.int .i64 u) := by simp
  have z : w.heap.size < (w.alloc (.cells #[.int .i64 f, .int .i64 u] 33)).heap.size := by simp
  have I := isSpan_any f u
  have CV := Lib.hid (show chV P n f u = if ckV P n = 0 then (if spanB f u = true then 0 else 2) else ckV P n from rfl)
  generalize ckV P n = k at *
  generalize spanB f u = b at *
  have I := Lib.hid I
  have AL := Lib.hid al
  clear h al
  go_enter Try.func35, Try.ntmps35
  go_wp2_with fail
  refine C.out.mono ?_; rintro e w1 ⟨rfl, b1⟩
  have d0 := (b1.cell (p := ⟨w.heap.size, 0, none⟩) z).trans d0
  have d1 := (b1.cell (p := ⟨w.heap.size, 1, none⟩) z).trans d1
  have B1 := Lib.hid (AL.out.trans (b1.mono AL.out.size))
  clear b1 C
  by_cases k0 : k = 0
  · subst k0
    go_wp2_with fail
    refine (I.out _).mono ?_; rintro e w2 ⟨rfl, b2⟩
    have B2 := Lib.hid (B1.out.trans (b2.mono B1.out.size))
    clear b2
    cases b
    · go_wp2_with fail
      go_ret
      rw [CV.out]
      exact ⟨rfl, B2.out⟩
    · go_wp2_with fail
      go_ret
      rw [CV.out]
      exact ⟨rfl, B2.out⟩
  · have k1 : (k == 0) = false := by simpa using k0
    go_wp2_with fail
    go_ret
    rw [CV.out, if_neg k0]
    exact ⟨rfl, B1.out⟩

set_option maxHeartbeats 1000000 in
theorem limited_any (p : Option Addr) (n c : Nat) (w : World) (hn : n ≤ 9223372036854775807) :
    Calls Try.prog 36 #[.slice p n c] w fun e w' => e = .returned (if 1024 < n then .tuple #[.slice none 0 0, .int .i64 8] else .tuple #[.slice p n c, .int .i64 0]) ∧ w' = w := by
  by_cases h : 1024 < n
  · rw [if_pos h]
    have h' : (1024 : Int) < (n : Int) := by omega
    go_enter Try.func36, Try.ntmps36
    go_wp2_with fail
    go_ret2
    exact ⟨rfl, rfl⟩
  · rw [if_neg h]
    have h' : ¬ (1024 : Int) < (n : Int) := by omega
    go_enter Try.func36, Try.ntmps36
    go_wp2_with fail
    go_ret2
    exact ⟨rfl, rfl⟩

/-- A value is a list of pieces. -/
def LRes (w : World) (v : Value) (L : List Pc) : Prop := ∃ p c Q, v = .slice p L.length c ∧ IsP w p L.length c Q ∧ toL Q L.length = L
theorem LRes.below {w w' : World} {v : Value} {L : List Pc} (h : LRes w v L) (hb : Below w.heap.size w w') : LRes w' v L := by
  obtain ⟨p, c, Q, h1, h2, h3⟩ := h
  exact ⟨p, c, Q, h1, h2.below hb, h3⟩
theorem own_lres {w : World} {K : Nat} {v : Value} {L : List Pc} (h : w.ownsRow K 47 3 v L.length (cellsP L)) : LRes w v L := by
  rcases Nat.eq_zero_or_pos L.length with z | z
  · obtain rfl := List.length_eq_zero_iff.1 z
    rcases h.2 with ⟨rfl, _⟩ | ⟨g, cap, cur, rfl, _, _, _, _, _, _⟩
    · exact ⟨none, 0, fun _ => default, rfl, Or.inl ⟨rfl, rfl, rfl⟩, rfl⟩
    · exact ⟨_, cap, fun _ => default, rfl, Or.inr ⟨_, rfl, by simp, fun h => absurd h (Nat.lt_irrefl 0)⟩, rfl⟩
  · obtain ⟨g, c, rfl, _, _, hc, hm, hp⟩ := own_pw h z
    exact ⟨_, c, ofL L, rfl, Or.inr ⟨_, rfl, by unfold maxLen at hm; omega, fun _ => ⟨rfl, hp.row⟩⟩, toL_ofL L⟩
/-- What Set and Clear return: an error, or a list. -/
def ChR (z : Int) (L : List Pc) (e : Ending) (w' : World) : Prop :=
  if z = 0 then (if 1024 < L.length then e = .returned (.tuple #[.slice none 0 0, .int .i64 8]) else ∃ v, e = .returned (.tuple #[v, .int .i64 0]) ∧ LRes w' v L) else e = .returned (.tuple #[.slice none 0 0, .int .i64 z])
theorem ChR.err {z : Int} {L : List Pc} {e : Ending} {w' : World} (hz : z ≠ 0) (he : e = .returned (.tuple #[.slice none 0 0, .int .i64 z])) : ChR z L e w' := by unfold ChR; rw [if_neg hz]; exact he
theorem ChR.large {L : List Pc} {e : Ending} {w' : World} (hl : 1024 < L.length) (he : e = .returned (.tuple #[.slice none 0 0, .int .i64 8])) : ChR 0 L e w' := by unfold ChR; rw [if_pos rfl, if_pos hl]; exact he
theorem ChR.good {L : List Pc} {e : Ending} {w' : World} (hl : ¬ 1024 < L.length) {v : Value} (hv : LRes w' v L) (he : e = .returned (.tuple #[v, .int .i64 0])) : ChR 0 L e w' := by unfold ChR; rw [if_pos rfl, if_neg hl]; exact ⟨v, he, hv⟩
/-- What a change returns: F makes the list of what replaced makes. -/
def ChgR (k : Int) (P : Nat → Pc) (n : Nat) (f u : Int) (wl : List Pc) (F : List Pc → List Pc) (e : Ending) (w' : World) : Prop := ∃ r s, (k = 0 → Ends P n r s f u) ∧ ChR k (F (repL P n r s f u wl)) e w'
theorem chV_zero {P : Nat → Pc} {n : Nat} {f u : Int} (h : chV P n f u = 0) : n ≤ 1024 ∧ Gd (toL P n) ∧ 0 ≤ f ∧ f < u ∧ u ≤ 1048576 := by
  unfold chV at h
  split at h
  · rename_i k
    split at h
    · rename_i s
      unfold ckV at k
      split at k
      · exact absurd k (by decide)
      · exact ⟨by omega, (ck_gd P n).1 k, of_decide_eq_true s⟩
    · exact absurd h (by decide)
  · rename_i k; exact absurd h k

set_option maxHeartbeats 4000000 in
theorem Clear_any (p : Option Addr) (n c : Nat) (P : Nat → Pc) (f u : Int) (w : World) (h : IsP w p n c P) :
    Calls Try.prog 22 #[.slice p n c, .agg #[.int .i64 f, .int .i64 u]] w fun e w' => ChgR (chV P n f u) P n f u [] (fun L => L) e w' ∧ Below w.heap.size w w' := by
  have al := (Below.refl w.heap.size w).alloc (Nat.le_refl _) (.cells #[.int .i64 f, .int .i64 u] 33)
  have E := Lib.hid (h.below al)
  have d0 : (w.alloc (.cells #[.int .i64 f, .int .i64 u] 33)).cell? ⟨w.heap.size, 0, none⟩ = some (.int .i64 f) := by simp
  have d1 : (w.alloc (.cells #[.int .i64 f, .int .i64 u] 33)).cell? ⟨w.heap.size, 1, none⟩ = some (.int .i64 u) := by simp
  have z : w.heap.size < (w.alloc (.cells #[.int .i64 f, .int .i64 u] 33)).heap.size := by simp
  have AL := Lib.hid al
  have ZZ := Lib.hid (fun h => chV_zero (P := P) (n := n) (f := f) (u := u) h)
  have CC := Lib.hid (checkChange_any p n c P f u _ E.out)
  obtain ⟨k, hk⟩ : ∃ k, k = chV P n f u := ⟨_, rfl⟩
  rw [← hk] at CC ZZ ⊢
  clear h al hk
  go_enter Try.func22, Try.ntmps22
  go_wp2_with fail
  refine CC.out.mono ?_; rintro e w1 ⟨rfl, b1⟩
  have d0 := (b1.cell (p := ⟨w.heap.size, 0, none⟩) z).trans d0
  have d1 := (b1.cell (p := ⟨w.heap.size, 1, none⟩) z).trans d1
  have B1 := Lib.hid (AL.out.trans (b1.mono AL.out.size))
  have E1 := Lib.hid (E.out.below b1)
  clear b1 E AL CC
  by_cases k0 : k = 0
  · subst k0
    obtain ⟨hn, _⟩ := ZZ.out rfl
    go_wp2_with fail
    refine (replaced_any p n c P f u _ [] w1 hn E1.out (Or.inl ⟨rfl, rfl⟩)).mono ?_; rintro e w2 ⟨r, s, v, he, rfl, o2, b2⟩
    have HE := Lib.hid he
    have LR := own_lres o2
    have ll : (repL P n r s f u []).length ≤ 9223372036854775807 := by
      obtain ⟨_, c, _, _, h2, _⟩ := LR
      exact h2.le
    obtain ⟨R, hR⟩ : ∃ R, R = repL P n r s f u [] := ⟨_, rfl⟩
    rw [← hR] at LR ll
    obtain ⟨q, c2, Q, rfl, hQ, eQ⟩ := LR
    have LR := Lib.hid (show LRes w2 (.slice q R.length c2) R from ⟨q, c2, Q, rfl, hQ, eQ⟩)
    have LI := Lib.hid (limited_any q R.length c2 w2 ll)
    have B2 := Lib.hid (B1.out.trans (b2.mono B1.out.size))
    have HR := Lib.hid hR
    clear o2 b2 he ll hQ eQ Q hR
    go_wp2_with fail
    refine LI.out.mono ?_; rintro e w3 ⟨rfl, rfl⟩
    by_cases hl : 1024 < R.length
    · rw [if_pos hl]
      go_wp2_with fail
      go_ret2
      exact ⟨⟨r, s, fun _ => HE.out, ChR.large (by rw [← HR.out]; exact hl) rfl⟩, B2.out⟩
    · rw [if_neg hl]
      go_wp2_with fail
      go_ret2
      exact ⟨⟨r, s, fun _ => HE.out, ChR.good (v := .slice q R.length c2) (by rw [← HR.out]; exact hl) (by rw [← HR.out]; exact LR.out) rfl⟩, B2.out⟩
  · have k1 : (k == 0) = false := by simpa using k0
    go_wp2_with fail
    go_ret2
    exact ⟨⟨0, 0, fun h => absurd h k0, ChR.err k0 rfl⟩, B1.out⟩
end Go.Proofs.Ytekigilhmdphnaa
