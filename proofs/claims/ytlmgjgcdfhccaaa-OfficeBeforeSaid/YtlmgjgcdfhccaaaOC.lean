/- The reference's Name. -/
import Derived.Test.YtlmgjgcdfhccaaaOB
import Derived.Lib.IndexMore
namespace Go.Proofs.Ytlmgjgcdfhccaaa
open Go.RowKit Go.Shelf

theorem occ_two (l : List UInt8) (j : Nat) : Lib.occAt l [32, 32] j = true ↔ l[j]? = some 32 ∧ l[j + 1]? = some 32 := by
  have e : ∀ k, (l.drop j)[k]? = l[j + k]? := fun k => by rw [List.getElem?_drop]
  have e0 := e 0
  have e1 := e 1
  rw [Nat.add_zero] at e0
  rw [← e0, ← e1]
  unfold Lib.occAt
  generalize l.drop j = m
  match m with
  | [] => simp
  | [a] => simp
  | a :: b :: r =>
    simp only [List.isPrefixOf, List.getElem?_cons_zero, List.getElem?_cons_succ, Bool.and_true, Bool.and_eq_true, beq_iff_eq, Option.some.injEq]
    constructor
    · rintro ⟨h1, h2⟩; exact ⟨h1.symm, h2.symm⟩
    · rintro ⟨h1, h2⟩; exact ⟨h1.symm, h2.symm⟩
theorem dbl_yes {l : List UInt8} {j : Nat} (h1 : l[j]? = some 32) (h2 : l[j + 1]? = some 32) : Lib.contains l [32, 32] = true := by
  have o := (occ_two l j).2 ⟨h1, h2⟩
  have hj : j < l.length := (List.getElem?_eq_some_iff.1 h1).1
  rcases Lib.index_spec l [32, 32] with ⟨_, h⟩ | ⟨i, h, _⟩
  · rw [h j (by omega)] at o; cases o
  · unfold Lib.contains; rw [h]; exact decide_eq_true (by omega)
theorem dbl_no {l : List UInt8} (h : ∀ j : Nat, l[j]? = some 32 → l[j + 1]? = some 32 → False) : Lib.contains l [32, 32] = false := by
  rcases Lib.index_spec l [32, 32] with ⟨e, _⟩ | ⟨i, _, _, o, _⟩
  · unfold Lib.contains; rw [e]; exact decide_eq_false (by omega)
  · obtain ⟨a, b⟩ := (occ_two l i).1 o
    exact (h i a b).elim

set_option maxHeartbeats 4000000 in
theorem rName_any (a : Txt) (w : World) : Calls Try.prog 62 #[.string a.1] w fun e w' => e = .returned (.bool (nmL (bts a))) ∧ w' = w := by
  obtain ⟨s, hs⟩ := a
  show Calls Try.prog 62 #[.string s] w fun e w' => e = .returned (.bool (nmL s.data.toList)) ∧ w' = w
  by_cases h0 : s.size = 0
  · have N := Lib.hid (show nmL s.data.toList = false from nmL_no fun h => h.1 (List.length_eq_zero_iff.1 (by rw [len_sz]; exact h0)))
    have d0 : decide ((s.size : Int) < 1) = true := by simp; omega
    rw [N.out]
    clear N h0
    go_enter Try.func62, Try.ntmps62
    go_wp2_with fail
    go_ret
    exact ⟨rfl, rfl⟩
  have h0 : 0 < s.size := by omega
  have d0 : decide ((s.size : Int) < 1) = false := by simp; omega
  by_cases h1 : 64 < s.size
  · have N := Lib.hid (show nmL s.data.toList = false from nmL_no fun h => by have := h.2.1; rw [len_sz] at this; omega)
    have d : decide (64 < (s.size : Int)) = true := by simpa using (by omega : 64 < (s.size : Int))
    rw [N.out]
    go_enter Try.func62, Try.ntmps62
    go_wp2_with fail
    go_ret
    exact ⟨rfl, rfl⟩
  have d1 : decide (64 < (s.size : Int)) = false := by simpa using (by omega : (s.size : Int) ≤ 64)
  by_cases h2 : ((s[0].toNat : Int) == 32) = true
  · have N := Lib.hid (show nmL s.data.toList = false from nmL_no fun h => h.2.2.1 (by rw [head_sz h0]; exact is32.1 h2))
    rw [N.out]
    go_enter Try.func62, Try.ntmps62
    go_wp2_with fail
    go_ret
    exact ⟨rfl, rfl⟩
  have n2 := Lib.hid (show s.data.toList.head? ≠ some 32 from fun h => h2 (is32.2 (by rw [← head_sz h0]; exact h)))
  have h2 : ((s[0].toNat : Int) == 32) = false := by simpa using h2
  by_cases h3 : ((s[s.size - 1].toNat : Int) == 32) = true
  · have N := Lib.hid (show nmL s.data.toList = false from nmL_no fun h => h.2.2.2.1 (by rw [last_sz h0]; exact is32.1 h3))
    rw [N.out]
    go_enter Try.func62, Try.ntmps62
    go_wp2_with fail
    go_ret
    exact ⟨rfl, rfl⟩
  have n3 := Lib.hid (show s.data.toList.getLast? ≠ some 32 from fun h => h3 (is32.2 (by rw [← last_sz h0]; exact h)))
  have h3 : ((s[s.size - 1].toNat : Int) == 32) = false := by simpa using h3
  have h5 := Lib.hid (show s.size ≤ 64 by omega)
  obtain ⟨r, hr⟩ : ∃ r, r = nmL s.data.toList := ⟨_, rfl⟩
  rw [← hr]
  have HR := Lib.hid hr.symm
  clear hr
  go_enter Try.func62, Try.ntmps62
  go_wp2_with fail
  clear h2 h3 d0 d1
  go_loop [3] (fun vi => ∃ k : Nat, k ≤ s.size ∧ vi = .int .i64 k ∧ Hid ((s.data.toList.take k).all nmOk = true ∧ ∀ j : Nat, j + 1 < k → s.data.toList[j]? = some 32 → s.data.toList[j + 1]? = some 32 → False)) (fun vi => s.size - (RowKit.intOf vi).toNat)
  case atStart => exact ⟨0, Nat.zero_le _, rfl, rfl, fun j h => by omega⟩
  case round =>
    obtain ⟨k, hk, rfl, hacc⟩ := hrel
    by_cases hkn : k < s.size
    · obtain ⟨x, hx⟩ : ∃ x, x = s[k] := ⟨_, rfl⟩
      have hxk := get_sz hkn
      rw [← hx] at hxk
      have HX := Lib.hid hxk
      have kb : k ≤ 64 := by have := h5.out; omega
      clear hxk
      by_cases l1 : (x.toNat : Int) < 32
      · have N := Lib.hid (show nmL s.data.toList = false from nmL_no fun h => by
          have := List.all_eq_true.1 h.2.2.2.2.2 x (List.mem_of_getElem? HX.out)
          have := of_decide_eq_true this
          omega)
        have e1 : decide ((s[k].toNat : Int) < 32) = true := by rw [← hx]; simpa using l1
        rw [HR.out] at N
        go_wp2
        go_ret
        exact ⟨by rw [N.out]; rfl, rfl⟩
      have e1 : decide ((s[k].toNat : Int) < 32) = false := by rw [← hx]; simpa using l1
      by_cases l2 : 126 < (x.toNat : Int)
      · have N := Lib.hid (show nmL s.data.toList = false from nmL_no fun h => by
          have := List.all_eq_true.1 h.2.2.2.2.2 x (List.mem_of_getElem? HX.out)
          have := of_decide_eq_true this
          omega)
        have e2 : decide (126 < (s[k].toNat : Int)) = true := by rw [← hx]; simpa using l2
        rw [HR.out] at N
        go_wp2
        go_ret
        exact ⟨by rw [N.out]; rfl, rfl⟩
      have e2 : decide (126 < (s[k].toNat : Int)) = false := by rw [← hx]; simpa using l2
      have NX := Lib.hid (show (s.data.toList.take (k + 1)).all nmOk = true by
        rw [List.take_add_one, HX.out, List.all_append, hacc.out.1]
        show (nmOk x && true) = true
        rw [Bool.and_true]; exact decide_eq_true (by omega))
      by_cases k0 : k = 0
      · subst k0
        have NB := Lib.hid (show ∀ j : Nat, j + 1 < 0 + 1 → s.data.toList[j]? = some 32 → s.data.toList[j + 1]? = some 32 → False from fun j h => by omega)
        clear l1 l2 hx
        go_wp2
        go_round
        case rel => exact ⟨0 + 1, by omega, by go_num, NX.out, NB.out⟩
        case measure => simp [RowKit.intOf]; omega
      · obtain ⟨m, rfl⟩ : ∃ m, k = m + 1 := ⟨k - 1, by omega⟩
        have hm : m < s.size := by omega
        have hym := get_sz hm
        obtain ⟨y, hy⟩ : ∃ y, y = s[m] := ⟨_, rfl⟩
        rw [← hy] at hym
        have HY := Lib.hid hym
        have D0 : decide (0 < m + 1) = true := by simp
        have s1 : IntKind.i64.wrap (((m + 1 : Nat) : Int) - 1) = (m : Int) := by rw [show ((m + 1 : Nat) : Int) - 1 = (m : Int) from by omega]; exact IntWalk.i64_in _ ⟨by omega, by omega⟩
        have s5 : IntKind.i64.wrap ((m : Int) + 1 - 1) = (m : Int) := by rw [show (m : Int) + 1 - 1 = (m : Int) from by omega]; exact IntWalk.i64_in _ ⟨by omega, by omega⟩
        clear hym
        by_cases b1 : ((x.toNat : Int) == 32) = true
        · by_cases b2 : ((y.toNat : Int) == 32) = true
          · have N := Lib.hid (show nmL s.data.toList = false from nmL_no fun h => by
              have := dbl_yes (j := m) (HY.out.trans (is32.1 b2)) (HX.out.trans (is32.1 b1))
              rw [h.2.2.2.2.1] at this; cases this)
            have f1 : ((s[m + 1].toNat : Int) == 32) = true := by rw [← hx]; exact b1
            have f2 : ((s[m].toNat : Int) == 32) = true := by rw [← hy]; exact b2
            rw [HR.out] at N
            go_wp2
            go_ret
            exact ⟨by rw [N.out]; rfl, rfl⟩
          · have f1 : ((s[m + 1].toNat : Int) == 32) = true := by rw [← hx]; exact b1
            have f2 : ((s[m].toNat : Int) == 32) = false := by rw [← hy]; simpa using b2
            have NB := Lib.hid (show ∀ j : Nat, j + 1 < m + 1 + 1 → s.data.toList[j]? = some 32 → s.data.toList[j + 1]? = some 32 → False from fun j h g1 g2 => by
              by_cases e : j = m
              · subst e; rw [HY.out] at g1; exact b2 (is32.2 g1)
              · exact hacc.out.2 j (by omega) g1 g2)
            clear l1 l2 hx hy b1 b2
            go_wp2
            go_round
            case rel => exact ⟨m + 1 + 1, by omega, by go_num, NX.out, NB.out⟩
            case measure => simp [RowKit.intOf]; omega
        · have f1 : ((s[m + 1].toNat : Int) == 32) = false := by rw [← hx]; simpa using b1
          have NB := Lib.hid (show ∀ j : Nat, j + 1 < m + 1 + 1 → s.data.toList[j]? = some 32 → s.data.toList[j + 1]? = some 32 → False from fun j h g1 g2 => by
            by_cases e : j = m
            · subst e; rw [HX.out] at g2; exact b1 (is32.2 g2)
            · exact hacc.out.2 j (by omega) g1 g2)
          clear l1 l2 hx hy b1
          go_wp2
          go_round
          case rel => exact ⟨m + 1 + 1, by omega, by go_num, NX.out, NB.out⟩
          case measure => simp [RowKit.intOf]; omega
    · have hke : k = s.size := by omega
      subst hke
      have N := Lib.hid (show nmL s.data.toList = true from decide_eq_true ⟨fun h => by have := congrArg List.length h; rw [len_sz, List.length_nil] at this; omega, by rw [len_sz]; exact h5.out, n2.out, n3.out,
        dbl_no fun j g1 g2 => hacc.out.2 j (by have := (List.getElem?_eq_some_iff.1 g2).1; rw [len_sz] at this; exact this) g1 g2, by
        have := hacc.out.1
        rwa [List.take_of_length_le (by rw [len_sz]; exact Nat.le_refl _)] at this⟩)
      rw [HR.out] at N
      go_wp2
      go_ret
      exact ⟨by rw [N.out]; rfl, rfl⟩
end Go.Proofs.Ytlmgjgcdfhccaaa
