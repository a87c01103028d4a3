/- The reference's less, Compare, Within. -/
import Derived.Test.YtnjnjcgbdhiigaaGreatDoorRF
import Derived.Test.YtnjnjcgbdhiigaaGreatDoorDA
namespace Go.Proofs.YtnjnjcgbdhiigaaGreatDoor
open Go.RowKit Go.Shelf

set_option maxRecDepth 10000 in
set_option maxHeartbeats 4000000 in
theorem less_any (v u : Value) (ns ms : List Nat) (w : World) (hn : ns.length ≤ 1000) (hm : ms.length ≤ 1000) (h1 : IsN w v ns) (h2 : IsN w u ms) :
    Calls Tryz.prog 40 #[v, u] w fun e w' => e = .returned (.int .i64 (cmpL ns ms)) ∧ ∃ q, w' = w.drewN q := by
  obtain ⟨g, off, c, rfl, _, hc0, hc⟩ := h1
  obtain ⟨g2, off2, c2, rfl, _, hd0, hc2⟩ := h2
  have HC := Lib.hid hc
  have HC2 := Lib.hid hc2
  obtain ⟨n, hn'⟩ : ∃ n, n = ns.length := ⟨_, rfl⟩
  obtain ⟨m, hm'⟩ : ∃ m, m = ms.length := ⟨_, rfl⟩
  have HN := Lib.hid hn'
  have HM := Lib.hid hm'
  rw [← hn'] at hn hc0 ⊢
  rw [← hm'] at hm hd0 ⊢
  clear hc hc2 hn' hm'
  go_enter Tryz.func40, Tryz.ntmps40
  go_wp2_with fail
  go_loopw [5] (fun si wr => ∃ k : Nat, k ≤ n ∧ k ≤ m ∧ si = .int .i64 k ∧ Aside (cmpL ns ms = cmpL (ns.drop k) (ms.drop k)) ∧ ∃ qd, wr = w.drewN qd) (fun si _ => n - (intOf si).toNat)
  case atStart => exact ⟨0, Nat.zero_le _, Nat.zero_le _, rfl, rfl, 0, rfl⟩
  case round =>
    obtain ⟨k, hk, hk2, rfl, CE, qd, rfl⟩ := hrel
    by_cases hlt : k < n
    · by_cases hlm : k < m
      · have hltz : decide ((k : Int) < (n : Int)) = true := by simpa using hlt
        have hlmz : decide ((k : Int) < (m : Int)) = true := by simpa using hlm
        have l0 := HC.out k (by have := HN.out; omega)
        have l1 := HC2.out k (by have := HM.out; omega)
        have ST := Lib.hid (CE.out.trans (cmpL_step (ns := ns) (ms := ms) (k := k) (by have := HN.out; omega) (by have := HM.out; omega)))
        generalize ns[k]'(by have := HN.out; omega) = a at *
        generalize ms[k]'(by have := HM.out; omega) = b at *
        have cz : ∀ j, (w.drewN j).cell? ⟨g, off + k, none⟩ = some (.int .i64 (a : Nat)) := fun j => l0
        have cy : ∀ j, (w.drewN j).cell? ⟨g2, off2 + k, none⟩ = some (.int .i64 (b : Nat)) := fun j => l1
        clear l0 l1 CE
        by_cases c1 : a < b
        · rw [if_pos c1] at ST
          have d1 : decide (a < b) = true := by simpa using c1
          clear c1
          go_wp2_with fail
          go_quiet (fail)
          go_wp2_with fail
          go_ret
          exact ⟨by rw [ST.out]; rfl, _, by first | (simp only [World.drewN_drewN]; rfl) | rfl⟩
        · rw [if_neg c1] at ST
          have d1 : decide (a < b) = false := by simpa using c1
          by_cases c2 : b < a
          · rw [if_pos c2] at ST
            have d2 : decide (b < a) = true := by simpa using c2
            clear c1 c2
            go_wp2_with fail
            go_quiet (fail)
            go_wp2_with fail
            go_quiet (fail)
            go_wp2_with fail
            go_ret
            exact ⟨by rw [ST.out]; rfl, _, by first | (simp only [World.drewN_drewN]; rfl) | rfl⟩
          · rw [if_neg c2] at ST
            have d2 : decide (b < a) = false := by simpa using c2
            clear c1 c2
            go_wp2_with fail
            go_quiet (fail)
            go_wp2_with fail
            go_quiet (fail)
            go_wp2_with fail
            go_roundw
            case rel => exact ⟨k + 1, by omega, by omega, by go_num, ST.out, _, by first | (simp only [World.drewN_drewN]; rfl) | rfl⟩
            case measure => show n - ((k : Int) + 1).toNat < n - (k : Int).toNat; omega
      · obtain rfl : k = m := by omega
        have hltz : decide ((k : Int) < (n : Int)) = true := by simpa using hlt
        have hltw : decide ((n : Int) < (k : Int)) = false := by simp; omega
        have ST := Lib.hid (show cmpL ns ms = 1 from CE.out.trans (by
          have e1 : ms.drop k = [] := List.drop_eq_nil_of_le (by have := HM.out; omega)
          rw [e1, List.drop_eq_getElem_cons (by have := HN.out; omega)]; rfl))
        clear CE
        go_wp2_with fail
        go_ret
        exact ⟨by rw [ST.out]; rfl, _, by first | (simp only [World.drewN_drewN]; rfl) | rfl⟩
    · obtain rfl : k = n := by omega
      by_cases hlm : k < m
      · have hlmz : decide ((k : Int) < (m : Int)) = true := by simpa using hlm
        have ST := Lib.hid (show cmpL ns ms = -1 from CE.out.trans (by
          have e1 : ns.drop k = [] := List.drop_eq_nil_of_le (by have := HN.out; omega)
          rw [e1, List.drop_eq_getElem_cons (by have := HM.out; omega)]; rfl))
        clear CE
        go_wp2_with fail
        go_ret
        exact ⟨by rw [ST.out]; rfl, _, by first | (simp only [World.drewN_drewN]; rfl) | rfl⟩
      · obtain rfl : k = m := by omega
        have ST := Lib.hid (show cmpL ns ms = 0 from CE.out.trans (by
          rw [List.drop_eq_nil_of_le (by have := HN.out; omega), List.drop_eq_nil_of_le (by have := HM.out; omega)]; rfl))
        clear CE
        go_wp2_with fail
        go_ret
        exact ⟨by rw [ST.out]; rfl, _, by first | (simp only [World.drewN_drewN]; rfl) | rfl⟩
theorem rparse_two (s : Txt) :
    (∃ ns, PR (bts s) ns ∧ ∀ w, Calls Tryz.prog 9 #[.string s.1] w fun e w' => ∃ v, e = .returned (.tuple #[v, .int .i64 0]) ∧ IsN w' v ns ∧ Below w.heap.size w w') ∨
      ((∀ ns, ¬ PR (bts s) ns) ∧ ∀ w, Calls Tryz.prog 9 #[.string s.1] w fun e w' => e = .returned (.tuple #[.slice none 0 0, .int .i64 3]) ∧ Below w.heap.size w w') := by
  by_cases h : ∃ ns, PR (bts s) ns
  · obtain ⟨ns, pa⟩ := h
    exact Or.inl ⟨ns, pa, fun w => rparse_ok s pa w⟩
  · exact Or.inr ⟨fun ns g => h ⟨ns, g⟩, fun w => rparse_no s (fun ns g => h ⟨ns, g⟩) w⟩
set_option maxHeartbeats 4000000 in
theorem compare_same (a b : Txt) : ∃ (x k : Int),
    (∀ V, Lw V → Calls Tryz.prog 16 #[.string a.1, .string b.1] V fun e w' => e = .returned (.tuple #[.int .i64 x, .int .i64 k]) ∧ Below V.heap.size V w') ∧
    (∀ V, Calls Tryz.prog 17 #[.string a.1, .string b.1] V fun e w' => e = .returned (.tuple #[.int .i64 x, .int .i64 k]) ∧ Below V.heap.size V w') := by
  rcases rparse_two a with ⟨ns, pa, ca⟩ | ⟨na, ca⟩
  · rcases rparse_two b with ⟨ms, pb, cb⟩ | ⟨nb, cb⟩
    · refine ⟨cmpL ns ms, 0, fun V hV => cmpOk a b pa pb V hV, fun V => ?_⟩
      have CA := Lib.hid (ca V)
      have CB := Lib.hid cb
      have l1 := Lib.hid pa.len
      have l2 := Lib.hid pb.len
      clear ca cb pa pb
      go_enter Tryz.func17, Tryz.ntmps17
      go_wp2_with fail
      refine CA.out.mono ?_; rintro e w1 ⟨v1, rfl, i1, b1⟩
      have I1 := Lib.hid i1
      have B1 := Lib.hid b1
      clear i1 b1 CA
      go_wp2_with fail
      refine (CB.out w1).mono ?_; rintro e w2 ⟨v2, rfl, i2, b2⟩
      have B2 := Lib.hid (B1.out.trans (b2.mono B1.out.size))
      have LS := Lib.hid (less_any v1 v2 ns ms w2 (by have := l1.out; omega) (by have := l2.out; omega) (I1.out.below b2) i2)
      clear i2 b2 CB
      go_wp2_with fail
      refine LS.out.mono ?_; rintro e w3 ⟨rfl, q, rfl⟩
      have B3 := Lib.hid (B2.out.trans ((below_drewN w2 q).mono B2.out.size))
      go_wp2_with fail
      go_ret2
      exact ⟨rfl, B3.out⟩
    · refine ⟨0, 3, fun V hV => cmpBad a b (Or.inr nb) V hV, fun V => ?_⟩
      have CA := Lib.hid (ca V)
      have CB := Lib.hid cb
      clear ca cb pa nb
      go_enter Tryz.func17, Tryz.ntmps17
      go_wp2_with fail
      refine CA.out.mono ?_; rintro e w1 ⟨v1, rfl, i1, b1⟩
      have B1 := Lib.hid b1
      clear i1 b1 CA
      go_wp2_with fail
      refine (CB.out w1).mono ?_; rintro e w2 ⟨rfl, b2⟩
      have B2 := Lib.hid (B1.out.trans (b2.mono B1.out.size))
      clear b2 CB
      go_wp2_with fail
      go_ret2
      exact ⟨rfl, B2.out⟩
  · have cb : ∀ w, Calls Tryz.prog 9 #[.string b.1] w fun e w' => ∃ v k, e = .returned (.tuple #[v, .int .i64 k]) ∧ Below w.heap.size w w' := by
      rcases rparse_two b with ⟨ms, pb, cb⟩ | ⟨nb, cb⟩
      · exact fun w => (cb w).mono fun e w' ⟨v, h, _, g⟩ => ⟨v, 0, h, g⟩
      · exact fun w => (cb w).mono fun e w' ⟨h, g⟩ => ⟨_, 3, h, g⟩
    refine ⟨0, 3, fun V hV => cmpBad a b (Or.inl na) V hV, fun V => ?_⟩
    have CA := Lib.hid (ca V)
    have CB := Lib.hid cb
    clear ca cb na
    go_enter Tryz.func17, Tryz.ntmps17
    go_wp2_with fail
    refine CA.out.mono ?_; rintro e w1 ⟨rfl, b1⟩
    have B1 := Lib.hid b1
    clear b1 CA
    go_wp2_with fail
    refine (CB.out w1).mono ?_; rintro e w2 ⟨v2, k2, rfl, b2⟩
    have B2 := Lib.hid (B1.out.trans (b2.mono B1.out.size))
    clear b2 CB
    go_wp2_with fail
    go_ret2
    exact ⟨rfl, B2.out⟩
theorem wi_cmp {ns ms : List Nat} (h : ms.length ≤ ns.length) : wiL ns ms = decide (cmpL (ns.take ms.length) ms = 0) := by
  unfold wiL
  by_cases e : ns.take ms.length = ms
  · rw [decide_eq_true ⟨h, e⟩, e, cmpL_self]; rfl
  · rw [decide_eq_false (fun g => e g.2), decide_eq_false (fun g => e (cmpL_zero g))]
theorem IsN.take {w : World} {g off c n : Nat} {ns : List Nat} (h : IsN w (.slice (some ⟨g, off, none⟩) n c) ns) (m : Nat) (hm : m ≤ ns.length) : IsN w (.slice (some ⟨g, off, none⟩) m c) (ns.take m) := by
  obtain ⟨g', off', c', e, h1, h2, h3⟩ := h
  obtain ⟨e1, _, rfl⟩ := Value.slice.inj e
  cases e1
  refine ⟨g, off, c, by rw [List.length_take]; congr 1; omega, h1, by rw [List.length_take]; omega, fun j hj => ?_⟩
  rw [h3 j (by rw [List.length_take] at hj; omega), List.getElem_take]
set_option maxHeartbeats 4000000 in
theorem within_same (a b : Txt) : ∃ z : Bool,
    (∀ V, Lw V → Calls Tryz.prog 20 #[.string a.1, .string b.1] V fun e w' => e = .returned (.bool z) ∧ Below V.heap.size V w') ∧
    (∀ V, Calls Tryz.prog 21 #[.string a.1, .string b.1] V fun e w' => e = .returned (.bool z) ∧ Below V.heap.size V w') := by
  rcases rparse_two a with ⟨ns, pa, ca⟩ | ⟨na, ca⟩
  · rcases rparse_two b with ⟨ms, pb, cb⟩ | ⟨nb, cb⟩
    · refine ⟨wiL ns ms, fun V hV => witOk a b pa pb V hV, fun V => ?_⟩
      have CA := Lib.hid (ca V)
      have CB := Lib.hid cb
      have l1 := Lib.hid pa.len
      have l2 := Lib.hid pb.len
      clear ca cb pa pb
      go_enter Tryz.func21, Tryz.ntmps21
      go_wp2_with fail
      refine CA.out.mono ?_; rintro e w1 ⟨v1, rfl, i1, b1⟩
      have I1 := Lib.hid i1
      have B1 := Lib.hid b1
      clear i1 b1 CA
      go_wp2_with fail
      refine (CB.out w1).mono ?_; rintro e w2 ⟨v2, rfl, i2, b2⟩
      have B2 := Lib.hid (B1.out.trans (b2.mono B1.out.size))
      have J1 := I1.out.below b2
      obtain ⟨g, off, c, rfl, -, hc, -⟩ := id J1
      obtain ⟨g2, off2, c2, rfl, -, hd, -⟩ := id i2
      by_cases hle : ms.length ≤ ns.length
      · have LS := less_any _ _ (ns.take ms.length) ms w2 (by rw [List.length_take]; have := l1.out; omega) (by have := l2.out; omega) (J1.take ms.length hle) i2
        have WE := Lib.hid (wi_cmp hle)
        obtain ⟨x, hx⟩ : ∃ x, x = cmpL (ns.take ms.length) ms := ⟨_, rfl⟩
        rw [← hx] at LS WE
        have LS := Lib.hid LS
        have n6 : ns.length ≤ 6 := l1.out
        have D : decide ((ms.length : Int) ≤ (ns.length : Int)) = true := by simpa using hle
        have mc : ms.length ≤ c := by omega
        clear hx i2 b2 CB J1 I1
        generalize ns.length = n at *
        generalize ms.length = m at *
        have m0 : (0 : Int) ≤ (m : Int) := by omega
        have m1 : (m : Int) ≤ (c : Int) := by omega
        go_wp2_with fail
        refine LS.out.mono ?_; rintro e w3 ⟨rfl, q, rfl⟩
        have B3 := Lib.hid (B2.out.trans ((below_drewN w2 q).mono B2.out.size))
        go_wp2_with fail
        go_ret
        exact ⟨by rw [WE.out]; by_cases e : x = 0 <;> simp [e], B3.out⟩
      · have WE := Lib.hid (show wiL ns ms = false from decide_eq_false (fun h => hle h.1))
        have D : decide ((ms.length : Int) ≤ (ns.length : Int)) = false := by simp; omega
        have n6 : ns.length ≤ 6 := l1.out
        have m6 : ms.length ≤ 6 := l2.out
        clear i2 b2 CB J1 I1
        generalize ns.length = n at *
        generalize ms.length = m at *
        go_wp2_with fail
        go_ret
        exact ⟨by rw [WE.out]; rfl, B2.out⟩
    · refine ⟨false, fun V hV => (Within_any a b V hV).mono ?_, fun V => ?_⟩
      · rintro e w' ⟨⟨z, rfl, hz⟩, hb⟩
        cases z with
        | false => exact ⟨rfl, hb⟩
        | true => obtain ⟨_, ms, _, h, _⟩ := hz.1 rfl; exact absurd h (nb ms)
      have CA := Lib.hid (ca V)
      have CB := Lib.hid cb
      clear ca cb pa nb
      go_enter Tryz.func21, Tryz.ntmps21
      go_wp2_with fail
      refine CA.out.mono ?_; rintro e w1 ⟨v1, rfl, i1, b1⟩
      have B1 := Lib.hid b1
      clear i1 b1 CA
      go_wp2_with fail
      refine (CB.out w1).mono ?_; rintro e w2 ⟨rfl, b2⟩
      have B2 := Lib.hid (B1.out.trans (b2.mono B1.out.size))
      clear b2 CB
      go_wp2_with fail
      go_ret
      exact ⟨rfl, B2.out⟩
  · have cb : ∀ w, Calls Tryz.prog 9 #[.string b.1] w fun e w' => ∃ v k, e = .returned (.tuple #[v, .int .i64 k]) ∧ Below w.heap.size w w' := by
      rcases rparse_two b with ⟨ms, pb, cb⟩ | ⟨nb, cb⟩
      · exact fun w => (cb w).mono fun e w' ⟨v, h, _, g⟩ => ⟨v, 0, h, g⟩
      · exact fun w => (cb w).mono fun e w' ⟨h, g⟩ => ⟨_, 3, h, g⟩
    refine ⟨false, fun V hV => (Within_any a b V hV).mono ?_, fun V => ?_⟩
    · rintro e w' ⟨⟨z, rfl, hz⟩, hb⟩
      cases z with
      | false => exact ⟨rfl, hb⟩
      | true => obtain ⟨ns, _, h, _⟩ := hz.1 rfl; exact absurd h (na ns)
    have CA := Lib.hid (ca V)
    have CB := Lib.hid cb
    clear ca cb na
    go_enter Tryz.func21, Tryz.ntmps21
    go_wp2_with fail
    refine CA.out.mono ?_; rintro e w1 ⟨rfl, b1⟩
    have B1 := Lib.hid b1
    clear b1 CA
    go_wp2_with fail
    refine (CB.out w1).mono ?_; rintro e w2 ⟨v2, k2, rfl, b2⟩
    have B2 := Lib.hid (B1.out.trans (b2.mono B1.out.size))
    clear b2 CB
    go_wp2_with fail
    go_ret
    exact ⟨rfl, B2.out⟩
end Go.Proofs.YtnjnjcgbdhiigaaGreatDoor
