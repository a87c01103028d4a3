/- The reference's successors. -/
import Derived.Test.YtlmgjgcdfhccaaaOI
namespace Go.Proofs.Ytlmgjgcdfhccaaa
open Go.RowKit Go.Maps Go.Shelf

theorem not_nodup2 {l : List Int} {i k : Nat} {x : Int} (hi : l[i]? = some x) (hk : l[k]? = some x) (h : k < i) : ¬ l.Nodup :=
  not_nodup hi (by rw [List.mem_take_iff_getElem]; obtain ⟨a, b⟩ := List.getElem?_eq_some_iff.1 hk; exact ⟨k, by omega, b⟩)
set_option maxRecDepth 100000 in
set_option maxHeartbeats 8000000 in
theorem successors_any (v : Value) (os : List Of) (o : Of) (w : World) (hv : IsO w v os) (hn : os.length ≤ 1000) (hz : IsZ w o.nv o.nx) (hl : o.nx.length ≤ 1000) :
    Calls Try.prog 63 #[v, o.val] w fun e w' => e = .returned (.int .i64 (sucE os o)) ∧ Below w.heap.size w w' := by
  have S6 := Lib.hid (fun h => suc6 (os := os) (o := o) h)
  have S7 := Lib.hid (fun h x hx g => suc7 (os := os) (o := o) h (x := x) hx g)
  have S10 := Lib.hid (fun h k x hx g => suc10 (os := os) (o := o) h k (x := x) hx g)
  have S0 := Lib.hid (fun h k g => suc0 (os := os) (o := o) h k g)
  obtain ⟨E, hE⟩ : ∃ E, E = sucE os o := ⟨_, rfl⟩
  simp only [← hE] at S6 S7 S10 S0 ⊢
  clear hE
  obtain ⟨id, nm, fr, un, nx, q, cc⟩ := o
  show Calls Try.prog 63 #[v, .agg #[.int .i64 id, .string nm.1, .int .i64 fr, .int .i64 un, .slice q nx.length cc]] w fun e w' => e = .returned (.int .i64 E) ∧ Below w.heap.size w w'
  replace hz : IsZ w (.slice q nx.length cc) nx := hz
  replace hl : nx.length ≤ 1000 := hl
  replace S6 : Hid (¬ nx.Nodup → E = 6) := S6
  replace S7 : Hid (nx.Nodup → ∀ x ∈ nx, ixO os x = none → E = 7) := S7
  replace S10 : Hid (nx.Nodup → (∀ x ∈ nx, ixO os x ≠ none) → ∀ x ∈ nx, frA os x ≠ un → E = 10) := S10
  replace S0 : Hid (nx.Nodup → (∀ x ∈ nx, ixO os x ≠ none) → (∀ x ∈ nx, frA os x = un) → E = 0) := S0
  have HV := Lib.hid hv
  obtain ⟨p, c, rfl, hc, hp⟩ := hv
  obtain ⟨n, hnn⟩ : ∃ n, n = os.length := ⟨_, rfl⟩
  rw [← hnn] at hn hc HV ⊢
  have HN := Lib.hid hnn
  have HP := Lib.hid hp
  obtain ⟨q', cc', e1, hcc, hzc⟩ := hz
  obtain ⟨rfl, _, rfl⟩ := Value.slice.inj e1
  obtain ⟨m, hm⟩ : ∃ m, m = nx.length := ⟨_, rfl⟩
  rw [← hm] at hl hcc ⊢
  have HM := Lib.hid hm
  have HZ := Lib.hid hzc
  obtain ⟨W, hW⟩ : ∃ W, W = w.alloc (.cells #[.int .i64 id, .string nm.1, .int .i64 fr, .int .i64 un, .slice q m cc] 43) := ⟨_, rfl⟩
  have BW : Below w.heap.size w W := by rw [hW]; exact (Below.refl _ w).alloc (Nat.le_refl _) _
  have z3 : W.cell? ⟨w.heap.size, 3, none⟩ = some (.int .i64 un) := by rw [hW]; exact World.cell?_alloc_mark w _ _ (0, 0) 3
  have z4 : W.cell? ⟨w.heap.size, 4, none⟩ = some (.slice q m cc) := by rw [hW]; exact World.cell?_alloc_mark w _ _ (0, 0) 4
  have HB := Lib.hid BW
  have CELL := Lib.hid (fun (k : Nat) (h : k < m) => show ∃ g off, q = some ⟨g, off, none⟩ ∧ g < w.heap.size ∧ ∃ x, nx[k]? = some x ∧ W.cell? ⟨g, off + k, none⟩ = some (.int .i64 x) from by
    obtain ⟨g, off, e, hg, hcl⟩ := HZ.out (by rw [← HM.out]; omega)
    have hk : k < nx.length := by rw [← HM.out]; exact h
    exact ⟨g, off, e, hg, nx[k], List.getElem?_eq_getElem hk, (HB.out.cell (p := ⟨g, off + k, none⟩) hg).trans (hcl k hk)⟩)
  have FD1 := Lib.hid (fun (a : Nat) (x : Int) => rFind_any (.slice p n c) os x (W.drewN a) ((HV.out.below HB.out).below (below_drewN _ a)) (by rw [← HN.out]; exact hn))
  clear hp hnn BW hzc hm
  go_enter Try.func63, Try.ntmps63
  go_wp2_with fail
  rw [← hW]
  clear hW
  go_wp2_with fail
  go_loopw [5] (fun si wr => ∃ i : Nat, i ≤ m ∧ si = .int .i64 i ∧ Hid ((nx.take i).Nodup) ∧ ∃ qd, wr = W.drewN qd) (fun si _ => m - (intOf si).toNat)
  case atStart => exact ⟨0, Nat.zero_le _, rfl, by rw [List.take_zero]; exact List.nodup_nil, 0, rfl⟩
  case round =>
    obtain ⟨i, hi, rfl, hrel, qd, rfl⟩ := hrel
    by_cases hlt : i < m
    · obtain ⟨g, off, hq, hg, x, hx, cx⟩ := CELL.out i hlt
      have HX := Lib.hid hx
      subst hq
      clear hx
      go_wp2_with fail
      go_loopw [6] (fun si wr => ∃ j : Nat, j ≤ i ∧ si = .int .i64 j ∧ Hid (x ∉ nx.take j) ∧ ∃ qd, wr = W.drewN qd) (fun si _ => i - (intOf si).toNat)
      case atStart => exact ⟨0, Nat.zero_le _, rfl, by first | exact Lib.hid trivial | exact Lib.hid (by simp), qd, rfl⟩
      case round =>
        obtain ⟨j, hj, rfl, hin, qe, rfl⟩ := hrel
        by_cases hlj : j < i
        · obtain ⟨g', off', hq', hg', y, hy, cy⟩ := CELL.out j (by omega)
          cases hq'
          have HY := Lib.hid hy
          have jm : j < m := by omega
          clear hy
          by_cases e : y = x
          · have N := Lib.hid (S6.out (not_nodup2 HX.out (by rw [HY.out, e]) hlj))
            have D : (y == x) = true := by simpa using e
            clear e hin
            go_wp2_with fail
            go_quiet (fail)
            go_wp2_with fail
            go_ret
            exact ⟨by rw [N.out]; rfl, BdN (BdN HB.out _) _⟩
          · have N := Lib.hid (show x ∉ nx.take (j + 1) from fun h => by
              rw [List.take_add_one, HY.out] at h
              rcases List.mem_append.1 h with h | h
              · exact hin.out h
              · obtain rfl : x = y := by simpa using h
                exact e rfl)
            have D : (y == x) = false := by simpa using e
            clear e hin
            go_wp2_with fail
            go_quiet (fail)
            go_wp2_with fail
            go_roundw
            case rel => exact ⟨j + 1, by omega, by go_num, N.out, _, by first | (simp only [World.drewN_drewN]; rfl) | rfl⟩
            case measure => simp [intOf]; omega
        · obtain rfl : j = i := by omega
          have N := Lib.hid (nodup_snoc hrel.out HX.out hin.out)
          clear hin hrel
          go_wp2_with fail
          go_roundw
          case rel => exact ⟨j + 1, by omega, by go_num, N.out, _, by first | (simp only [World.drewN_drewN]; rfl) | rfl⟩
          case measure => simp [intOf]; omega
    · obtain rfl : i = m := by omega
      have ND := Lib.hid (show nx.Nodup by have := hrel.out; rwa [List.take_of_length_le (by rw [← HM.out]; exact Nat.le_refl _)] at this)
      clear hrel
      go_wp2_with fail
      go_loopw [7] (fun si wr => ∃ j : Nat, j ≤ i ∧ si = .int .i64 j ∧ Hid (∀ x ∈ nx.take j, ixO os x ≠ none) ∧ ∃ qd, wr = W.drewN qd) (fun si _ => i - (intOf si).toNat)
      case atStart => exact ⟨0, Nat.zero_le _, rfl, fun x h => by simp at h, qd, rfl⟩
      case round =>
        obtain ⟨j, hj, rfl, hrel, qe, rfl⟩ := hrel
        by_cases hlt : j < i
        · obtain ⟨g, off, hq, hg, x, hx, cx⟩ := CELL.out j hlt
          have F1 := Lib.hid (FD1.out qe x)
          have HX := Lib.hid hx
          subst hq
          clear hx
          cases hi : ixO os x with
          | none =>
            have N := Lib.hid (S7.out ND.out x (List.mem_of_getElem? HX.out) hi)
            have Z : ixZ os x = -1 := by unfold ixZ; rw [hi]
            rw [Z] at F1
            clear hi hrel Z
            go_wp2_with fail
            refine F1.out.mono ?_; rintro e w1 ⟨rfl, rfl⟩
            go_wp2_with fail
            go_ret
            exact ⟨by rw [N.out]; rfl, BdN HB.out _⟩
          | some y =>
            have N := Lib.hid (show ∀ y ∈ nx.take (j + 1), ixO os y ≠ none from fun y hy => by
              rw [List.take_add_one, HX.out] at hy
              rcases List.mem_append.1 hy with h | h
              · exact hrel.out y h
              · obtain rfl : y = x := by simpa using h
                rw [hi]; simp)
            have Z : ixZ os x = (y : Int) := by unfold ixZ; rw [hi]
            rw [Z] at F1
            have D : decide ((y : Int) < 0) = false := by simp
            clear hi hrel Z
            go_wp2_with fail
            refine F1.out.mono ?_; rintro e w1 ⟨rfl, rfl⟩
            go_wp2_with fail
            go_roundw
            case rel => exact ⟨j + 1, by omega, by go_num, N.out, _, rfl⟩
            case measure => simp [intOf]; omega
        · obtain rfl : j = i := by omega
          have AL := Lib.hid (show ∀ x ∈ nx, ixO os x ≠ none by have := hrel.out; rwa [List.take_of_length_le (by rw [← HM.out]; exact Nat.le_refl _)] at this)
          clear hrel
          go_wp2_with fail
          go_loopw [8] (fun si wr => ∃ i : Nat, i ≤ j ∧ si = .int .i64 i ∧ Hid (∀ x ∈ nx.take i, frA os x = un) ∧ ∃ qd, wr = W.drewN qd) (fun si _ => j - (intOf si).toNat)
          case atStart => exact ⟨0, Nat.zero_le _, rfl, fun x h => by simp at h, qe, rfl⟩
          case round =>
            obtain ⟨i, hi, rfl, hrel, qf, rfl⟩ := hrel
            by_cases hlt : i < j
            · obtain ⟨g, off, hq, hg, x, hx, cx⟩ := CELL.out i hlt
              obtain ⟨y, hy⟩ := Option.ne_none_iff_exists'.1 (AL.out x (List.mem_of_getElem? hx))
              have hyn : y < n := by rw [HN.out]; exact ixO_lt hy
              obtain ⟨o2, ho2⟩ : ∃ o2, os[y]? = some o2 := ⟨_, List.getElem?_eq_getElem (by rw [← HN.out]; exact hyn)⟩
              have FA := frA_at hy ho2
              obtain ⟨g2, off2, hp2, hcell⟩ := HP.out (by rw [← HN.out]; omega)
              have c2 := ((hcell y o2 ho2).below HB.out).c2
              have Z : ixZ os x = (y : Int) := by unfold ixZ; rw [hy]
              have F2 := Lib.hid (fun (b : Nat) => show Calls Try.prog 32 #[.slice p n c, .int .i64 x] (W.drewN (qf + b)) fun e w' => e = .returned (.int .i64 (y : Int)) ∧ ∃ k, w' = W.drewN (qf + k) from
                (FD1.out (qf + b) x).mono fun e w' ⟨h1, h2⟩ => ⟨by rw [h1, Z], b, h2⟩)
              obtain ⟨f2, hf2⟩ : ∃ f2, f2 = o2.fr := ⟨_, rfl⟩
              rw [← hf2] at c2 FA
              have HX := Lib.hid hx
              have FAh := Lib.hid FA
              have yb : y ≤ 1000 := by omega
              subst hq hp2
              clear hx hy ho2 hf2 hcell FA Z
              by_cases e : f2 = un
              · have N := Lib.hid (show ∀ z ∈ nx.take (i + 1), frA os z = un from fun z hz => by
                  rw [List.take_add_one, HX.out] at hz
                  rcases List.mem_append.1 hz with h | h
                  · exact hrel.out z h
                  · obtain rfl : z = x := by simpa using h
                    rw [FAh.out, e])
                have D : (f2 != un) = false := by simpa using e
                have D2 : (f2 == un) = true := by simpa using e
                clear hrel e
                go_wp2_with fail
                go_quiet ((go_at_call 32; exact F2.out _))
                go_wp2_with fail
                go_roundw
                case rel => exact ⟨i + 1, by omega, by go_num, N.out, _, by first | (simp only [World.drewN_drewN]; rfl) | rfl⟩
                case measure => simp [intOf]; omega
              · have N := Lib.hid (S10.out ND.out AL.out x (List.mem_of_getElem? HX.out) (by rw [FAh.out]; exact e))
                have D : (f2 != un) = true := by simpa using e
                have D2 : (f2 == un) = false := by simpa using e
                clear hrel e
                go_wp2_with fail
                go_quiet ((go_at_call 32; exact F2.out _))
                go_wp2_with fail
                go_ret
                exact ⟨by rw [N.out]; rfl, BdN (BdN HB.out _) _⟩
            · obtain rfl : i = j := by omega
              have N := Lib.hid (S0.out ND.out AL.out (by have := hrel.out; rwa [List.take_of_length_le (by rw [← HM.out]; exact Nat.le_refl _)] at this))
              have BB := Lib.hid (BdN HB.out qf)
              clear hrel
              go_wp2_with fail
              go_ret
              exact ⟨by rw [N.out]; rfl, BB.out⟩
end Go.Proofs.Ytlmgjgcdfhccaaa
