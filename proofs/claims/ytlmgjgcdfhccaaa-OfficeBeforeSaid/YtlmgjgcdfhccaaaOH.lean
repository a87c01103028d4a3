/- nextFault. -/
import Derived.Test.YtlmgjgcdfhccaaaOG
namespace Go.Proofs.Ytlmgjgcdfhccaaa
open Go.RowKit Go.Maps Go.Shelf

theorem Ix.drewN {w : World} {b : Nat} {os : List Of} (h : Ix w b os) (j : Nat) : Ix (w.drewN j) b os := h.below (below_drewN w j)
theorem frA_at {os : List Of} {x : Int} {k : Nat} {o : Of} (h : ixO os x = some k) (ho : os[k]? = some o) : frA os x = o.fr := by
  unfold frA
  rw [h]
  show ((os[k]?).map (·.fr)).getD 0 = _
  rw [ho]; rfl
set_option maxRecDepth 100000 in
set_option maxHeartbeats 8000000 in
theorem nextFault_any (v : Value) (os : List Of) (b : Nat) (o : Of) (w : World) (hv : IsO w v os) (hn : os.length ≤ 1000) (hix : Ix w b os) (hz : IsZ w o.nv o.nx) (hr : ∀ x ∈ o.nx, W64 x) (hl : o.nx.length ≤ 1000) :
    Calls Try.prog 45 #[v, .map (some b), o.val] w fun e w' => e = .returned (.int .i64 (sucE os o)) ∧ Below w.heap.size w w' := by
  have S6 := Lib.hid (fun h => suc6 (os := os) (o := o) h)
  have S7 := Lib.hid (fun h x hx g => suc7 (os := os) (o := o) h (x := x) hx g)
  have S10 := Lib.hid (fun h k x hx g => suc10 (os := os) (o := o) h k (x := x) hx g)
  have S0 := Lib.hid (fun h k g => suc0 (os := os) (o := o) h k g)
  obtain ⟨E, hE⟩ : ∃ E, E = sucE os o := ⟨_, rfl⟩
  simp only [← hE] at S6 S7 S10 S0 ⊢
  clear hE
  obtain ⟨id, nm, fr, un, nx, q, cc⟩ := o
  show Calls Try.prog 45 #[v, .map (some b), .agg #[.int .i64 id, .string nm.1, .int .i64 fr, .int .i64 un, .slice q nx.length cc]] w fun e w' => e = .returned (.int .i64 E) ∧ Below w.heap.size w w'
  replace hz : IsZ w (.slice q nx.length cc) nx := hz
  replace hr : ∀ x ∈ nx, W64 x := hr
  replace hl : nx.length ≤ 1000 := hl
  replace S6 : Hid (¬ nx.Nodup → E = 6) := S6
  replace S7 : Hid (nx.Nodup → ∀ x ∈ nx, ixO os x = none → E = 7) := S7
  replace S10 : Hid (nx.Nodup → (∀ x ∈ nx, ixO os x ≠ none) → ∀ x ∈ nx, frA os x ≠ un → E = 10) := S10
  replace S0 : Hid (nx.Nodup → (∀ x ∈ nx, ixO os x ≠ none) → (∀ x ∈ nx, frA os x = un) → E = 0) := S0
  obtain ⟨p, c, rfl, hc, hp⟩ := hv
  obtain ⟨n, hnn⟩ : ∃ n, n = os.length := ⟨_, rfl⟩
  rw [← hnn] at hn hc ⊢
  have HN := Lib.hid hnn
  have HP := Lib.hid hp
  obtain ⟨q', cc', e1, hcc, hzc⟩ := hz
  obtain ⟨rfl, _, rfl⟩ := Value.slice.inj e1
  obtain ⟨m, hm⟩ : ∃ m, m = nx.length := ⟨_, rfl⟩
  rw [← hm] at hl hcc ⊢
  have HM := Lib.hid hm
  have HZ := Lib.hid hzc
  have HR := Lib.hid hr
  obtain ⟨W, hW⟩ : ∃ W, W = w.alloc (.cells #[.int .i64 id, .string nm.1, .int .i64 fr, .int .i64 un, .slice q m cc] 43) := ⟨_, rfl⟩
  have BW : Below w.heap.size w W := by rw [hW]; exact (Below.refl _ w).alloc (Nat.le_refl _) _
  have z3 : W.cell? ⟨w.heap.size, 3, none⟩ = some (.int .i64 un) := by rw [hW]; exact World.cell?_alloc_mark w _ _ (0, 0) 3
  have z4 : W.cell? ⟨w.heap.size, 4, none⟩ = some (.slice q m cc) := by rw [hW]; exact World.cell?_alloc_mark w _ _ (0, 0) 4
  have zs : w.heap.size < W.heap.size := by rw [hW]; simp
  have IW := Lib.hid (hix.below BW)
  have HB := Lib.hid BW
  have CELL := Lib.hid (fun (k : Nat) (h : k < m) => show ∃ g off, q = some ⟨g, off, none⟩ ∧ g < w.heap.size ∧ ∃ x, nx[k]? = some x ∧ W.cell? ⟨g, off + k, none⟩ = some (.int .i64 x) from by
    obtain ⟨g, off, e, hg, hcl⟩ := HZ.out (by rw [← HM.out]; omega)
    have hk : k < nx.length := by rw [← HM.out]; exact h
    exact ⟨g, off, e, hg, nx[k], List.getElem?_eq_getElem hk, (HB.out.cell (p := ⟨g, off + k, none⟩) hg).trans (hcl k hk)⟩)
  have CON := Lib.hid (fun (g off k : Nat) (x : Int) (hk : k ≤ m) (e : q = some ⟨g, off, none⟩) => show Calls Try.prog 24 #[.slice (some ⟨g, off, none⟩) k cc, .int .i64 x] W fun e w' => e = .returned (.bool ((nx.take k).contains x)) ∧ w' = W from by
    by_cases k0 : k = 0
    · subst k0
      exact (Any.slices_Contains_int_empty Try.lays107 _ cc x W).mono fun e w' ⟨h1, h2⟩ => ⟨h1, h2⟩
    · obtain ⟨g', off', e', hg, hcl⟩ := HZ.out (by rw [← HM.out]; omega)
      rw [e] at e'
      cases e'
      refine (Any.slices_Contains_int Try.lays107 g off k cc nx x W (by rw [← HM.out]; exact hk) (by omega) (fun j hj => ?_)).mono fun e w' ⟨h1, h2⟩ => ⟨h1, h2⟩
      rw [(HB.out.cell (p := ⟨g, off + j, none⟩) hg).trans (hcl j hj)]
      simp [List.getD, List.getElem?_eq_getElem hj])
  clear hp hnn hix BW hzc hm hr
  go_enter Try.func45, Try.ntmps45
  go_wp2_with fail
  rw [← hW]
  clear hW
  go_wp2_with fail
  go_loop [18] (fun i => ∃ k : Nat, k ≤ m ∧ i = .int .i64 k ∧ Hid ((nx.take k).Nodup)) (fun i => m - (intOf i).toNat)
  case atStart => exact ⟨0, Nat.zero_le _, rfl, by rw [List.take_zero]; exact List.nodup_nil⟩
  case round =>
    obtain ⟨k, hk, rfl, hrel⟩ := hrel
    by_cases hlt : k < m
    · obtain ⟨g, off, hq, hg, x, hx, cx⟩ := CELL.out k hlt
      have CO := Lib.hid (CON.out g off k x (by omega) hq)
      have hkc : (k : Int) ≤ (cc : Int) := by omega
      have HX := Lib.hid hx
      subst hq
      clear hx
      cases hcon : (nx.take k).contains x with
      | true =>
        have N := Lib.hid (S6.out (not_nodup HX.out (List.contains_iff_mem.1 hcon)))
        rw [hcon] at CO
        clear hcon hrel
        go_wp2_with fail
        refine CO.out.mono ?_; rintro e w1 ⟨rfl, rfl⟩
        go_wp2_with fail
        go_ret
        exact ⟨by rw [N.out]; rfl, HB.out⟩
      | false =>
        have N := Lib.hid (nodup_snoc hrel.out HX.out (fun h => by rw [List.contains_iff_mem.2 h] at hcon; cases hcon))
        rw [hcon] at CO
        clear hcon hrel
        go_wp2_with fail
        refine CO.out.mono ?_; rintro e w1 ⟨rfl, hw1⟩
        obtain rfl : W = w1 := hw1.symm
        go_wp2_with fail
        go_round
        case rel => exact ⟨k + 1, by omega, by go_num, N.out⟩
        case measure => simp [intOf]; omega
    · obtain rfl : k = m := by omega
      have ND := Lib.hid (show nx.Nodup by have := hrel.out; rwa [List.take_of_length_le (by rw [← HM.out]; exact Nat.le_refl _)] at this)
      clear hrel CON
      go_wp2_with fail
      go_loop [33] (fun i => ∃ j : Nat, j ≤ k ∧ i = .int .i64 j ∧ Hid (∀ x ∈ nx.take j, ixO os x ≠ none)) (fun i => k - (intOf i).toNat)
      case atStart => exact ⟨0, Nat.zero_le _, rfl, fun x h => by simp at h⟩
      case round =>
        obtain ⟨j, hj, rfl, hrel⟩ := hrel
        by_cases hlt : j < k
        · obtain ⟨g, off, hq, hg, x, hx, cx⟩ := CELL.out j hlt
          have LOOK := IW.out.look (HR.out x (List.mem_of_getElem? hx))
          have HX := Lib.hid hx
          subst hq
          clear hx
          cases hi : ixO os x with
          | none =>
            have N := Lib.hid (S7.out ND.out x (List.mem_of_getElem? HX.out) hi)
            rw [hi] at LOOK
            replace LOOK : (Instr.lookup 39 (.map (some b)) (.int .i64 x) true).run Try.prog W = .ok (.tuple #[.int .i64 ((0 : Nat) : Int), .bool false]) W := LOOK
            clear hi hrel
            go_wp2_with fail
            go_ret
            exact ⟨by rw [N.out]; rfl, HB.out⟩
          | some i =>
            have N := Lib.hid (show ∀ y ∈ nx.take (j + 1), ixO os y ≠ none from fun y hy => by
              rw [List.take_add_one, HX.out] at hy
              rcases List.mem_append.1 hy with h | h
              · exact hrel.out y h
              · obtain rfl : y = x := by simpa using h
                rw [hi]; simp)
            rw [hi] at LOOK
            replace LOOK : (Instr.lookup 39 (.map (some b)) (.int .i64 x) true).run Try.prog W = .ok (.tuple #[.int .i64 ((i : Nat) : Int), .bool true]) W := LOOK
            clear hi hrel
            go_wp2_with fail
            go_round
            case rel => exact ⟨j + 1, by omega, by go_num, N.out⟩
            case measure => simp [intOf]; omega
        · obtain rfl : j = k := by omega
          have AL := Lib.hid (show ∀ x ∈ nx, ixO os x ≠ none by have := hrel.out; rwa [List.take_of_length_le (by rw [← HM.out]; exact Nat.le_refl _)] at this)
          clear hrel
          go_wp2_with fail
          go_loopw [49] (fun si wr => ∃ i : Nat, i ≤ j ∧ si = .int .i64 i ∧ Hid (∀ x ∈ nx.take i, frA os x = un) ∧ ∃ qd, wr = W.drewN qd) (fun si _ => j - (intOf si).toNat)
          case atStart => exact ⟨0, Nat.zero_le _, rfl, fun x h => by simp at h, 0, rfl⟩
          case round =>
            obtain ⟨i, hi, rfl, hrel, qd, rfl⟩ := hrel
            by_cases hlt : i < j
            · obtain ⟨g, off, hq, hg, x, hx, cx⟩ := CELL.out i hlt
              obtain ⟨y, hy⟩ := Option.ne_none_iff_exists'.1 (AL.out x (List.mem_of_getElem? hx))
              have hyn : y < n := by rw [HN.out]; exact ixO_lt hy
              obtain ⟨o2, ho2⟩ : ∃ o2, os[y]? = some o2 := ⟨_, List.getElem?_eq_getElem (by rw [← HN.out]; exact hyn)⟩
              have FA := frA_at hy ho2
              obtain ⟨g2, off2, hp2, hcell⟩ := HP.out (by rw [← HN.out]; omega)
              have c2 := ((hcell y o2 ho2).below HB.out).c2
              have LOOK : ∀ j, (Instr.lookup 39 (.map (some b)) (.int .i64 x) false).run Try.prog (W.drewN j) = .ok (.int .i64 ((y : Nat) : Int)) (W.drewN j) := fun j => by
                have := (IW.out.drewN j).get (HR.out x (List.mem_of_getElem? hx))
                rw [hy] at this
                exact this
              obtain ⟨f2, hf2⟩ : ∃ f2, f2 = o2.fr := ⟨_, rfl⟩
              rw [← hf2] at c2 FA
              have HX := Lib.hid hx
              have FAh := Lib.hid FA
              have yb : y ≤ 1000 := by omega
              subst hq hp2
              clear hx hy ho2 hf2 hcell FA
              by_cases e : f2 = un
              · have N := Lib.hid (show ∀ z ∈ nx.take (i + 1), frA os z = un from fun z hz => by
                  rw [List.take_add_one, HX.out] at hz
                  rcases List.mem_append.1 hz with h | h
                  · exact hrel.out z h
                  · obtain rfl : z = x := by simpa using h
                    rw [FAh.out, e])
                have D : (f2 != un) = false := by simpa using e
                have D2 : (f2 == un) = true := by simpa using e
                clear hrel e
                go_wp2_with fail
                go_quiet (fail)
                go_wp2_with fail
                go_roundw
                case rel => exact ⟨i + 1, by omega, by go_num, N.out, _, rfl⟩
                case measure => simp [intOf]; omega
              · have N := Lib.hid (S10.out ND.out AL.out x (List.mem_of_getElem? HX.out) (by rw [FAh.out]; exact e))
                have D : (f2 != un) = true := by simpa using e
                have D2 : (f2 == un) = false := by simpa using e
                clear hrel e
                go_wp2_with fail
                go_quiet (fail)
                go_wp2_with fail
                go_ret
                exact ⟨by rw [N.out]; rfl, BdN (BdN HB.out _) _⟩
            · obtain rfl : i = j := by omega
              have N := Lib.hid (S0.out ND.out AL.out (by have := hrel.out; rwa [List.take_of_length_le (by rw [← HM.out]; exact Nat.le_refl _)] at this))
              have BB := Lib.hid (BdN HB.out qd)
              clear hrel
              go_wp2_with fail
              go_ret
              exact ⟨by rw [N.out]; rfl, BB.out⟩
end Go.Proofs.Ytlmgjgcdfhccaaa
