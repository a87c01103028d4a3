/- The reference's Known; SameNotes of equal lists. -/
import Derived.Test.YtfgpmghaebdhpaaGreatDoorFG
namespace Go.Proofs.YtfgpmghaebdhpaaGreatDoor
open Go.RowKit Go.Shelf

theorem emptyN (w : World) : (w.alloc (.cells #[] 39)).ownsRow w.heap.size 39 4 (.slice (some ⟨w.heap.size, 0, none⟩) 0 0) 0 (cellsN []) :=
  ⟨rfl, Or.inr ⟨w.heap.size, 0, #[], rfl, Nat.le_refl _, heap_alloc_new w _, Nat.le_refl _, by unfold maxLen; omega, rfl, rfl⟩⟩
/-- A list of notes in memory, from a block on. -/
def IsNtF (w : World) (K : Nat) (v : Value) (ns : List Nt) : Prop := ∃ p c, v = .slice p ns.length c ∧ ns.length ≤ c ∧ (0 < ns.length → ∃ g off, p = some ⟨g, off, none⟩ ∧ K ≤ g ∧ ∀ (j : Nat) x, ns[j]? = some x → NtAt w g (off + j * 4) x)
theorem IsNtF.isNt {w : World} {K : Nat} {v : Value} {ns : List Nt} (h : IsNtF w K v ns) : IsNt w v ns := by
  obtain ⟨p, c, h1, h2, h3⟩ := h
  exact ⟨p, c, h1, h2, fun h0 => by obtain ⟨g, off, e, _, hc⟩ := h3 h0; exact ⟨g, off, e, hc⟩⟩
theorem ownNF {w : World} {K K' : Nat} {v : Value} {ns : List Nt} (h : w.ownsRow K 39 4 v ns.length (cellsN ns)) (hK : K' ≤ K) : IsNtF w K' v ns := by
  obtain ⟨p, c, rfl, h2, h3⟩ := ownN h
  refine ⟨p, c, rfl, h2, fun h0 => ?_⟩
  obtain ⟨g, off, rfl, hc⟩ := h3 h0
  refine ⟨g, off, rfl, ?_, hc⟩
  rcases h.2 with ⟨e, _⟩ | ⟨b, cap, cur, e, hb, _⟩
  · injection e with e; cases e
  · injection e with e
    injection e with e
    injection e with e
    omega
set_option maxRecDepth 100000 in
set_option maxHeartbeats 8000000 in
theorem rKnown_any (x : Fl) (d : Int) (w : World) (hv : IsNt w x.nv x.ns) (hn : x.ns.length ≤ 1000) :
    Calls Tryz.prog 12 #[x.val, .int .i64 d] w fun e w' => ∃ u, e = .returned u ∧ IsNtF w' w.heap.size u (x.ns.filter fun n => decide (n.r ≤ d)) ∧ Below w.heap.size w w' := by
  obtain ⟨id, of, op, cl, cs, ti, pt, ns, p, c⟩ := x
  replace hv : IsNt w (.slice p ns.length c) ns := hv
  replace hn : ns.length ≤ 1000 := hn
  show Calls Tryz.prog 12 #[.agg #[.int .i64 id, .int .i64 of, .int .i64 op, .int .i64 cl, .string cs, .string ti, .int .i64 pt, .slice p ns.length c], .int .i64 d] w fun e w' => ∃ u, e = .returned u ∧ IsNtF w' w.heap.size u (ns.filter fun n => decide (n.r ≤ d)) ∧ Below w.heap.size w w'
  have B1 := (Below.refl w.heap.size w).alloc (Nat.le_refl _) (.cells #[.int .i64 id, .int .i64 of, .int .i64 op, .int .i64 cl, .string cs, .string ti, .int .i64 pt, .slice p ns.length c] 24)
  have C1 := nCell w #[.int .i64 id, .int .i64 of, .int .i64 op, .int .i64 cl, .string cs, .string ti, .int .i64 pt, .slice p ns.length c] 24 7
  obtain ⟨w1, hw1⟩ : ∃ w1, w1 = w.alloc (.cells #[.int .i64 id, .int .i64 of, .int .i64 op, .int .i64 cl, .string cs, .string ti, .int .i64 pt, .slice p ns.length c] 24) := ⟨_, rfl⟩
  rw [← hw1] at B1 C1
  have IV := hv.below B1
  have LB := nLt C1
  obtain ⟨B, hB⟩ : ∃ B, B = w.heap.size := ⟨_, rfl⟩
  rw [← hB] at C1 LB
  have HB := Lib.hid hB
  replace C1 : w1.cell? ⟨B, 7, none⟩ = some (.slice p ns.length c) := C1
  have BA := Lib.hid B1
  obtain ⟨p', c', e', hc, hp⟩ := IV
  obtain ⟨rfl, -, rfl⟩ := Value.slice.inj e'
  obtain ⟨n, hnn⟩ : ∃ n, n = ns.length := ⟨_, rfl⟩
  rw [← hnn] at hn hc C1 hw1 ⊢
  have HW := Lib.hid hw1
  have HN := Lib.hid hnn
  have HP := Lib.hid hp
  have HC1 := Lib.hid C1
  have HLB := Lib.hid LB
  obtain ⟨ai, hi, hz0, hz1, hz2⟩ := info_parts (P := Tryz.prog) (e := 39) (z := .agg #[.string ⟨#[]⟩, .int .i64 0, .int .i64 0, .int .i64 0]) (size := 4) (bytes := 40) (by kernel_rfl)
  have US : Tryz.prog.underlying 22 = some (.slice 39) := by kernel_rfl
  clear hp hnn hw1 e' hv B1 C1 LB hB
  go_enter Tryz.func12, Tryz.ntmps12
  go_upto_region 1 with (fail)
  have hw := HW.out
  have hB := HB.out
  rw [← hw, ← hB]
  clear hw hB
  go_wp2_with fail
  go_loopw [5, 6] (fun s5 s6 wr => ∃ k : Nat, k ≤ n ∧ s6 = .int .i64 k ∧ Hid (SelL ns (fun n => decide (n.r ≤ d)) w1 k s5 wr)) (fun _ si _ => n - (intOf si).toNat)
  case atStart => exact ⟨0, Nat.zero_le _, rfl, ⟨emptyN w1, (Below.refl _ w1).alloc (Nat.le_refl _) _⟩⟩
  case round =>
    obtain ⟨k, hk, rfl, hrel⟩ := hrel
    have OW := Lib.hid hrel.out.own
    have BL := Lib.hid hrel.out.bel
    clear hrel
    have c7 : wr.cell? ⟨B, 7, none⟩ = some (.slice p n c) := (BL.out.cell (p := ⟨B, 7, none⟩) HLB.out).trans HC1.out
    by_cases hlt : k < n
    · obtain ⟨x, hx⟩ : ∃ x, ns[k]? = some x := ⟨_, List.getElem?_eq_getElem (by rw [← HN.out]; exact hlt)⟩
      obtain ⟨g, off, rfl, hcell⟩ := HP.out (by rw [← HN.out]; omega)
      have OA := (hcell k x hx).below BL.out
      have A3 := Lib.hid ((Below.refl wr.heap.size wr).alloc (Nat.le_refl _) (.cells #[.string x.nm, .int .i64 x.f, .int .i64 x.l, .int .i64 x.r] 39))
      have NC := Lib.hid (nCell wr #[.string x.nm, .int .i64 x.f, .int .i64 x.l, .int .i64 x.r] 39)
      have LEN := Lib.hid (show ((ns.take k).filter (fun n => decide (n.r ≤ d))).length ≤ 1000 from Nat.le_trans (List.length_filter_le _ _) (by rw [List.length_take]; omega))
      have TK := Lib.hid (show (ns.take (k + 1)).filter (fun n => decide (n.r ≤ d)) = (ns.take k).filter (fun n => decide (n.r ≤ d)) ++ (if decide (x.r ≤ d) = true then [x] else []) by
        rw [List.take_add_one, hx, List.filter_append]
        show _ ++ List.filter _ [x] = _
        rw [List.filter_cons, List.filter_nil])
      clear hcell hx
      obtain ⟨nm1, f1, l1, r1⟩ := x
      obtain ⟨lt0, c0, c1, c2, c3⟩ := OA
      replace c0 : wr.cell? ⟨g, off + k * 4, none⟩ = some (.string nm1) := c0
      replace c1 : wr.cell? ⟨g, off + k * 4 + 1, none⟩ = some (.int .i64 f1) := c1
      replace c2 : wr.cell? ⟨g, off + k * 4 + 2, none⟩ = some (.int .i64 l1) := c2
      replace c3 : wr.cell? ⟨g, off + k * 4 + 3, none⟩ = some (.int .i64 r1) := c3
      replace A3 : Hid (Below wr.heap.size wr (wr.alloc (.cells #[.string nm1, .int .i64 f1, .int .i64 l1, .int .i64 r1] 39))) := A3
      replace NC : Hid (∀ i, (wr.alloc (.cells #[.string nm1, .int .i64 f1, .int .i64 l1, .int .i64 r1] 39)).cell? ⟨wr.heap.size, i, none⟩ = #[.string nm1, .int .i64 f1, .int .i64 l1, .int .i64 r1][i]?) := NC
      replace TK : Hid ((ns.take (k + 1)).filter (fun n => decide (n.r ≤ d)) = (ns.take k).filter (fun n => decide (n.r ≤ d)) ++ (if decide (r1 ≤ d) = true then [(⟨nm1, f1, l1, r1⟩ : Nt)] else [])) := TK
      have z1 : (0 : Int) ≤ (k : Int) := by omega
      have z2 : (k : Int) < (n : Int) := by omega
      cases hf : decide (r1 ≤ d) with
      | false =>
        have TT := Lib.hid (show (ns.take (k + 1)).filter (fun n => decide (n.r ≤ d)) = (ns.take k).filter (fun n => decide (n.r ≤ d)) by rw [TK.out, hf, if_neg (by simp), List.append_nil])
        clear TK
        go_wp2_with fail
        go_roundw
        case rel => exact ⟨k + 1, by omega, by go_num, ⟨by rw [TT.out]; exact OW.out, BL.out⟩⟩
        case measure => simp [intOf]; omega
      | true =>
        have TT := Lib.hid (show (ns.take (k + 1)).filter (fun n => decide (n.r ≤ d)) = (ns.take k).filter (fun n => decide (n.r ≤ d)) ++ [(⟨nm1, f1, l1, r1⟩ : Nt)] by rw [TK.out, hf, if_pos rfl])
        have B3 := Lib.hid (BL.out.trans (A3.out.mono BL.out.size))
        have OW3 := Lib.hid (nOwn OW.out A3.out)
        have SZ := Lib.hid (show w1.heap.size ≤ (wr.alloc (.cells #[.string nm1, .int .i64 f1, .int .i64 l1, .int .i64 r1] 39)).heap.size from B3.out.size)
        clear TK
        go_wp2_with (at_builtin; refine wpList_append_own _ rfl _ _ 22 rfl w1.heap.size 39 ai (.agg #[.string ⟨#[]⟩, .int .i64 0, .int .i64 0, .int .i64 0]) 4 40 US hi hz0 hz1 hz2 rfl (by decide) _ _ _ rfl OW3.out ⟨wr.heap.size, 0, none⟩ 1 1 (c4 ⟨nm1, f1, l1, r1⟩) rfl rfl (fun j u hj => by rw [Addr.add_lit, Nat.zero_add, NC.out j]; simpa [c4] using hj) (by simp [c4, Value.oneCell']) (by have := LEN.out; unfold maxLen; omega) (by have := LEN.out; omega) SZ.out ?_; intro v' w' h2 h3 _; replace h2 := Lib.hid h2; replace h3 := Lib.hid h3)
        have B4 := Lib.hid (nBelow B3.out OW3.out h3.out)
        clear h3
        go_roundw
        case rel => exact ⟨k + 1, by omega, by go_num, ⟨by rw [TT.out, cellsN_snoc, List.length_append]; exact h2.out, B4.out⟩⟩
        case measure => simp [intOf]; omega
    · obtain rfl : k = n := by omega
      have R := ownNF OW.out BA.out.size
      rw [List.take_of_length_le (by rw [← HN.out]; exact Nat.le_refl _)] at R
      replace R := Lib.hid R
      clear OW
      go_wp2_with fail
      go_ret
      exact ⟨_, rfl, R.out, BA.out.trans (BL.out.mono BA.out.size)⟩

set_option maxHeartbeats 4000000 in
theorem sameNotes_any (v u : Value) (ns : List Nt) (w : World) (hv : IsNt w v ns) (hu : IsNt w u ns) (hn : ns.length ≤ 1000) :
    Calls Tryz.prog 10 #[v, u] w fun e w' => e = .returned (.bool true) ∧ Below w.heap.size w w' := by
  obtain ⟨p, c, rfl, hc, hp⟩ := hv
  obtain ⟨q, d, rfl, hd, hq⟩ := hu
  obtain ⟨n, hnn⟩ : ∃ n, n = ns.length := ⟨_, rfl⟩
  rw [← hnn] at hc hd hn ⊢
  have HN := Lib.hid hnn
  have HP := Lib.hid hp
  have HQ := Lib.hid hq
  clear hp hq hnn
  go_enter Tryz.func10, Tryz.ntmps10
  go_wp2_with fail
  go_loopw [5] (fun si wr => ∃ k : Nat, k ≤ n ∧ si = .int .i64 k ∧ ∃ qd, wr = w.drewN qd) (fun si _ => n - (intOf si).toNat)
  case atStart => exact ⟨0, Nat.zero_le _, rfl, 0, rfl⟩
  case round =>
    obtain ⟨k, hk, rfl, qd, rfl⟩ := hrel
    by_cases hlt : k < n
    · obtain ⟨x, hx⟩ : ∃ x, ns[k]? = some x := ⟨_, List.getElem?_eq_getElem (by rw [← HN.out]; exact hlt)⟩
      obtain ⟨g, off, rfl, hc1⟩ := HP.out (by rw [← HN.out]; omega)
      obtain ⟨g2, off2, rfl, hc2⟩ := HQ.out (by rw [← HN.out]; omega)
      obtain ⟨-, a0, a1, a2, a3⟩ := hc1 k x hx
      obtain ⟨-, b0, b1, b2, b3⟩ := hc2 k x hx
      obtain ⟨nm, f, l, r⟩ := x
      have x0 : ∀ m, (w.drewN m).cell? ⟨g, off + k * 4, none⟩ = some (.string nm) := fun m => a0
      have x1 : ∀ m, (w.drewN m).cell? ⟨g, off + k * 4 + 1, none⟩ = some (.int .i64 f) := fun m => a1
      have x2 : ∀ m, (w.drewN m).cell? ⟨g, off + k * 4 + 2, none⟩ = some (.int .i64 l) := fun m => a2
      have x3 : ∀ m, (w.drewN m).cell? ⟨g, off + k * 4 + 3, none⟩ = some (.int .i64 r) := fun m => a3
      have y0 : ∀ m, (w.drewN m).cell? ⟨g2, off2 + k * 4, none⟩ = some (.string nm) := fun m => b0
      have y1 : ∀ m, (w.drewN m).cell? ⟨g2, off2 + k * 4 + 1, none⟩ = some (.int .i64 f) := fun m => b1
      have y2 : ∀ m, (w.drewN m).cell? ⟨g2, off2 + k * 4 + 2, none⟩ = some (.int .i64 l) := fun m => b2
      have y3 : ∀ m, (w.drewN m).cell? ⟨g2, off2 + k * 4 + 3, none⟩ = some (.int .i64 r) := fun m => b3
      have z1 : (0 : Int) ≤ (k : Int) := by omega
      have z2 : (k : Int) < (n : Int) := by omega
      clear a0 a1 a2 a3 b0 b1 b2 b3 hc1 hc2 hx
      go_wp2_with fail
      go_quiet (fail)
      go_wp2_with fail
      go_roundw
      case rel => exact ⟨k + 1, by omega, by go_num, _, rfl⟩
      case measure => show n - ((k : Int) + 1).toNat < n - (k : Int).toNat; omega
    · obtain rfl : k = n := by omega
      have BB := Lib.hid (nDrew w qd)
      go_wp2_with fail
      go_ret
      exact ⟨rfl, BB.out⟩
end Go.Proofs.YtfgpmghaebdhpaaGreatDoor
