/- The closures of Known and Trigger; selected. -/
import Derived.Test.YtfgpmghaebdhpaaGreatDoorFA
import Derived.Laws.Entries
namespace Go.Proofs.YtfgpmghaebdhpaaGreatDoor
open Go.RowKit Go.Shelf

set_option maxRecDepth 100000 in
theorem known1_any (x : Nt) (d : Int) (b : Nat) (w : World) (hb : w.cell? ⟨b, 0, none⟩ = some (.int .i64 d)) :
    Calls Tryz.prog 28 #[x.val, .pointer (some ⟨b, 0, none⟩)] w fun e w' => e = .returned (.bool (decide (x.r ≤ d))) ∧ Below w.heap.size w w' := by
  obtain ⟨nm, f, l, r⟩ := x
  show Calls Tryz.prog 28 #[.agg #[.string nm, .int .i64 f, .int .i64 l, .int .i64 r], .pointer (some ⟨b, 0, none⟩)] w fun e w' => e = .returned (.bool (decide (r ≤ d))) ∧ Below w.heap.size w w'
  have BB := Lib.hid ((Below.refl w.heap.size w).alloc (Nat.le_refl _) (.cells #[.string nm, .int .i64 f, .int .i64 l, .int .i64 r] 39))
  have lt := nLt hb
  go_enter Tryz.func28, Tryz.ntmps28
  go_wp2_with fail
  go_ret
  exact ⟨rfl, BB.out⟩
set_option maxRecDepth 100000 in
theorem trig1_any (x : Nt) (s : ByteArray) (d : Int) (a b : Nat) (w : World) (ha : w.cell? ⟨a, 0, none⟩ = some (.string s)) (hb : w.cell? ⟨b, 0, none⟩ = some (.int .i64 d)) :
    Calls Tryz.prog 22 #[x.val, .pointer (some ⟨a, 0, none⟩), .pointer (some ⟨b, 0, none⟩)] w fun e w' => e = .returned (.bool (x.nm.toList == s.toList && decide (x.r ≤ d))) ∧ Below w.heap.size w w' := by
  obtain ⟨nm, f, l, r⟩ := x
  show Calls Tryz.prog 22 #[.agg #[.string nm, .int .i64 f, .int .i64 l, .int .i64 r], .pointer (some ⟨a, 0, none⟩), .pointer (some ⟨b, 0, none⟩)] w fun e w' => e = .returned (.bool (nm.toList == s.toList && decide (r ≤ d))) ∧ Below w.heap.size w w'
  have BB := Lib.hid ((Below.refl w.heap.size w).alloc (Nat.le_refl _) (.cells #[.string nm, .int .i64 f, .int .i64 l, .int .i64 r] 39))
  have lta := nLt ha
  have ltb := nLt hb
  cases c : (nm.toList == s.toList) with
  | true =>
    go_enter Tryz.func22, Tryz.ntmps22
    go_wp2_with fail
    go_ret
    exact ⟨rfl, BB.out⟩
  | false =>
    go_enter Tryz.func22, Tryz.ntmps22
    go_wp2_with fail
    go_ret
    exact ⟨rfl, BB.out⟩
/-- What selected keeps. -/
structure SelL (ns : List Nt) (f : Nt → Bool) (w : World) (k : Nat) (u : Value) (wr : World) : Prop where
  own : wr.ownsRow w.heap.size 39 4 u ((ns.take k).filter f).length (cellsN ((ns.take k).filter f))
  bel : Below w.heap.size w wr
set_option maxRecDepth 100000 in
set_option maxHeartbeats 4000000 in
theorem selected_any (k0 : FuncId) (caps : Array Value) (eg : ∀ args w, (callFunc k0 args).run Tryz.prog w = .ok (.enter k0 args) w) (f : Nt → Bool) (v : Value) (ns : List Nt) (w : World) (hv : IsNt w v ns) (hn : ns.length ≤ 1000)
    (hq : ∀ V x, Below w.heap.size w V → Calls Tryz.prog k0 (#[x.val] ++ caps) V fun e V' => e = .returned (.bool (f x)) ∧ Below V.heap.size V V') :
    Calls Tryz.prog 21 #[v, .func (.func k0) #[] caps] w fun e w' => ∃ u, e = .returned u ∧ IsNt w' u (ns.filter f) ∧ Below w.heap.size w w' := by
  have HQ := Lib.hid hq
  obtain ⟨p, c, rfl, hc, hp⟩ := hv
  obtain ⟨n, hnn⟩ : ∃ n, n = ns.length := ⟨_, rfl⟩
  rw [← hnn] at hn hc ⊢
  have HN := Lib.hid hnn
  have HP := Lib.hid hp
  obtain ⟨ai, hi, hz0, hz1, hz2⟩ := info_parts (P := Tryz.prog) (e := 39) (z := .agg #[.string ⟨#[]⟩, .int .i64 0, .int .i64 0, .int .i64 0]) (size := 4) (bytes := 40) (by kernel_rfl)
  have US : Tryz.prog.underlying 22 = some (.slice 39) := by kernel_rfl
  clear hp hnn hq
  go_enter Tryz.func21, Tryz.ntmps21
  go_wp2_with fail
  go_loopw [5, 10] (fun s5 s10 wr => ∃ k : Nat, k ≤ n ∧ s10 = .int .i64 k ∧ Hid (SelL ns f w k s5 wr)) (fun _ si _ => n - (intOf si).toNat)
  case atStart => exact ⟨0, Nat.zero_le _, rfl, ⟨World.ownsRow_nil _ _ _ _, Below.refl _ _⟩⟩
  case round =>
    obtain ⟨k, hk, rfl, hrel⟩ := hrel
    have OW := Lib.hid hrel.out.own
    have BL := Lib.hid hrel.out.bel
    clear hrel
    by_cases hlt : k < n
    · obtain ⟨x, hx⟩ : ∃ x, ns[k]? = some x := ⟨_, List.getElem?_eq_getElem (by rw [← HN.out]; exact hlt)⟩
      obtain ⟨g, off, rfl, hcell⟩ := HP.out (by rw [← HN.out]; omega)
      have OA := (hcell k x hx).below BL.out
      have B1 := Lib.hid (BL.out.alloc (BL.out.size) (.cells #[.string x.nm, .int .i64 x.f, .int .i64 x.l, .int .i64 x.r] 39))
      have A1 := Lib.hid ((Below.refl wr.heap.size wr).alloc (Nat.le_refl _) (.cells #[.string x.nm, .int .i64 x.f, .int .i64 x.l, .int .i64 x.r] 39))
      have F1 := Lib.hid (HQ.out _ x B1.out)
      have BX := Lib.hid (Bx4.new wr x)
      have LEN := Lib.hid (show ((ns.take k).filter f).length ≤ 1000 from Nat.le_trans (List.length_filter_le _ _) (by rw [List.length_take]; omega))
      have TK := Lib.hid (show (ns.take (k + 1)).filter f = (ns.take k).filter f ++ (if f x then [x] else []) by
        rw [List.take_add_one, hx, List.filter_append]
        show _ ++ List.filter f [x] = _
        rw [List.filter_cons, List.filter_nil])
      clear hcell hx
      obtain ⟨nm1, f1, l1, r1⟩ := x
      obtain ⟨lt0, c0, c1, c2, c3⟩ := OA
      replace c0 : wr.cell? ⟨g, off + k * 4, none⟩ = some (.string nm1) := c0
      replace c1 : wr.cell? ⟨g, off + k * 4 + 1, none⟩ = some (.int .i64 f1) := c1
      replace c2 : wr.cell? ⟨g, off + k * 4 + 2, none⟩ = some (.int .i64 l1) := c2
      replace c3 : wr.cell? ⟨g, off + k * 4 + 3, none⟩ = some (.int .i64 r1) := c3
      replace F1 : Hid (Calls Tryz.prog k0 (#[.agg #[.string nm1, .int .i64 f1, .int .i64 l1, .int .i64 r1]] ++ caps) (wr.alloc (.cells #[.string nm1, .int .i64 f1, .int .i64 l1, .int .i64 r1] 39)) fun e V' => e = .returned (.bool (f ⟨nm1, f1, l1, r1⟩)) ∧ Below (wr.alloc (.cells #[.string nm1, .int .i64 f1, .int .i64 l1, .int .i64 r1] 39)).heap.size (wr.alloc (.cells #[.string nm1, .int .i64 f1, .int .i64 l1, .int .i64 r1] 39)) V') := F1
      replace BX : Hid (Bx4 (wr.alloc (.cells #[.string nm1, .int .i64 f1, .int .i64 l1, .int .i64 r1] 39)) wr.heap.size ⟨nm1, f1, l1, r1⟩) := BX
      replace B1 : Hid (Below w.heap.size w (wr.alloc (.cells #[.string nm1, .int .i64 f1, .int .i64 l1, .int .i64 r1] 39))) := B1
      replace A1 : Hid (Below wr.heap.size wr (wr.alloc (.cells #[.string nm1, .int .i64 f1, .int .i64 l1, .int .i64 r1] 39))) := A1
      cases hf : f ⟨nm1, f1, l1, r1⟩ with
      | false =>
        rw [hf] at F1 TK
        clear hf
        go_wp2_with (go_at_fn k0; refine F1.out.mono ?_; rintro e w2 ⟨rfl, b2⟩)
        have BB := Lib.hid (B1.out.trans (b2.mono B1.out.size))
        have OW2 := Lib.hid (nOwn (nOwn OW.out A1.out) b2)
        clear b2 F1
        go_wp2_with fail
        go_roundw
        case rel => exact ⟨k + 1, by omega, by go_num, ⟨by rw [TK.out]; simpa using OW2.out, BB.out⟩⟩
        case measure => simp [intOf]; omega
      | true =>
        rw [hf] at F1 TK
        clear hf
        go_wp2_with (first | (go_at_fn k0; refine F1.out.mono ?_; rintro e w2 ⟨rfl, b2⟩; have y0 : w2.cell? ⟨wr.heap.size, 0, none⟩ = some (.string nm1) := (BX.out.below b2).c0; have y1 : w2.cell? ⟨wr.heap.size, 1, none⟩ = some (.int .i64 f1) := (BX.out.below b2).c1; have y2 : w2.cell? ⟨wr.heap.size, 2, none⟩ = some (.int .i64 l1) := (BX.out.below b2).c2; have y3 : w2.cell? ⟨wr.heap.size, 3, none⟩ = some (.int .i64 r1) := (BX.out.below b2).c3; have BB := Lib.hid (B1.out.trans (b2.mono B1.out.size)); have OW2 := Lib.hid (nOwn (nOwn OW.out A1.out) b2); have A3 := Lib.hid ((Below.refl w2.heap.size w2).alloc (Nat.le_refl _) (.cells #[.string nm1, .int .i64 f1, .int .i64 l1, .int .i64 r1] 39)); have B3 := Lib.hid (BB.out.trans (A3.out.mono BB.out.size)); have OW3 := Lib.hid (nOwn OW2.out A3.out); have NC := Lib.hid (nCell w2 #[.string nm1, .int .i64 f1, .int .i64 l1, .int .i64 r1] 39); have SZ := Lib.hid (show w.heap.size ≤ (w2.alloc (.cells #[.string nm1, .int .i64 f1, .int .i64 l1, .int .i64 r1] 39)).heap.size from B3.out.size); clear b2) | (at_builtin; refine wpList_append_own _ rfl _ _ 22 rfl w.heap.size 39 ai (.agg #[.string ⟨#[]⟩, .int .i64 0, .int .i64 0, .int .i64 0]) 4 40 US hi hz0 hz1 hz2 rfl (by decide) _ _ _ rfl OW3.out ⟨w2.heap.size, 0, none⟩ 1 1 (c4 ⟨nm1, f1, l1, r1⟩) rfl rfl (fun j u hj => by rw [Addr.add_lit, Nat.zero_add, NC.out j]; simpa [c4] using hj) (by simp [c4, Value.oneCell']) (by have := LEN.out; unfold maxLen; omega) (by have := LEN.out; omega) SZ.out ?_; intro v' w' h2 h3 _; replace h2 := Lib.hid h2; replace h3 := Lib.hid h3))
        have OW4 := Lib.hid h2.out
        have B4 := Lib.hid (nBelow B3.out OW3.out h3.out)
        clear h2 h3
        go_roundw
        case rel => exact ⟨k + 1, by omega, by go_num, ⟨by rw [TK.out, if_pos trivial, cellsN_snoc, List.length_append]; exact OW4.out, B4.out⟩⟩
        case measure => simp [intOf]; omega
    · obtain rfl : k = n := by omega
      have R := ownN OW.out
      rw [List.take_of_length_le (by rw [← HN.out]; exact Nat.le_refl _)] at R
      replace R := Lib.hid R
      clear OW
      go_wp2_with fail
      go_ret
      exact ⟨_, rfl, R.out, BL.out⟩
end Go.Proofs.YtfgpmghaebdhpaaGreatDoor
