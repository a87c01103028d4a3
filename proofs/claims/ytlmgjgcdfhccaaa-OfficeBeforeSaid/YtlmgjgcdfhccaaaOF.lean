/- indexed. -/
import Derived.Test.YtlmgjgcdfhccaaaOE
namespace Go.Proofs.Ytlmgjgcdfhccaaa
open Go.RowKit Go.Maps Go.Shelf

set_option maxRecDepth 100000 in
theorem Ix.look {w : World} {b : Nat} {os : List Of} (h : Ix w b os) {id : Int} (hid : W64 id) :
    (Instr.lookup 39 (.map (some b)) (.int .i64 id) true).run Try.prog w = .ok (.tuple #[.int .i64 (((ixO os id).getD 0 : Nat) : Int), .bool (ixO os id).isSome]) w := by
  obtain ⟨D, hD, xD⟩ := h
  obtain ⟨v, ps, hrun, hv⟩ := hD.look_ok lawI Try.underlying39 (zeroI w) (plainElem_int Try.underlying3 (by decide)) (keyI hid)
  obtain ⟨c, rfl, hc, _⟩ := plainElem_int_inv Try.underlying3 hv
  have hc : D.atKey (.int .i64 id) (.lit (.int .i64 0)) = .lit (.int .i64 c) := congrArg Prod.fst hc
  rw [xD.at_] at hc
  injection hc with hc
  rw [hrun, xD.has, litI_inj hc]
set_option maxRecDepth 100000 in
theorem Ix.get {w : World} {b : Nat} {os : List Of} (h : Ix w b os) {id : Int} (hid : W64 id) :
    (Instr.lookup 39 (.map (some b)) (.int .i64 id) false).run Try.prog w = .ok (.int .i64 (((ixO os id).getD 0 : Nat) : Int)) w := by
  obtain ⟨D, hD, xD⟩ := h
  obtain ⟨c, hrun, hat, _⟩ := hD.lookup_int lawI Try.underlying39 Try.underlying3 (zeroI w) (keyI hid)
  rw [xD.at_] at hat
  injection hat with hc
  rw [hrun, litI_inj hc]
set_option maxRecDepth 100000 in
theorem Ix.put {w : World} {b : Nat} {os : List Of} (h : Ix w b os) {o : Of} (hid : W64 o.id) (hs : (ixO os o.id).isSome = false) (hl : os.length ≤ 1000) :
    ∃ w', (Instr.mapUpdate 39 (.map (some b)) (.int .i64 o.id) (.int .i64 (os.length : Int))).run Try.prog w = .ok () w' ∧ Ix w' b (os ++ [o]) ∧ w.grownBy w' (some b) := by
  obtain ⟨D, hD, xD⟩ := h
  obtain ⟨w', hrun, hown, hg⟩ := hD.update lawI Try.underlying39 (by unfold maxLen; omega) (keyI hid) (plainElem_int (H := Unit) (q := .i64) (a := (os.length : Int)) Try.underlying3 (WalkArith.wf_i64 (by omega)))
  exact ⟨w', hrun, ⟨_, by rw [List.length_append]; exact hown, xD.add hs⟩, hg⟩
theorem Ix.skip {w : World} {b : Nat} {os : List Of} (h : Ix w b os) {o : Of} (hs : (ixO os o.id).isSome = true) : Ix w b (os ++ [o]) := by
  obtain ⟨D, hD, xD⟩ := h
  exact ⟨D, by rw [List.length_append]; exact hD.mono (Nat.le_add_right _ _), xD.skip hs⟩
/-- What the loop keeps. -/
structure IxL (os : List Of) (w : World) (k : Nat) (wr : World) : Prop where
  bel : Below w.heap.size w wr
  ix : Ix wr w.heap.size (os.take k)
set_option maxRecDepth 100000 in
set_option maxHeartbeats 4000000 in
theorem indexed_any (v : Value) (os : List Of) (w : World) (hv : IsO w v os) (hn : os.length ≤ 1000) (hr : NumO os) :
    Calls Try.prog 43 #[v] w fun e w' => e = .returned (.map (some w.heap.size)) ∧ Ix w' w.heap.size os ∧ Below w.heap.size w w' := by
  obtain ⟨p, c, rfl, hc, hp⟩ := hv
  obtain ⟨n, hnn⟩ : ∃ n, n = os.length := ⟨_, rfl⟩
  rw [← hnn] at hn hc ⊢
  have HN := Lib.hid hnn
  have HP := Lib.hid hp
  have HR := Lib.hid hr
  clear hp hr hnn
  have hmm := run_mkMap (n : Int)
  go_enter Try.func43, Try.ntmps43
  go_wp2_with fail
  go_loopw [13] (fun si wr => ∃ k : Nat, k ≤ n ∧ si = .int .i64 k ∧ Hid (IxL os w k wr)) (fun si _ => n - (intOf si).toNat)
  case atStart => exact ⟨0, Nat.zero_le _, rfl, (Below.refl _ w).alloc (Nat.le_refl _) _, _, by rw [List.take_zero]; exact World.ownsMap_made w _ _ _, by rw [List.take_zero]; exact IxD.nil⟩
  case round =>
    obtain ⟨k, hk, rfl, hrel⟩ := hrel
    clear hmm
    by_cases hlt : k < n
    · obtain ⟨o, ho⟩ : ∃ o, os[k]? = some o := ⟨_, List.getElem?_eq_getElem (by rw [← HN.out]; exact hlt)⟩
      obtain ⟨g, off, rfl, hcell⟩ := HP.out (by rw [← HN.out]; omega)
      have OA := (hcell k o ho).below hrel.out.bel
      have TK := Lib.hid (show os.take (k + 1) = os.take k ++ [o] by rw [List.take_add_one, ho]; rfl)
      have LK := Lib.hid (show (os.take k).length = k by rw [List.length_take]; have := HN.out; omega)
      have WF := (HR.out o (List.mem_of_getElem? ho)).1
      have IX0 := hrel.out.ix
      have LT := IX0.lt
      have BL := Lib.hid hrel.out.bel
      have IX1 := fun (ob : Obj) => IX0.kept (World.grownBy_alloc wr ob none) (by simp)
      have LOOK := fun (ob : Obj) => (IX1 ob).look WF
      have PUT := fun (ob : Obj) hs => (IX1 ob).put (o := o) WF hs (by rw [LK.out]; omega)
      have SKIP := Lib.hid (fun (V : World) (h : Ix V w.heap.size (os.take k)) hs => h.skip (o := o) hs)
      rw [LK.out] at PUT
      replace PUT := Lib.hid PUT
      have IX2 := Lib.hid IX1
      clear IX0 IX1 hrel ho
      obtain ⟨id, nm, fr, un, nx, q, cc⟩ := o
      obtain ⟨_, c0, c1, c2, c3, c4, _⟩ := OA
      replace c0 : wr.cell? ⟨g, off + k * 5, none⟩ = some (.int .i64 id) := c0
      replace c1 : wr.cell? ⟨g, off + k * 5 + 1, none⟩ = some (.string nm.1) := c1
      replace c2 : wr.cell? ⟨g, off + k * 5 + 2, none⟩ = some (.int .i64 fr) := c2
      replace c3 : wr.cell? ⟨g, off + k * 5 + 3, none⟩ = some (.int .i64 un) := c3
      replace c4 : wr.cell? ⟨g, off + k * 5 + 4, none⟩ = some (.slice q nx.length cc) := c4
      clear WF
      replace LOOK := LOOK (.cells #[.int .i64 id, .string nm.1, .int .i64 fr, .int .i64 un, .slice q nx.length cc] 43)
      have v0 : (wr.alloc (.cells #[.int .i64 id, .string nm.1, .int .i64 fr, .int .i64 un, .slice q nx.length cc] 43)).cell? ⟨wr.heap.size, 0, none⟩ = some (.int .i64 id) := World.cell?_alloc_mark wr _ _ (0, 0) 0
      have B1 := Lib.hid (BL.out.alloc BL.out.size (.cells #[.int .i64 id, .string nm.1, .int .i64 fr, .int .i64 un, .slice q nx.length cc] 43))
      cases hs : (ixO (os.take k) id).isSome with
      | true =>
        have SK := Lib.hid (SKIP.out (wr.alloc (.cells #[.int .i64 id, .string nm.1, .int .i64 fr, .int .i64 un, .slice q nx.length cc] 43)))
        rw [hs] at LOOK
        generalize (ixO (os.take k) id).getD 0 = m at LOOK
        have I1 := Lib.hid (show Ix (wr.alloc (.cells #[.int .i64 id, .string nm.1, .int .i64 fr, .int .i64 un, .slice q nx.length cc] 43)) w.heap.size (os.take (k + 1)) by
          rw [TK.out]
          exact SK.out (IX2.out _) hs)
        clear hs SKIP PUT SK IX2
        go_wp2_with fail
        go_roundw
        case rel => exact ⟨k + 1, by omega, by go_num, B1.out, I1.out⟩
        case measure => simp [intOf]; omega
      | false =>
        obtain ⟨w2, hup, ix2, g2⟩ := PUT.out (.cells #[.int .i64 id, .string nm.1, .int .i64 fr, .int .i64 un, .slice q nx.length cc] 43) hs
        rw [hs] at LOOK
        have I1 := Lib.hid (show Ix w2 w.heap.size (os.take (k + 1)) by rw [TK.out]; exact ix2)
        have B2 := Lib.hid (B1.out.grown g2 B1.out.size (fun j e => by cases e; exact Nat.le_refl _))
        replace hup : (Instr.mapUpdate 39 (.map (some w.heap.size)) (.int .i64 id) (.int .i64 (k : Int))).run Try.prog (wr.alloc (.cells #[.int .i64 id, .string nm.1, .int .i64 fr, .int .i64 un, .slice q nx.length cc] 43)) = .ok () w2 := hup
        generalize (ixO (os.take k) id).getD 0 = m at LOOK
        clear hs SKIP PUT IX2 ix2 g2
        go_wp2_with fail
        go_roundw
        case rel => exact ⟨k + 1, by omega, by go_num, B2.out, I1.out⟩
        case measure => simp [intOf]; omega
    · obtain rfl : k = n := by omega
      have F := Lib.hid (show Ix wr w.heap.size os by have := hrel.out.ix; rwa [List.take_of_length_le (by rw [← HN.out]; exact Nat.le_refl _)] at this)
      have B := Lib.hid hrel.out.bel
      clear hrel
      go_wp2_with fail
      go_ret
      exact ⟨rfl, F.out, B.out⟩
end Go.Proofs.Ytlmgjgcdfhccaaa
