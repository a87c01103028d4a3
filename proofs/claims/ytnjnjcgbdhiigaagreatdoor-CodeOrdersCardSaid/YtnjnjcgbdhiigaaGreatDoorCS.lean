/- The natural order: the iterator over the parts. -/
import Derived.Test.YtnjnjcgbdhiigaaGreatDoorCR
import Derived.RangeFuncKeeps
namespace Go.Proofs.YtnjnjcgbdhiigaaGreatDoor
open Go.RowKit Go.Shelf
attribute [local go_sem] Oper.semAt_some

set_option maxHeartbeats 1000000 in
theorem parts_any (a b : ByteArray) (V : World) :
    Calls Tryz.prog 63 #[.string a, .string b] V fun e V' => e = .returned (.func (.func 80) #[] #[.pointer (some ⟨V.heap.size, 0, none⟩), .pointer (some ⟨V.heap.size + 1, 0, none⟩)]) ∧
      V' = (V.alloc (.cells #[.string a] 9)).alloc (.cells #[.string b] 9) := by
  go_enter Tryz.func63, Tryz.ntmps63
  go_wp2
  go_ret
  first | exact ⟨rfl, rfl⟩ | (simp; done)
/-- A pair of texts, as the iterator hands it. -/
def encP (x : Txt × Txt) : Array Value := #[.string x.1.1, .string x.2.1]
def bts2 (x : Txt × Txt) : List UInt8 × List UInt8 := (bts x.1, bts x.2)
def strLen : Value → Nat
  | .string s => s.size
  | _ => 0
theorem pf_nil {a b : List UInt8} (h : a = [] ∧ b = []) : pf a b = [] := by unfold pf; rw [dif_pos h]
theorem pf_cons {a b : List UInt8} (h : ¬ (a = [] ∧ b = [])) : pf a b = (a.take (cutN a), b.take (cutN b)) :: pf (a.drop (cutN a)) (b.drop (cutN b)) := by
  conv => lhs; unfold pf
  rw [dif_neg h]
theorem nil_sz (s : ByteArray) : s.data.toList = [] ↔ s.size = 0 := by rw [← List.length_eq_zero_iff, len_sz]

set_option maxRecDepth 100000 in
set_option maxHeartbeats 2000000 in
theorem parts_in (n : Nat) (hn : 2 ≤ n) (a b : Txt) (V : World) :
    SeqStopsK Fence.wide n Tryz.prog 80 #[.pointer (some ⟨V.heap.size, 0, none⟩), .pointer (some ⟨V.heap.size + 1, 0, none⟩)] encP (fun _ _ => True) (fun xs => xs.map bts2 = pf (bts a) (bts b)) (fun pre => pre.map bts2 <+: pf (bts a) (bts b)) (pf (bts a) (bts b)).length
      ((V.alloc (.cells #[.string a.1] 9)).alloc (.cells #[.string b.1] 9)) := fun l J Jx W hW hJ _ hY h0 => by
  have z : ((V.alloc (.cells #[.string a.1] 9)).alloc (.cells #[.string b.1] 9)).heap.size = V.heap.size + 2 := by simp
  have ha : W.cell? ⟨V.heap.size, 0, none⟩ = some (.string a.1) := (hW.cell (p := ⟨V.heap.size, 0, none⟩) (by rw [z]; show V.heap.size < _; omega)).trans (c_al _ (c_new V _ _).1)
  have hb : W.cell? ⟨V.heap.size + 1, 0, none⟩ = some (.string b.1) := (hW.cell (p := ⟨V.heap.size + 1, 0, none⟩) (by rw [z]; show V.heap.size + 1 < _; omega)).trans (by have h := (c_new (V.alloc (.cells #[.string a.1] 9)) (.string b.1) 9).1; rwa [World.size_alloc] at h)
  refine callsIn_of_wp Tryz.func80 rfl trivial ?_ rfl
  simp only [Tryz.ntmps80, List.size_toArray, List.length_cons, List.length_nil, Nat.reduceAdd, Nat.reduceSub, Array.replicate_succ, Array.replicate_zero, List.push_toArray, List.append_toArray, List.nil_append, List.cons_append]
  have h1 : 1 ≤ n := by omega
  have h2 : 1 ≤ n - 1 := by omega
  gi_wp2
  gi_region
  gi_wp2
  gi_loopw [4, 5] (fun sa sb wr => ∃ (pre : List (Txt × Txt)) (ra rb : ByteArray), sa = .string ra ∧ sb = .string rb ∧ ra.size ≤ 1000 ∧ rb.size ≤ 1000 ∧ Hid (pf (bts a) (bts b) = pre.map bts2 ++ pf ra.data.toList rb.data.toList ∧ J pre wr)) (fun sa sb _ => strLen sa + strLen sb)
  case atStart => exact ⟨[], a.1, b.1, rfl, rfl, a.2, b.2, rfl, hJ _ _ _ none h0 (gb_below (show Below W.heap.size W W.drew from ⟨rfl, rfl, rfl, Nat.le_refl _, fun _ _ => rfl⟩)) (fun r e => by cases e)⟩
  case round =>
    obtain ⟨pre, ra, rb, rfl, rfl, la, lb, hrel⟩ := hrel
    by_cases h00 : ra.size = 0 ∧ rb.size = 0
    · have e1 := empt h00.1
      have e2 : ra.toList.isEmpty = true := by rw [e1]; rfl
      have f1 := empt h00.2
      have f2 : rb.toList.isEmpty = true := by rw [f1]; rfl
      have DN := Lib.hid (show pre.map bts2 = pf (bts a) (bts b) by rw [hrel.out.1, pf_nil ⟨(nil_sz _).2 h00.1, (nil_sz _).2 h00.2⟩, List.append_nil])
      have JJ := Lib.hid hrel.out.2
      clear hrel h00
      gi_wp2
      go_end0
      exact ⟨⟨_, rfl⟩, .inl ⟨_, DN.out, JJ.out⟩⟩
    · have cse : (¬ ra.toList = [] ∧ (!ra.toList.isEmpty) = true ∧ ra.toList.isEmpty = false ∧ rb.size = rb.size) ∨ (ra.toList = [] ∧ ra.toList.isEmpty = true ∧ ¬ rb.toList = [] ∧ (!rb.toList.isEmpty) = true ∧ rb.toList.isEmpty = false) := by
        by_cases r0 : ra.size = 0
        · have r1 := nempty (by omega : 0 < rb.size)
          exact Or.inr ⟨empt r0, by rw [empt r0]; rfl, r1, by simpa using r1, by simpa using r1⟩
        · have r1 := nempty (by omega : 0 < ra.size)
          exact Or.inl ⟨r1, by simpa using r1, by simpa using r1, rfl⟩
      have PC := pf_cons (a := ra.data.toList) (b := rb.data.toList) (fun h => h00 ⟨(nil_sz _).1 h.1, (nil_sz _).1 h.2⟩)
      have LT : strLen (.string (ra.extract (cutN ra.data.toList) ra.size)) + strLen (.string (rb.extract (cutN rb.data.toList) rb.size)) < strLen (.string ra) + strLen (.string rb) := by
        show (ra.extract (cutN ra.data.toList) ra.size).size + (rb.extract (cutN rb.data.toList) rb.size).size < ra.size + rb.size
        rw [ByteArray.size_extract, ByteArray.size_extract]
        by_cases r0 : ra.size = 0
        · have := cutN_pos (l := rb.data.toList) (fun h => h00 ⟨r0, (nil_sz _).1 h⟩)
          omega
        · have := cutN_pos (l := ra.data.toList) (fun h => r0 ((nil_sz _).1 h))
          omega
      have HLT := Lib.hid LT
      have x1 : (ra.extract 0 (cutN ra.data.toList)).size ≤ 1000 := by rw [ByteArray.size_extract]; omega
      have x2 : (rb.extract 0 (cutN rb.data.toList)).size ≤ 1000 := by rw [ByteArray.size_extract]; omega
      have y1 : (ra.extract (cutN ra.data.toList) ra.size).size ≤ 1000 := by rw [ByteArray.size_extract]; omega
      have y2 : (rb.extract (cutN rb.data.toList) rb.size).size ≤ 1000 := by rw [ByteArray.size_extract]; omega
      have NX : pf (bts a) (bts b) = (pre ++ [((⟨ra.extract 0 (cutN ra.data.toList), x1⟩, ⟨rb.extract 0 (cutN rb.data.toList), x2⟩) : Txt × Txt)]).map bts2 ++ pf (ra.extract (cutN ra.data.toList) ra.size).data.toList (rb.extract (cutN rb.data.toList) rb.size).data.toList := by
        rw [hrel.out.1, PC, List.map_append, List.append_assoc]
        congr 1
        show _ :: _ = ((ra.extract 0 (cutN ra.data.toList)).data.toList, (rb.extract 0 (cutN rb.data.toList)).data.toList) :: _
        rw [ex_take, ex_take, ex_drop, ex_drop]
        rfl
      have HN := Lib.hid NX
      have HL := Lib.hid (show pre.length < (pf (bts a) (bts b)).length by
        have := congrArg List.length hrel.out.1
        rw [PC, List.length_append, List.length_map, List.length_cons] at this
        omega)
      have C1 := Lib.hid (fun U => cut_any ra la U)
      have C2 := Lib.hid (fun U => cut_any rb lb U)
      have JJ := Lib.hid hrel.out.2
      have Y1 := Lib.hid y1
      have Y2 := Lib.hid y2
      clear PC LT NX h00 hrel y1 y2
      have HY := Lib.hid (fun U hj hl => hY pre (⟨ra.extract 0 (cutN ra.data.toList), x1⟩, ⟨rb.extract 0 (cutN rb.data.toList), x2⟩) U hj hl)
      generalize ra.extract 0 (cutN ra.data.toList) = pa at *
      generalize rb.extract 0 (cutN rb.data.toList) = pb at *
      generalize ra.extract (cutN ra.data.toList) ra.size = qa at *
      generalize rb.extract (cutN rb.data.toList) rb.size = qb at *
      rcases cse with ⟨p1, p2, p3, _⟩ | ⟨p1, p2, q1, q2, q3⟩
      all_goals
        gi_wp2_with (fail)
        refine ⟨trivial, ?_⟩
        refine (callsIn_wide.2 (C1.out _)).mono ?_; rintro e w1 ⟨rfl, b1⟩
        gi_wp2_with (fail)
        refine ⟨trivial, ?_⟩
        refine (callsIn_wide.2 (C2.out _)).mono ?_; rintro e w2 ⟨rfl, b2⟩
        have j2 := hJ _ _ _ none (hJ _ _ _ none JJ.out (gb_below b1) (fun r e => by cases e)) (gb_below b2) (fun r e => by cases e)
        obtain ⟨fn, tmps, assign, body, hy, hR⟩ := HY.out w2 j2 HL.out
        dsimp only [encP] at hy
        clear b1 b2 j2
        gi_wp2_with (fail)
        refine hR.mono ?_
        rintro e W3 (⟨rfl, hJ3, _⟩ | ⟨rfl, hJx3⟩)
        · gi_wp2
          exact ⟨⟨_, qa, qb, rfl, rfl, Y1.out, Y2.out, HN.out, hJ3⟩, HLT.out⟩
        · gi_wp2
          refine bodyPost_ret (results_none rfl _ _ _) rfl ?_
          exact ⟨⟨_, rfl⟩, .inr ⟨_, ⟨_, HN.out.symm⟩, hJx3⟩⟩
end Go.Proofs.YtnjnjcgbdhiigaaGreatDoor
