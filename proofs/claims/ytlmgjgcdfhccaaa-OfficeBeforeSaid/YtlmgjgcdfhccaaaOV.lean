/- What is reached: the mathematics; the function that visits. -/
import Derived.Test.YtlmgjgcdfhccaaaOU
namespace Go.Proofs.Ytlmgjgcdfhccaaa
open Go.RowKit Go.Maps Go.Shelf

/-- A successor. -/
def Ed (os : List Of) (y z : Int) : Prop := ∃ j o, ixO os y = some j ∧ os[j]? = some o ∧ z ∈ o.nx
inductive Rc (os : List Of) (id : Int) : Int → Prop
  | refl : Rc os id id
  | step {y z : Int} : Rc os id y → Ed os y z → Rc os id z
theorem Rc.trans {os : List Of} {a b c : Int} (h : Rc os a b) (g : Rc os b c) : Rc os a c := by
  induction g with
  | refl => exact h
  | step _ e ih => exact ih.step e
theorem Ed.fr {os : List Of} (hg : (ckV os).2 = 0) {y z : Int} (h : Ed os y z) : frA os y < frA os z ∧ frA os z ≤ 1048576 ∧ (∃ j, ixO os z = some j) := by
  obtain ⟨j, o, hj, ho, hz⟩ := h
  obtain ⟨k, o2, hk, ho2, _, hf⟩ := (good_ok hg ho).ix z hz
  have sp := of_decide_eq_true (good_ok hg ho).sp
  rw [frA_at hj ho, frA_at hk ho2, hf]
  exact ⟨by omega, by omega, k, hk⟩
/-- Closed from a day on. -/
def Cl (os : List Of) (acc : List Int) (f : Int) : Prop := ∀ y ∈ acc, f ≤ frA os y → ∀ z, Ed os y z → z ∈ acc
theorem Rc.fr {os : List Of} (hg : (ckV os).2 = 0) {a y : Int} (h : Rc os a y) : frA os a ≤ frA os y := by
  induction h with
  | refl => exact Int.le_refl _
  | step _ e ih => have := (e.fr hg).1; omega
theorem len_sub : ∀ (l M : List Int), l.Nodup → (∀ x ∈ l, x ∈ M) → l.length ≤ M.length
  | [], M, _, _ => Nat.zero_le _
  | a :: t, M, h, s => by
    have ha := s a (List.mem_cons_self ..)
    have hn := List.nodup_cons.1 h
    have := len_sub t (M.erase a) hn.2 (fun x hx => (List.mem_erase_of_ne (fun e => hn.1 (by rw [← e]; exact hx))).2 (s x (List.mem_cons_of_mem _ hx)))
    rw [List.length_erase_of_mem ha] at this
    have := List.length_pos_of_mem ha
    rw [List.length_cons]
    omega
theorem acc_len {os : List Of} {acc : List Int} (h : acc.Nodup) (g : ∀ x ∈ acc, ∃ j, ixO os x = some j) : acc.length ≤ os.length := by
  have := len_sub acc (os.map (·.id)) h (fun x hx => by
    obtain ⟨j, hj⟩ := g x hx
    obtain ⟨o, ho, e⟩ := ixO_at hj
    exact List.mem_map.2 ⟨o, List.mem_of_getElem? ho, e⟩)
  rwa [List.length_map] at this
/-- The function that visits, as a value. -/
def visF (b lB aB : Nat) : Value := .func (.func 35) #[] #[.pointer (some ⟨b + 1, 0, none⟩), .pointer (some ⟨lB, 0, none⟩), .pointer (some ⟨aB, 0, none⟩), .pointer (some ⟨b + 2, 0, none⟩)]
/-- What the visits keep. -/
structure Vs (os : List Of) (w1 : World) (lB aB : Nat) (acc : List Int) (W : World) : Prop where
  bel : Below w1.heap.size w1 W
  r : W.cell? ⟨w1.heap.size + 1, 0, none⟩ = some (.map (some w1.heap.size))
  f : W.cell? ⟨w1.heap.size + 2, 0, none⟩ = some (visF w1.heap.size lB aB)
  sz : w1.heap.size + 2 < W.heap.size
  mp : Mp W w1.heap.size acc
  nd : acc.Nodup
  ids : ∀ x ∈ acc, ∃ j, ixO os x = some j
theorem Vs.grown {os : List Of} {w1 : World} {lB aB : Nat} {acc acc' : List Int} {W W' : World} (h : Vs os w1 lB aB acc W) (g : W.grownBy W' (some w1.heap.size)) (m : Mp W' w1.heap.size acc') (nd : acc'.Nodup) (ids : ∀ x ∈ acc', ∃ j, ixO os x = some j) : Vs os w1 lB aB acc' W' where
  bel := h.bel.grown g h.bel.size (fun k e => by cases e; exact Nat.le_refl _)
  r := by
    rw [← h.r]
    have := g.block (w1.heap.size + 1) (by have := h.sz; omega) (by simp)
    simp [World.cell?, this]
  f := by
    rw [← h.f]
    have := g.block (w1.heap.size + 2) (by have := h.sz; omega) (by simp)
    simp [World.cell?, this]
  sz := Nat.lt_of_lt_of_le h.sz g.size
  mp := m
  nd := nd
  ids := ids
theorem grown_refl (w : World) (r : Option Nat) : w.grownBy w r := ⟨rfl, rfl, rfl, Nat.le_refl _, fun _ _ _ => rfl⟩
theorem grown_trans {a b c : World} {r : Option Nat} (h : a.grownBy b r) (g : b.grownBy c r) : a.grownBy c r :=
  ⟨g.os.trans h.os, g.tape.trans h.tape, g.output.trans h.output, Nat.le_trans h.size g.size, fun k hk hr => (g.block k (Nat.lt_of_lt_of_le hk h.size) hr).trans (h.block k hk hr)⟩
/-- What a visit gives. -/
def VisR (os : List Of) (w1 : World) (lB aB : Nat) (id : Int) (acc : List Int) (W : World) (e : Ending) (W' : World) : Prop :=
  e = .returned (.tuple #[]) ∧ ∃ acc', Vs os w1 lB aB acc' W' ∧ W.grownBy W' (some w1.heap.size) ∧ (∀ x ∈ acc, x ∈ acc') ∧ id ∈ acc' ∧ Cl os acc' (frA os id) ∧ (∀ x ∈ acc', x ∈ acc ∨ Rc os id x)
/-- Between two children. -/
structure VL (os : List Of) (w1 : World) (lB aB : Nat) (id : Int) (acc : List Int) (nx : List Int) (k : Nat) (W wr : World) : Prop where
  ex : ∃ ac, Vs os w1 lB aB ac wr ∧ W.grownBy wr (some w1.heap.size) ∧ (∀ x ∈ acc, x ∈ ac) ∧ id ∈ ac ∧ (∀ y ∈ ac, frA os id ≤ frA os y → y ≠ id → ∀ z, Ed os y z → z ∈ ac) ∧ (∀ x ∈ nx.take k, x ∈ ac) ∧ (∀ x ∈ ac, x ∈ acc ∨ Rc os id x)

set_option maxRecDepth 100000 in
set_option maxHeartbeats 8000000 in
theorem visit_any (v : Value) (os : List Of) (w1 : World) (lB aB ab : Nat) (hv : IsO w1 v os) (hn : os.length ≤ 1000) (hr : NumO os) (hg : (ckV os).2 = 0) (hix : Ix w1 ab os) (hl : w1.cell? ⟨lB, 0, none⟩ = some v) (ha : w1.cell? ⟨aB, 0, none⟩ = some (.map (some ab))) (hlB : lB < w1.heap.size) (haB : aB < w1.heap.size) :
    ∀ (m : Nat) (id : Int) (j : Nat) (acc : List Int) (W : World), ixO os id = some j → (1048576 - frA os id).toNat ≤ m → Vs os w1 lB aB acc W → Cl os acc (frA os id) →
      Calls Try.prog 35 #[.int .i64 id, .pointer (some ⟨w1.heap.size + 1, 0, none⟩), .pointer (some ⟨lB, 0, none⟩), .pointer (some ⟨aB, 0, none⟩), .pointer (some ⟨w1.heap.size + 2, 0, none⟩)] W (VisR os w1 lB aB id acc W) := by
  intro m
  induction m with
  | zero =>
    intro id j acc W hj hm
    obtain ⟨o, ho, _⟩ := ixO_at hj
    have sp := of_decide_eq_true (good_ok hg ho).sp
    rw [frA_at hj ho] at hm
    omega
  | succ m ih =>
    intro id j acc W hj hm vs cl
    obtain ⟨o, ho, ho2⟩ := ixO_at hj
    have I64 : W64 id := by rw [← ho2]; exact (hr o (List.mem_of_getElem? ho)).1
    have ZM := vs.r
    have GET := vs.mp.get I64
    have VS := Lib.hid vs
    have CL := Lib.hid cl
    by_cases hin : id ∈ acc
    · rw [decide_eq_true hin] at GET
      have HI := Lib.hid hin
      clear hin ih vs cl hj ho ho2
      go_enter Try.func35, Try.ntmps35
      go_wp2_with fail
      (try simp only [Exit.inBlock, Exit.then]); refine bodyPost_ret (results_none rfl _ _ _) rfl ?_
      exact ⟨rfl, acc, VS.out, grown_refl _ _, fun x h => h, HI.out, CL.out, fun x h => Or.inl h⟩
    rw [decide_eq_false hin] at GET
    obtain ⟨W2, hup, mp2, g2⟩ := vs.mp.add I64 (by have := acc_len vs.nd vs.ids; omega)
    have V2 := Lib.hid (vs.grown g2 mp2 (List.nodup_append.2 ⟨vs.nd, by simp, fun a ha b hb e => hin (by rw [List.mem_singleton.1 hb] at e; exact e ▸ ha)⟩) (fun x hx => by
      rcases List.mem_append.1 hx with h | h
      · exact vs.ids x h
      · rw [List.mem_singleton.1 h]; exact ⟨j, hj⟩))
    have G2 := Lib.hid g2
    have IH := Lib.hid ih
    have HIN := Lib.hid hin
    have HJ := Lib.hid hj
    have HO := Lib.hid ho
    have HG := Lib.hid hg
    have HM := Lib.hid hm
    have FI := Lib.hid (frA_at hj ho)
    have SP := Lib.hid (of_decide_eq_true (good_ok hg ho).sp)
    have LK := (hix.below V2.out.bel).get (id := id) I64
    rw [hj] at LK
    replace LK : (Instr.lookup 39 (.map (some ab)) (.int .i64 id) false).run Try.prog W2 = .ok (.int .i64 (j : Int)) W2 := LK
    have l2 : W2.cell? ⟨lB, 0, none⟩ = some v := (V2.out.bel.cell (p := ⟨lB, 0, none⟩) hlB).trans hl
    have a2 : W2.cell? ⟨aB, 0, none⟩ = some (.map (some ab)) := (V2.out.bel.cell (p := ⟨aB, 0, none⟩) haB).trans ha
    have LJ := ixO_lt hj
    have L8 := (good_ok hg ho).len
    obtain ⟨p, c, rfl, hcap, hp⟩ := hv
    obtain ⟨n, hnn⟩ : ∃ n, n = os.length := ⟨_, rfl⟩
    rw [← hnn] at hcap hn LJ l2
    obtain ⟨g, off, rfl, hcell⟩ := hp (by omega)
    have OA := hcell j o ho
    obtain ⟨lt0, c0, c1, c2, c3, c4, hz⟩ := OA
    obtain ⟨id', nm, fr, un, nx, q, cc⟩ := o
    replace c4 : W2.cell? ⟨g, off + j * 5 + 4, none⟩ = some (.slice q nx.length cc) := (V2.out.bel.cell (p := ⟨g, off + j * 5 + 4, none⟩) lt0).trans c4
    obtain ⟨q', cc', e1, hcc, hzc⟩ := hz
    obtain ⟨rfl, _, rfl⟩ := Value.slice.inj (show Value.slice q nx.length cc = _ from e1)
    replace hcc : nx.length ≤ cc := hcc
    replace L8 : nx.length ≤ 8 := L8
    have CELL := Lib.hid (fun (k : Nat) (h : k < nx.length) => show ∃ g off, q = some ⟨g, off, none⟩ ∧ g < w1.heap.size ∧ ∃ x, nx[k]? = some x ∧ w1.cell? ⟨g, off + k, none⟩ = some (.int .i64 x) from by
      obtain ⟨g, off, e, hg, hcl⟩ := hzc (Nat.lt_of_le_of_lt (Nat.zero_le _) h)
      exact ⟨g, off, e, hg, nx[k], List.getElem?_eq_getElem h, hcl k h⟩)
    have ED := Lib.hid (fun (z : Int) (hz : z ∈ nx) => show Ed os id z from ⟨j, _, HJ.out, HO.out, hz⟩)
    have EC := Lib.hid (fun (z : Int) (hz : Ed os id z) => show z ∈ nx from by
      obtain ⟨j2, o2, h1, h2, h3⟩ := hz
      rw [HJ.out] at h1; cases h1
      rw [HO.out] at h2; cases h2
      exact h3)
    obtain ⟨k0, hk0⟩ : ∃ m, m = nx.length := ⟨_, rfl⟩
    rw [← hk0] at c4 hcc CELL L8
    have HK := Lib.hid hk0
    have V0 := Lib.hid (show VL os w1 lB aB id acc nx 0 W W2 from ⟨acc ++ [id], V2.out, G2.out, fun x h => List.mem_append_left _ h, List.mem_append_right _ (List.mem_singleton.2 rfl), fun y hy hf hne z he => by
      rcases List.mem_append.1 hy with h | h
      · exact List.mem_append_left _ (CL.out y h hf z he)
      · exact absurd (List.mem_singleton.1 h) hne, fun x h => by simp at h, fun x h => by
      rcases List.mem_append.1 h with h | h
      · exact Or.inl h
      · rw [List.mem_singleton.1 h]; exact Or.inr .refl⟩)
    have F2 := V2.out.f
    have R2 := V2.out.r
    clear hcell c0 c1 c2 c3 vs cl hg hm ih hin hj ho hr hix hl ha mp2 g2 hp hzc e1 hk0 lt0
    go_enter Try.func35, Try.ntmps35
    go_wp2_with fail
    go_loopw [21] (fun si wr => ∃ k : Nat, k ≤ k0 ∧ si = .int .i64 k ∧ Hid (VL os w1 lB aB id acc nx k W wr)) (fun si _ => k0 - (intOf si).toNat)
    case atStart => exact ⟨0, Nat.zero_le _, rfl, V0.out⟩
    case round =>
      obtain ⟨k, hk, rfl, hrel⟩ := hrel
      obtain ⟨ac, vsA, gA, subA, idA, clA, takA, rcA⟩ := hrel.out.ex
      have VA := Lib.hid vsA
      have GA := Lib.hid gA
      have SA := Lib.hid subA
      have IA := Lib.hid idA
      have CA := Lib.hid clA
      have TA := Lib.hid takA
      have RA := Lib.hid rcA
      clear hrel vsA gA subA idA clA takA rcA
      by_cases hlt : k < k0
      · obtain ⟨g1, off1, hq, hg1, x, hx, cx⟩ := CELL.out k hlt
        have cx2 : wr.cell? ⟨g1, off1 + k, none⟩ = some (.int .i64 x) := (VA.out.bel.cell (p := ⟨g1, off1 + k, none⟩) hg1).trans cx
        have FA : wr.cell? ⟨w1.heap.size + 2, 0, none⟩ = some (.func (.func 35) #[] #[.pointer (some ⟨w1.heap.size + 1, 0, none⟩), .pointer (some ⟨lB, 0, none⟩), .pointer (some ⟨aB, 0, none⟩), .pointer (some ⟨w1.heap.size + 2, 0, none⟩)]) := VA.out.f
        have XM := Lib.hid (List.mem_of_getElem? hx)
        have HX := Lib.hid hx
        have EF := Lib.hid ((ED.out x XM.out).fr HG.out)
        obtain ⟨jx, hjx⟩ := EF.out.2.2
        have H1 := Lib.hid (IH.out x jx ac wr hjx (by have := EF.out; have := HM.out; omega) VA.out (fun y hy hf z he => CA.out y hy (by have := EF.out; omega) (fun e => by rw [e] at hf; have := EF.out; omega) z he))
        subst hq
        clear hx cx hjx
        go_wp2_with fail
        refine H1.out.mono ?_; rintro e w' ⟨rfl, acc', vsB, gB, subB, xB, clB, rcB⟩
        have N := Lib.hid (show VL os w1 lB aB id acc nx (k + 1) W w' from ⟨acc', vsB, grown_trans GA.out gB, fun y hy => subB y (SA.out y hy), subB id IA.out, fun y hy hf hne z he => by
          rcases rcB y hy with h | h
          · exact subB z (CA.out y h hf hne z he)
          · exact clB y hy (h.fr HG.out) z he, fun y hy => by
          rw [List.take_add_one, HX.out] at hy
          rcases List.mem_append.1 hy with h | h
          · exact subB y (TA.out y h)
          · obtain rfl : y = x := by simpa using h
            exact xB, fun y hy => by
          rcases rcB y hy with h | h
          · exact RA.out y h
          · exact Or.inr ((Rc.refl.step (ED.out x XM.out)).trans h)⟩)
        clear vsB gB subB xB clB rcB H1
        go_wp2_with fail
        go_roundw
        case rel => exact ⟨k + 1, by omega, by go_num, N.out⟩
        case measure => simp [intOf]; omega
      · obtain rfl : k = k0 := by omega
        have FIN := Lib.hid (show VisR os w1 lB aB id acc W (.returned (.tuple #[])) wr from ⟨rfl, ac, VA.out, GA.out, SA.out, IA.out, fun y hy hf z he => by
          by_cases e : y = id
          · subst e
            exact TA.out z (by rw [List.take_of_length_le (by rw [← HK.out]; exact Nat.le_refl _)]; exact EC.out z he)
          · exact CA.out y hy hf e z he, RA.out⟩)
        go_wp2_with fail
        (try simp only [Exit.inBlock, Exit.then])
        first
        | exact bodyPost_ret (results_none rfl _ _ _) rfl FIN.out
        | exact bodyPost_end (results_none rfl _ _ _) rfl FIN.out
end Go.Proofs.Ytlmgjgcdfhccaaa
