/- Laws for elements of several cells: append of make, clear. -/
import Derived.Test.YtekigilhmdphnaaTK
namespace Go.Proofs.Ytekigilhmdphnaa
open Go.RowKit Go.Shelf

/-- 'append(s, make(S, n)...)' where there is no room. -/
theorem run_append_make {P : Program} (w : World) (t ti ty e : TypeId) (i : TypeInfo) (z : Value) (ki : IntKind) (ht : P.underlying t = some (.slice e)) (hti : P.underlying ti = some (.int ki)) (hi : P.info? e = some i) (hz : i.zero = some z)
    (b : Addr) (sLen sCap : Nat) (olds : List Value) (hlo : olds.length = sLen * i.size) (holds : ∀ j v, olds[j]? = some v → w.cell? (b.add j) = some v)
    (n : Nat) (hn0 : 0 < n) (hs0 : 0 < i.size) (hg : sCap < sLen + n) (hsmall : sLen + n ≤ 1099511627776) (hby : i.bytes ≤ 100) :
    (Builtin.append_ #[t, ti] ty #[.slice (some b) sLen sCap, .int .i64 (n : Int)]).run P w =
      .ok (.slice (some ⟨w.heap.size, 0, none⟩) (sLen + n) (grownCap w (sLen + n) sCap e))
        (w.drew.alloc (.cells (olds.toArray ++ Builtin.zeroCells z.cells n ++ Builtin.zeroCells z.cells (grownCap w (sLen + n) sCap e - (sLen + n))) e)) := by
  have hn : ¬ (sLen + n ≤ sCap) := by omega
  have hw : IntKind.i64.wrap (n : Int) = (n : Int) := IntWalk.i64_in _ ⟨by omega, by omega⟩
  have h0 : ¬ ((n : Int) < 0) := by omega
  have hb1 : n * i.bytes ≤ n * 100 := Nat.mul_le_mul_left n hby
  have hb2 : ¬ (281474976710656 < (n : Int) * (i.bytes : Int)) := by
    have : ((n * i.bytes : Nat) : Int) ≤ ((n * 100 : Nat) : Int) := by exact_mod_cast hb1
    push_cast at this
    omega
  have h63' : ¬ (9223372036854775807 < ((sLen : Int) + (n : Int))) := by omega
  have hm1 : (sLen + n) * i.bytes ≤ (sLen + n) * 100 := Nat.mul_le_mul_left _ hby
  have hfit := growslice_fits (need := sLen + n) (old := sCap) (bytes := i.bytes) hg (by omega)
  have h48' : ¬ (281474976710656 < Builtin.nextslicecap (sLen + n) sCap * i.bytes) := by omega
  have hne : ¬ (n * i.size = 0) := by
    have := Nat.mul_pos hn0 hs0
    omega
  have hfo := run_firstCells_some (P := P) w.drew i.size sLen b sLen sCap olds hlo (by simpa using holds)
  simp [Builtin.append_, run_underlying ht, run_underlying hti, sizeOf, typeInfo, zeroValue, asInt, asIntOf, hi, hz, hw, h0, hb2, hn, h63', h48', Question.forced, hfo, newRow, grownCap]
  intro h
  exact absurd h hne
/-- 'clear(s[k:])'. -/
theorem run_clear_wide {P : Program} (w : World) (t e ty : TypeId) (i : TypeInfo) (z : Value) (ht : P.underlying t = some (.slice e)) (hi : P.info? e = some i) (hz : i.zero = some z) (g o n c : Nat) (hn : 0 < n)
    (hth : w.there g o (n * z.cells.size)) (h1 : ∀ v ∈ (Builtin.zeroCells z.cells n).toList, v.oneCell' = true) :
    (Builtin.clear_ #[t] ty #[.slice (some ⟨g, o, none⟩) n c]).run P w = .ok (.tuple #[]) (w.setCells g o (Builtin.zeroCells z.cells n).toList) := by
  have hl : (Builtin.zeroCells z.cells n).toList.length = n * z.cells.size := by rw [Array.length_toList, size_zeroCells]
  have hst := run_storeCells_cells (P := P) g o (Builtin.zeroCells z.cells n).toList 0 w (fun j hj => by rw [Nat.add_zero]; exact (hth j (by omega)).1) (fun j hj => by rw [Nat.add_zero]; exact (hth j (by omega)).2) h1
  obtain ⟨m, rfl⟩ : ∃ m, n = m + 1 := ⟨n - 1, by omega⟩
  simp [Builtin.clear_, run_underlying ht, typeInfo, zeroValue, hi, hz, hst]

theorem wpList_append_make {P : Program} {w : World} {ops : Array Oper} {rest : List Oper} {o : Oper} {a : Act} {Q : Exit → Act → World → Prop} (hgd : o.guard = none) (s x : Operand) (t ti : TypeId)
    (ho : o.op = .call { callee := .builtin .append, args := #[s, x], argTypes := #[t, ti] })
    (e : TypeId) (i : TypeInfo) (z : Value) (ki : IntKind) (ht : P.underlying t = some (.slice e)) (hti : P.underlying ti = some (.int ki)) (hi : P.info? e = some i) (hz : i.zero = some z)
    (b : Addr) (sLen sCap : Nat) (olds : List Value) (hs : a.eval s = .slice (some b) sLen sCap) (hlo : olds.length = sLen * i.size) (holds : ∀ j v, olds[j]? = some v → w.cell? (b.add j) = some v)
    (n : Nat) (hx : a.eval x = .int .i64 (n : Int)) (hn0 : 0 < n) (hs0 : 0 < i.size) (hg : sCap < sLen + n) (hsmall : sLen + n ≤ 1099511627776) (hby : i.bytes ≤ 100)
    (hK : wpList P ops Q rest (a.put o.dst (.slice (some ⟨w.heap.size, 0, none⟩) (sLen + n) (grownCap w (sLen + n) sCap e))) (w.drew.alloc (.cells (olds.toArray ++ Builtin.zeroCells z.cells n ++ Builtin.zeroCells z.cells (grownCap w (sLen + n) sCap e - (sLen + n))) e))) : wpList P ops Q (o :: rest) a w := by
  refine wpList_plain hgd fun K hK' => ?_
  have hr := run_append_make (P := P) w t ti o.type e i z ki ht hti hi hz b sLen sCap olds hlo holds n hn0 hs0 hg hsmall hby
  unfold Oper.wp execOp
  simp only [ho, resolve, invoke, builtin, Sem.run_bind, Sem.run_pure, Result.andThen_ok, List.map_toArray, List.map_cons, List.map_nil, hs, hx, hr]
  exact hK' _ _ hK
theorem wpList_clear_wide {P : Program} {w : World} {ops : Array Oper} {rest : List Oper} {o : Oper} {a : Act} {Q : Exit → Act → World → Prop} (hgd : o.guard = none) (x : Operand) (t : TypeId)
    (ho : o.op = .call { callee := .builtin .clear, args := #[x], argTypes := #[t] })
    (e : TypeId) (i : TypeInfo) (z : Value) (ht : P.underlying t = some (.slice e)) (hi : P.info? e = some i) (hz : i.zero = some z) (g off n c : Nat) (hx : a.eval x = .slice (some ⟨g, off, none⟩) n c) (hn : 0 < n)
    (hth : w.there g off (n * z.cells.size)) (h1 : ∀ v ∈ (Builtin.zeroCells z.cells n).toList, v.oneCell' = true)
    (hK : wpList P ops Q rest (a.put o.dst (.tuple #[])) (w.setCells g off (Builtin.zeroCells z.cells n).toList)) : wpList P ops Q (o :: rest) a w := by
  refine wpList_plain hgd fun K hK' => ?_
  have hr := run_clear_wide (P := P) w t e o.type i z ht hi hz g off n c hn hth h1
  unfold Oper.wp execOp
  simp only [ho, resolve, invoke, builtin, Sem.run_bind, Sem.run_pure, Result.andThen_ok, List.map_toArray, List.map_cons, List.map_nil, hx, hr]
  exact hK' _ _ hK

/-- Cells of a row that may be written: what they hold, how many there are. -/
structure Rw (w : World) (g : Nat) (cs : List Value) : Prop where
  lt : g < w.heap.size
  cell : ∀ j u, cs[j]? = some u → w.cell? ⟨g, j, none⟩ = some u
  there : w.there g 0 cs.length
  row : ∃ cur, w.heap[g]? = some (.cells cur 47 (0, 0)) ∧ cs.length = cur.size
theorem Rw.of {w : World} {g : Nat} {cur : Array Value} (h : w.heap[g]? = some (.cells cur 47 (0, 0))) : Rw w g cur.toList :=
  ⟨(Array.getElem?_eq_some_iff.1 h).1, fun j u hj => by rw [cell_of_row w g j cur _ (0, 0) h]; simpa using hj, fun j hj => by
    rw [Nat.zero_add, cell_of_row w g j cur _ (0, 0) h]
    exact ⟨by rw [Array.getElem?_eq_getElem (by simpa using hj)]; rfl, frozen_of_row w g j cur _ h⟩, cur, h, by simp⟩
theorem Rw.same {w w' : World} {g : Nat} {cs : List Value} (h : Rw w g cs) (hb : w'.heap[g]? = w.heap[g]?) (hs : w.heap.size ≤ w'.heap.size) : Rw w' g cs := by
  obtain ⟨cur, hr, hl⟩ := h.row
  exact ⟨Nat.lt_of_lt_of_le h.lt hs, fun j u hj => (World.cell?_of_block (w := w) hb).trans (h.cell j u hj), fun j hj => by
    have := h.there j hj
    have e1 : w'.cell? ⟨g, 0 + j, none⟩ = w.cell? ⟨g, 0 + j, none⟩ := World.cell?_of_block (w := w) hb
    have e2 : w'.frozen? ⟨g, 0 + j, none⟩ = w.frozen? ⟨g, 0 + j, none⟩ := World.frozen?_of_block (w := w) hb
    rw [e1, e2]; exact this, cur, hb.trans hr, hl⟩
theorem Rw.below {w w' : World} {g : Nat} {cs : List Value} (h : Rw w g cs) (hb : Below w.heap.size w w') : Rw w' g cs := h.same (hb.block g h.lt) hb.size
/-- Cells are laid over a part of the row. -/
def lay (cs : List Value) (o : Nat) (vs : List Value) : List Value := cs.take o ++ vs ++ cs.drop (o + vs.length)
theorem lay_length {cs : List Value} {o : Nat} {vs : List Value} (h : o + vs.length ≤ cs.length) : (lay cs o vs).length = cs.length := by
  unfold lay; simp only [List.length_append, List.length_take, List.length_drop]; omega
theorem Rw.lay {w : World} {g : Nat} {cs : List Value} (h : Rw w g cs) (o : Nat) (vs : List Value) (hl : o + vs.length ≤ cs.length) : Rw (w.setCells g o vs) g (lay cs o vs) := by
  obtain ⟨cur, hr, hcl⟩ := h.row
  obtain ⟨cur', h1, h2⟩ := row_setCells vs o hr
  have hz : (w.setCells g o vs).heap.size = w.heap.size := by
    clear h hr hcl h1 h2 hl
    induction vs generalizing o w with
    | nil => rfl
    | cons v r ih => rw [World.setCells, ih]; simp [World.setCell]
  refine ⟨by rw [hz]; exact h.lt, fun j u hj => ?_, fun j hj => ?_, cur', h1, by rw [lay_length hl, h2]; exact hcl⟩
  · unfold Go.Proofs.Ytekigilhmdphnaa.lay at hj
    by_cases a : j < o
    · rw [List.append_assoc, List.getElem?_append_left (by simp; omega), List.getElem?_take, if_pos a] at hj
      rw [World.cell?_setCells_out g vs o w ⟨g, j, none⟩ (fun _ _ => Or.inl a)]
      exact h.cell j u hj
    · by_cases b : j < o + vs.length
      · rw [List.getElem?_append_left (by simp; omega), List.getElem?_append_right (by simp; omega)] at hj
        have e : j - (cs.take o).length = j - o := by simp; omega
        rw [e] at hj
        have := World.cell?_setCells_in g vs o w (fun i hi => by have := (h.there (o + i) (by omega)).1; rwa [Nat.zero_add] at this) (j - o) (by omega)
        rw [show o + (j - o) = j from by omega] at this
        rw [this, ← hj, List.getElem?_eq_getElem (by omega)]
      · rw [List.getElem?_append_right (by simp; omega), List.getElem?_drop] at hj
        have e : o + vs.length + (j - (cs.take o ++ vs).length) = j := by simp; omega
        rw [e] at hj
        rw [World.cell?_setCells_out g vs o w ⟨g, j, none⟩ (fun _ _ => Or.inr (by show o + vs.length ≤ j; omega))]
        exact h.cell j u hj
  · have := World.there_setCells h.there g o vs
    rw [lay_length hl] at hj
    exact this j hj
end Go.Proofs.Ytekigilhmdphnaa
