/- The reference's blocks and the program's: the plain mathematics; a row of bytes that grows. -/
import Derived.Test.YtfjbchmneojgaaaDoorWriteG
import Derived.Laws.AppendOwn
import Derived.Laws.IdiomCopy
namespace Go.Proofs.YtfjbchmneojgaaaDoor
open Go.RowKit

theorem put_zero (f : Nat → BitVec 64) (p : Nat) : put f p 0 = f := by
  funext j
  unfold put upd
  by_cases c : j = p / 8
  · subst c
    rw [if_pos rfl]
    unfold byteAt
    simp
  · rw [if_neg c]
theorem put_two (g : Nat → BitVec 64) : put (put g 135 6) 135 128 = put g 135 134 := by
  funext j
  unfold put upd
  by_cases c : j = 135 / 8
  · subst c
    rw [if_pos rfl, if_pos rfl, if_pos rfl, BitVec.xor_assoc, show byteAt 135 6 ^^^ byteAt 135 128 = byteAt 135 134 from by decide +kernel]
  · rw [if_neg c, if_neg c, if_neg c]
theorem pf_zero (f : Nat → BitVec 64) (B : Nat → Nat) (k : Nat) : ∀ d, (∀ i, k ≤ i → i < k + d → B i = 0) → pf f 0 B (k + d) = pf f 0 B k
  | 0, _ => rfl
  | d + 1, h => by
    show put (pf f 0 B (k + d)) (0 + (k + d)) (B (k + d)) = _
    rw [h (k + d) (by omega) (by omega), put_zero, pf_zero f B k d (fun i h1 h2 => h i h1 (by omega))]
theorem pf_congr {a b : Nat → Nat} (f : Nat → BitVec 64) (p : Nat) : ∀ k, (∀ i, i < k → a i = b i) → pf f p a k = pf f p b k
  | 0, _ => rfl
  | k + 1, h => by
    show put (pf f p a k) (p + k) (a k) = put (pf f p b k) (p + k) (b k)
    rw [pf_congr f p k (fun i hi => h i (by omega)), h k (by omega)]
/-- Byte i of a list. -/
def bL (l : List UInt8) (i : Nat) : Nat := (l.getD i 0).toNat
theorem puts_bL (f : Nat → BitVec 64) (p : Nat) (l : List UInt8) : ∀ k, k ≤ l.length → puts f p (l.take k) = pf f p (bL l) k
  | 0, _ => rfl
  | k + 1, h => by
    have e : l[k]? = some l[k] := List.getElem?_eq_getElem (by omega)
    rw [List.take_add_one, e, Option.toList_some, puts_snoc, puts_bL f p l k (by omega), List.length_take, Nat.min_eq_left (by omega)]
    show put _ _ _ = put _ _ (bL l k)
    unfold bL
    rw [List.getD_eq_getElem?_getD, e]; rfl

theorem perm24 {f g : Nat → BitVec 64} (h : f = g) : perm f 24 = perm g 24 := by rw [h]
/-- The state behind the first blocks. -/
def blk (B : Nat → Nat) : Nat → Nat → BitVec 64
  | 0 => fun _ => 0
  | k + 1 => perm (pf (blk B k) 0 (fun i => B (136 * k + i)) 136) 24
/-- The bytes of a text, with its end behind it. -/
def pad (l : List UInt8) (i : Nat) : Nat :=
  if i < l.length then bL l i else if i = l.length then (if l.length % 136 = 135 then 134 else 6) else if i = 136 * (l.length / 136) + 135 then 128 else 0
theorem blk_ab (l : List UInt8) : ∀ k, 136 * k ≤ l.length → blk (pad l) k = ab (fun _ => 0) 0 (l.take (136 * k))
  | 0, _ => by rw [Nat.mul_zero, List.take_zero]; rfl
  | k + 1, h => by
    show perm (pf (blk (pad l) k) 0 (fun i => pad l (136 * k + i)) 136) 24 = _
    rw [blk_ab l k (by omega), show 136 * (k + 1) = 136 * k + 136 from by omega, List.take_add, ab_app]
    have lt : (l.take (136 * k)).length = 136 * k := by rw [List.length_take]; omega
    have ld : ((l.drop (136 * k)).take 136).length = 136 := by rw [List.length_take, List.length_drop]; omega
    rw [lt, ab_block _ _ _ (by omega) ld, puts_bL _ _ _ 136 (by rw [List.length_drop]; omega)]
    refine perm24 (pf_congr _ _ _ fun i hi => ?_)
    unfold pad bL
    rw [if_pos (by omega), List.getD_eq_getElem?_getD, List.getD_eq_getElem?_getD, List.getElem?_drop]
theorem blk_all (l : List UInt8) : blk (pad l) (l.length / 136 + 1) = perm (put (put (ab (fun _ => 0) 0 l) (l.length % 136) 6) 135 128) 24 := by
  obtain ⟨q, hq⟩ : ∃ q, q = l.length / 136 := ⟨_, rfl⟩
  obtain ⟨r, hr⟩ : ∃ r, r = l.length % 136 := ⟨_, rfl⟩
  have hl : l.length = 136 * q + r := by omega
  have hr1 : r < 136 := by omega
  rw [← hq, ← hr]
  show perm (pf (blk (pad l) q) 0 (fun i => pad l (136 * q + i)) 136) 24 = _
  refine perm24 ?_
  rw [blk_ab l q (by omega)]
  have lt : (l.take (136 * q)).length = 136 * q := by rw [List.length_take]; omega
  have ld : (l.drop (136 * q)).length = r := by rw [List.length_drop]; omega
  have e : ab (fun _ => 0) 0 l = puts (ab (fun _ => 0) 0 (l.take (136 * q))) 0 (l.drop (136 * q)) := by
    conv => lhs; rw [← List.take_append_drop (136 * q) l]
    rw [ab_app, lt, ab_run _ _ _ (by omega), show (0 + 136 * q) % 136 = 0 from by omega]
  rw [e]
  generalize ab (fun _ => 0) 0 (l.take (136 * q)) = G
  have h1 : puts G 0 (l.drop (136 * q)) = pf G 0 (fun i => pad l (136 * q + i)) r := by
    rw [show l.drop (136 * q) = (l.drop (136 * q)).take r from (List.take_of_length_le (by omega)).symm, puts_bL G 0 _ r (by omega)]
    refine pf_congr _ _ _ fun i hi => ?_
    unfold pad bL
    rw [if_pos (by omega), List.getD_eq_getElem?_getD, List.getD_eq_getElem?_getD, List.getElem?_drop]
  rw [h1]
  by_cases c : r = 135
  · subst c
    have p1 : pad l (136 * q + 135) = 134 := by
      unfold pad; rw [if_neg (by omega), if_pos (by omega), if_pos (by omega)]
    show put (pf G 0 (fun i => pad l (136 * q + i)) 135) (0 + 135) (pad l (136 * q + 135)) = _
    rw [p1, put_two]
  · have p1 : pad l (136 * q + r) = 6 := by
      unfold pad; rw [if_neg (by omega), if_pos (by omega), if_neg (by omega)]
    have p2 : pad l (136 * q + 135) = 128 := by
      unfold pad; rw [if_neg (by omega), if_neg (by omega), if_pos (by omega)]
    show put (pf G 0 (fun i => pad l (136 * q + i)) 135) (0 + 135) (pad l (136 * q + 135)) = _
    have z := pf_zero G (fun i => pad l (136 * q + i)) (r + 1) (135 - (r + 1)) (fun i h1 h2 => by
      show pad l (136 * q + i) = 0
      unfold pad; rw [if_neg (by omega), if_neg (by omega), if_neg (by omega)])
    rw [show r + 1 + (135 - (r + 1)) = 135 from by omega] at z
    rw [z, p2]
    show put (put (pf G 0 (fun i => pad l (136 * q + i)) r) (0 + r) (pad l (136 * q + r))) (0 + 135) 128 = _
    rw [p1, Nat.zero_add]

/-- A row of bytes that may be written; it may bear a mark behind its end. -/
structure BRow (w : World) (g n cap : Nat) (B : Nat → Nat) : Prop where
  lt : g < w.heap.size
  le : n ≤ cap
  max : cap ≤ maxLen
  cell : ∀ j, j < n → w.cell? ⟨g, j, none⟩ = some (.int .u8 (B j : Int))
  there : w.there g 0 cap
theorem BRow.same {w w' : World} {g n cap : Nat} {B : Nat → Nat} (h : BRow w g n cap B) (hb : w'.heap[g]? = w.heap[g]?) (hs : w.heap.size ≤ w'.heap.size) : BRow w' g n cap B :=
  ⟨Nat.lt_of_lt_of_le h.lt hs, h.le, h.max, fun j hj => (World.cell?_of_block (w := w) hb).trans (h.cell j hj), fun j hj => by
    have := h.there j hj
    have e1 : w'.cell? ⟨g, 0 + j, none⟩ = w.cell? ⟨g, 0 + j, none⟩ := World.cell?_of_block (w := w) hb
    have e2 : w'.frozen? ⟨g, 0 + j, none⟩ = w.frozen? ⟨g, 0 + j, none⟩ := World.frozen?_of_block (w := w) hb
    rw [e1, e2]; exact this⟩
theorem BRow.below {w w' : World} {g n cap : Nat} {B : Nat → Nat} (h : BRow w g n cap B) (hb : Below w.heap.size w w') : BRow w' g n cap B := h.same (hb.block g h.lt) hb.size
theorem BRow.but {w w' : World} {g k n cap : Nat} {B : Nat → Nat} (h : BRow w g n cap B) (hk : g ≠ k) (hb : But k w w') : BRow w' g n cap B := h.same (hb.block g h.lt hk) hb.size
def upN (B : Nat → Nat) (n c : Nat) : Nat → Nat := fun j => if j = n then c else B j
theorem BRow.set {w : World} {g n cap : Nat} {B : Nat → Nat} (h : BRow w g n cap B) (k c : Nat) (hk : k < cap) (m : Nat) (hm : m ≤ cap) (hB : ∀ j, j < m → j ≠ k → j < n) : BRow (w.setCell ⟨g, k, none⟩ (.int .u8 (c : Int))) g m cap (upN B k c) := by
  refine ⟨by simpa [World.setCell] using h.lt, hm, h.max, fun j hj => ?_, show (w.setCells g k [.int .u8 (c : Int)]).there g 0 cap from World.there_setCells h.there _ _ _⟩
  by_cases e : j = k
  · subst e
    have o := (h.there j hk).1
    rw [Nat.zero_add] at o
    rw [World.cell?_setCell_same' _ _ _ o]; simp [upN]
  · rw [World.cell?_setCell_other _ _ _ _ (fun q => by injection q with _ q _; exact e q.symm), h.cell j (hB j hj e)]; simp [upN, e]
theorem row_cells {cur : Array Value} {w : World} {g : Nat} {e : TypeId} {fr : Nat × Nat} (h : w.heap[g]? = some (.cells cur e fr)) (n cap : Nat) (B : Nat → Nat) (hn : n ≤ cap) (hc : cap ≤ maxLen) (hs : cur.size = cap) (hfr : fr = (0, 0) ∨ fr.1 = cap)
    (hB : ∀ j, j < n → cur[j]? = some (.int .u8 (B j : Int))) : BRow w g n cap B := by
  refine ⟨(Array.getElem?_eq_some_iff.1 h).1, hn, hc, fun j hj => by rw [cell_of_row w g j cur e fr h]; exact hB j hj, fun j hj => ?_⟩
  rw [Nat.zero_add, cell_of_row w g j cur e fr h]
  refine ⟨by rw [Array.getElem?_eq_getElem (by omega)]; rfl, ?_⟩
  simp only [World.frozen?, h]
  rcases hfr with rfl | hfr
  · simp
  · simp; omega
/-- A byte is appended. -/
theorem run_append_byte {P : Program} (w : World) (t ty e : TypeId) (i : TypeInfo) (ht : P.underlying t = some (.slice e)) (hi : P.info? e = some i) (hz : i.zero = some (.int .u8 0)) (hsize : i.size = 1) (hby : i.bytes = 1)
    (g n cap c : Nat) (B : Nat → Nat) (h : BRow w g n cap B) (ad : Addr) (k : Nat) (hu : w.cell? ad = some (.int .u8 (c : Int))) (hn : n ≤ 1099511627776) :
    ∃ g' cap' w', (Builtin.append_ #[t, t] ty #[.slice (some ⟨g, 0, none⟩) n cap, .slice (some ad) 1 k]).run P w = .ok (.slice (some ⟨g', 0, none⟩) (n + 1) cap') w' ∧ BRow w' g' (n + 1) cap' (upN B n c) ∧ w.grownBy w' (some g) ∧ (g' = g ∨ g' = w.heap.size) := by
  have hnews : ∀ j u, [Value.int .u8 (c : Int)][j]? = some u → w.cell? (ad.add j) = some u := fun j u hj => by
    match j, hj with
    | 0, hj => simp at hj; subst hj; simpa [Addr.add] using hu
  by_cases hroom : n + 1 ≤ cap
  · have hf := run_firstCells_some (P := P) w i.size 1 ad 1 k [.int .u8 (c : Int)] (by rw [hsize]; rfl) hnews
    have hth := h.there n (by omega)
    rw [Nat.zero_add] at hth
    have z0 : ∀ j, j < [Value.int .u8 (c : Int)].length → j = 0 := fun j hj => by simp at hj; omega
    have hst := run_storeCells_cells (P := P) g n [.int .u8 (c : Int)] 0 w (fun j hj => by rw [z0 j hj]; exact hth.1) (fun j hj => by rw [z0 j hj]; exact hth.2) (fun v hv => by rw [List.mem_singleton.1 hv]; rfl)
    refine ⟨g, cap, w.setCell ⟨g, n, none⟩ (.int .u8 (c : Int)), ?_, h.set n c (by omega) (n + 1) hroom (fun j h1 h2 => by omega), ⟨rfl, rfl, rfl, by simp [World.setCell], fun k hk hne => ?_⟩, Or.inl rfl⟩
    · simp [Builtin.append_, run_underlying ht, sizeOf, typeInfo, hi, hsize, Builtin.lenOf, hroom, Addr.add_lit]
      rw [hsize] at hf
      simp only [hf, Result.andThen_ok]
      have hst' : (storeCells ⟨g, n, none⟩ [Value.int .u8 (c : Int)] 0).run P w = .ok () (w.setCell ⟨g, n, none⟩ (.int .u8 (c : Int))) := hst
      simp [hst']
    · exact Below.heap_setCell w ⟨g, n, none⟩ _ k (fun e => hne (by rw [e]))
  · obtain rfl : n = cap := by have := h.le; omega
    have hlo : ((List.range n).map fun j => Value.int .u8 (B j : Int)).length = n * i.size := by rw [hsize]; simp
    have holds : ∀ j v, ((List.range n).map fun j => Value.int .u8 (B j : Int))[j]? = some v → w.cell? ((⟨g, 0, none⟩ : Addr).add j) = some v := fun j v hj => by
      have hl : j < n := by
        have := (List.getElem?_eq_some_iff.1 hj).1
        simpa using this
      rw [List.getElem?_map, List.getElem?_range hl] at hj
      rw [Addr.add_lit, Nat.zero_add, h.cell j hl]; exact hj
    have hr := run_append_grow (P := P) w t ty e i (.int .u8 0) ht hi hz ⟨g, 0, none⟩ n n _ hlo holds ad 1 k [.int .u8 (c : Int)] (by rw [hsize]; rfl) hnews (by omega) (by omega) (growslice_fits (by omega) (by rw [hby]; omega))
    have hge := grownCap_ge w (n + 1) n e
    have hcm : grownCap w (n + 1) n e ≤ maxLen := grownCap_le_maxLen w (n + 1) n e (by unfold maxLen; omega)
    refine ⟨w.heap.size, _, _, hr, row_cells (heap_alloc_new w.drew _) (n + 1) _ _ hge hcm ?_ (Or.inl rfl) (fun j hj => ?_), ⟨rfl, rfl, rfl, by simp, fun m hm _ => heap_alloc_old w.drew _ hm⟩, Or.inr rfl⟩
    · have z1 : (Value.int .u8 0).cells.size = 1 := rfl
      simp [size_zeroCells, z1]; omega
    · have : (((List.range n).map fun j => Value.int .u8 (B j : Int)).toArray ++ [Value.int .u8 (c : Int)].toArray)[j]? = some (.int .u8 (upN B n c j : Int)) := by
        by_cases e : j = n
        · subst e; simp [upN]
        · have hl : j < n := by omega
          rw [Array.getElem?_append_left (by simp; exact hl)]
          simp [upN, e, hl]
      rw [Array.getElem?_append_left (by simp; omega)]; exact this
theorem wpList_append_byte {P : Program} {w : World} {ops : Array Oper} {rest : List Oper} {o : Oper} {a : Act} {Q : Exit → Act → World → Prop} (hgd : o.guard = none) (s x : Operand) (t : TypeId)
    (ho : o.op = .call { callee := .builtin .append, args := #[s, x], argTypes := #[t, t] })
    (e : TypeId) (i : TypeInfo) (ht : P.underlying t = some (.slice e)) (hi : P.info? e = some i) (hz : i.zero = some (.int .u8 0)) (hsize : i.size = 1) (hby : i.bytes = 1)
    (g n cap c : Nat) (B : Nat → Nat) (hs : a.eval s = .slice (some ⟨g, 0, none⟩) n cap) (h : BRow w g n cap B) (ad : Addr) (k : Nat) (hx : a.eval x = .slice (some ad) 1 k) (hu : w.cell? ad = some (.int .u8 (c : Int))) (hn : n ≤ 1099511627776)
    (hK : ∀ g' cap' w', BRow w' g' (n + 1) cap' (upN B n c) → w.grownBy w' (some g) → (g' = g ∨ g' = w.heap.size) → wpList P ops Q rest (a.put o.dst (.slice (some ⟨g', 0, none⟩) (n + 1) cap')) w') : wpList P ops Q (o :: rest) a w := by
  refine wpList_plain hgd fun K hK' => ?_
  obtain ⟨g', cap', w', hr, h2, h3, h4⟩ := run_append_byte (P := P) w t o.type e i ht hi hz hsize hby g n cap c B h ad k hu hn
  unfold Oper.wp execOp
  simp only [ho, resolve, invoke, builtin, Sem.run_bind, Sem.run_pure, Result.andThen_ok, List.map_toArray, List.map_cons, List.map_nil, hs, hx, hr]
  exact hK' _ _ (hK g' cap' w' h2 h3 h4)
end Go.Proofs.YtfjbchmneojgaaaDoor
