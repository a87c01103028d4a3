/- A hash in memory, and the contract of take for a string that does not fill the block. -/
import Derived.Test.YtfjbchmneojgaaaDoorByte
import Derived.Test.YtfjbchmneojgaaaDoorStep
import Derived.Deep.MidRow
import Derived.PlainAid
import Derived.Deep.RegionHeld3
namespace Go.Proofs.YtfjbchmneojgaaaDoor
open Go.RowKit

def vecL (n : Nat) (f : Nat → BitVec 64) : List Value := (List.range n).map fun i => Value.int .u64 (wd (f i))
theorem vecL_arr (n : Nat) (f : Nat → BitVec 64) : (vecL n f).toArray = vec n f := rfl
theorem vecL_len (n : Nat) (f : Nat → BitVec 64) : (vecL n f).length = n := by simp [vecL]
theorem vec_list (n : Nat) (f : Nat → BitVec 64) : (vec n f).toList = vecL n f := by simp [vec, vecL]

/-- Block g is plain cells, none of them frozen. -/
def RowLike (w : World) (g : Nat) : Prop := ∃ cs t, w.heap[g]? = some (.cells cs t (0, 0))
theorem RowLike.setCell {w : World} {g : Nat} (h : RowLike w g) (i : Nat) (v : Value) : RowLike (w.setCell ⟨g, i, none⟩ v) g := by
  obtain ⟨cs, t, h⟩ := h
  exact ⟨_, t, heap_setCell_same w g i _ t v h⟩
theorem RowLike.setCells {g : Nat} : ∀ (vs : List Value) (i : Nat) {w : World}, RowLike w g → RowLike (w.setCells g i vs) g
  | [], _, _, h => h
  | v :: r, i, _, h => RowLike.setCells r (i + 1) (h.setCell i v)
/-- Block g is a hash: its state, and how many bytes it has taken in. -/
structure HR (w : World) (g : Nat) (f : Nat → BitVec 64) (n : Nat) : Prop where
  s : w.rangeAt g 0 (vecL 25 f)
  c : w.cell? ⟨g, 25, none⟩ = some (.int .i64 n)
  t : w.there g 0 26
  lt : g < w.heap.size
  r : RowLike w g
theorem HR.same {w w' : World} {g n : Nat} {f : Nat → BitVec 64} (h : HR w g f n) (hb : w'.heap[g]? = w.heap[g]?) (hs : w.heap.size ≤ w'.heap.size) : HR w' g f n :=
  ⟨fun j v hv => (World.cell?_of_block (w := w) hb).trans (h.s j v hv), (World.cell?_of_block (w := w) hb).trans h.c,
   fun j hj => by
    have := h.t j hj
    have e1 : w'.cell? ⟨g, 0 + j, none⟩ = w.cell? ⟨g, 0 + j, none⟩ := World.cell?_of_block (w := w) hb
    have e2 : w'.frozen? ⟨g, 0 + j, none⟩ = w.frozen? ⟨g, 0 + j, none⟩ := World.frozen?_of_block (w := w) hb
    rw [e1, e2]; exact this, Nat.lt_of_lt_of_le h.lt hs, by obtain ⟨cs, t, hr⟩ := h.r; exact ⟨cs, t, hb.trans hr⟩⟩
theorem HR.below {w w' : World} {g n : Nat} {f : Nat → BitVec 64} (h : HR w g f n) (hb : Below w.heap.size w w') : HR w' g f n := h.same (hb.block g h.lt) hb.size
theorem HR.drew {w : World} {g n : Nat} {f : Nat → BitVec 64} (h : HR w g f n) : HR w.drew g f n := ⟨h.s, h.c, h.t, h.lt, h.r⟩
theorem size_cells (g : Nat) : ∀ (vs : List Value) (i : Nat) (w : World), (w.setCells g i vs).heap.size = w.heap.size
  | [], _, _ => rfl
  | v :: r, i, w => by rw [World.setCells, size_cells g r]; simp [World.setCell]
theorem HR.count {w : World} {g n : Nat} {f : Nat → BitVec 64} (h : HR w g f n) (m : Nat) : HR (w.setCell ⟨g, 25, none⟩ (.int .i64 m)) g f m := by
  refine ⟨fun j v hv => ?_, ?_, fun j hj => ?_, by simpa [World.setCell] using h.lt, h.r.setCell _ _⟩
  · have l : j < 25 := by
      have := (List.getElem?_eq_some_iff.1 hv).1
      rwa [vecL_len] at this
    rw [World.cell?_setCell_other _ _ _ _ (fun e => by injection e with _ e _; omega)]; exact h.s j v hv
  · have o := (h.t 25 (by omega)).1
    rw [Nat.zero_add] at o
    exact World.cell?_setCell_same' _ _ _ o
  · have o := h.t j hj
    refine ⟨?_, by rw [World.frozen?_setCell]; exact o.2⟩
    by_cases e : j = 25
    · subst e
      have o' := o.1
      rw [Nat.zero_add] at o' ⊢
      rw [World.cell?_setCell_same' _ _ _ o']; rfl
    · rw [World.cell?_setCell_other _ _ _ _ (fun q => by injection q with _ q _; omega)]; exact o.1
theorem HR.state {w : World} {g n : Nat} {f : Nat → BitVec 64} (h : HR w g f n) (f' : Nat → BitVec 64) : HR (w.setCells g 0 (vecL 25 f')) g f' n := by
  refine ⟨World.rangeAt_setCells_same _ _ _ _ (fun j hj => h.t j (by rw [vecL_len] at hj; omega)), ?_, World.there_setCells h.t _ _ _, ?_, h.r.setCells _ _⟩
  · rw [World.cell?_setCells_out g _ 0 w ⟨g, 25, none⟩ (fun _ _ => Or.inr (by rw [vecL_len]; simp))]; exact h.c
  · rw [size_cells]; exact h.lt

/-- Nothing but block g has changed; there may be new blocks. -/
structure But (g : Nat) (w w' : World) : Prop where
  os : w'.os = w.os
  tape : w'.tape = w.tape
  output : w'.output = w.output
  size : w.heap.size ≤ w'.heap.size
  block : ∀ k, k < w.heap.size → k ≠ g → w'.heap[k]? = w.heap[k]?
theorem But.refl (g : Nat) (w : World) : But g w w := ⟨rfl, rfl, rfl, Nat.le_refl _, fun _ _ _ => rfl⟩
theorem But.trans {g : Nat} {a b c : World} (h : But g a b) (k : But g b c) : But g a c :=
  ⟨k.os.trans h.os, k.tape.trans h.tape, k.output.trans h.output, Nat.le_trans h.size k.size, fun i hi hg => (k.block i (Nat.lt_of_lt_of_le hi h.size) hg).trans (h.block i hi hg)⟩
theorem But.of_below {g : Nat} {w w' : World} (h : Below w.heap.size w w') : But g w w' := ⟨h.os, h.tape, h.output, h.size, fun k hk _ => h.block k hk⟩
theorem But.drew (g : Nat) (w : World) : But g w w.drew := ⟨rfl, rfl, rfl, Nat.le_refl _, fun _ _ _ => rfl⟩
theorem But.setCell (g i : Nat) (w : World) (v : Value) : But g w (w.setCell ⟨g, i, none⟩ v) :=
  ⟨rfl, rfl, rfl, by simp [World.setCell], fun k _ hk => Below.heap_setCell w ⟨g, i, none⟩ v k hk⟩
theorem But.setCells (g : Nat) : ∀ (vs : List Value) (i : Nat) (w : World), But g w (w.setCells g i vs)
  | [], _, w => But.refl g w
  | v :: r, i, w => (But.setCell g i w v).trans (But.setCells g r (i + 1) _)
theorem But.below {g B : Nat} {w w' : World} (h : But g w w') (hg : B ≤ g) (hB : B ≤ w.heap.size) : Below B w w' :=
  ⟨h.os, h.tape, h.output, h.size, fun k hk => h.block k (by omega) (by omega)⟩

/-- Bytes are taken in, one behind the other, from a place on. -/
def puts (f : Nat → BitVec 64) (n : Nat) : List UInt8 → Nat → BitVec 64
  | [] => f
  | b :: r => puts (put f n b.toNat) (n + 1) r
theorem puts_snoc (b : UInt8) : ∀ (l : List UInt8) (f : Nat → BitVec 64) (n : Nat), puts f n (l ++ [b]) = put (puts f n l) (n + l.length) b.toNat
  | [], _, _ => rfl
  | c :: r, f, n => by
    show puts (put f n c.toNat) (n + 1) (r ++ [b]) = _
    rw [puts_snoc b r]
    show _ = put (puts (put f n c.toNat) (n + 1) r) (n + (r.length + 1)) b.toNat
    rw [show n + 1 + r.length = n + (r.length + 1) from by omega]
def strLen : Value → Nat | .string t => t.size | _ => 0
def HS (f : Nat → BitVec 64) (g n : Nat) (w' : World) : Prop := w'.rangeAt g 0 (vecL 25 f) ∧ w'.cell? ⟨g, 25, none⟩ = some (.int .i64 n) ∧ w'.there g 0 25
theorem withByte_L (f : Nat → BitVec 64) (p b : Nat) (w : World) (hp : p < 136) (hb : b < 256) :
    Calls Tryd.prog 29 #[.agg (vecL 25 f).toArray, .int .i64 p, .int .u8 b] w fun e w' => e = .returned (.agg (vecL 25 (put f p b)).toArray) ∧ Below w.heap.size w w' :=
  withByte_any f p b w hp hb
theorem HS_below {f : Nat → BitVec 64} {g n : Nat} {w w' : World} (h : w.rangeAt g 0 (vecL 25 f) ∧ w.cell? ⟨g, 25, none⟩ = some (.int .i64 n) ∧ w.there g 0 25) (hb : Below w.heap.size w w') (hg : g < w.heap.size) :
    w'.rangeAt g 0 (vecL 25 f) ∧ w'.cell? ⟨g, 25, none⟩ = some (.int .i64 n) ∧ w'.there g 0 25 :=
  ⟨fun j v hv => (hb.cell (p := ⟨g, 0 + j, none⟩) hg).trans (h.1 j v hv), (hb.cell (p := ⟨g, 25, none⟩) hg).trans h.2.1,
   fun j hj => by rw [hb.cell (p := ⟨g, 0 + j, none⟩) hg, hb.frozen (p := ⟨g, 0 + j, none⟩) hg]; exact h.2.2 j hj⟩
theorem infoL (f : Nat → BitVec 64) : (Tryd.prog.info? 23).map (·.size) = some (vecL 25 f).length := by rw [vecL_len]; kernel_rfl

theorem empty_iff (t : ByteArray) : t.toList.isEmpty = decide (t.size = 0) := by
  rw [ByteArray.toList_eq]
  have : t.size = t.data.toList.length := by rw [Array.length_toList]; rfl
  rw [this]
  cases t.data.toList <;> simp

/-- What is left of a text, and how far the hash is. -/
structure Tk (f : Nat → BitVec 64) (n g : Nat) (s : ByteArray) (w0 : World) (k : Nat) (t : ByteArray) (w : World) : Prop where
  le : k ≤ s.size
  rest : t.data.toList = s.data.toList.drop k
  h : HR w g (puts f n (s.data.toList.take k)) (n + k)
  b : But g w0 w

theorem Tk.step {f F : Nat → BitVec 64} {n g k m b : Nat} {s t : ByteArray} {w0 wr w2 : World} (T : Tk f n g s w0 k t wr) (h0 : 0 < t.size) (hm : m = n + k) (hF : puts f n (s.data.toList.take k) = F)
    (hb : PlainAid.bt t 0 = (b : Int)) (H2 : HR w2 g (put F m b) m) (B2 : But g wr w2) :
    (∃ (k' : Nat) (t' : ByteArray), Value.string (t.extract 1 t.size) = .string t' ∧ Tk f n g s w0 k' t' (w2.setCell ⟨g, 25, none⟩ (.int .i64 ((m : Int) + 1)))) ∧ strLen (.string (t.extract 1 t.size)) < strLen (.string t) := by
  have lt : t.data.toList.length = t.size := by rw [Array.length_toList]; rfl
  have ls : s.data.toList.length = s.size := by rw [Array.length_toList]; rfl
  have ld := congrArg List.length T.rest
  rw [lt, List.length_drop, ls] at ld
  have g0 := PlainAid.get_bt t 0 h0
  have e0 : t.data.toList[0]? = some t[0] := by
    rw [List.getElem?_eq_getElem (by omega)]; rfl
  have ek : s.data.toList[k]? = some t[0] := by
    rw [T.rest, List.getElem?_drop, Nat.add_zero] at e0; exact e0
  refine ⟨⟨k + 1, _, rfl, by omega, ?_, ?_, T.b.trans (B2.trans (But.setCell g 25 w2 _))⟩, ?_⟩
  · have : (t.extract 1 t.size).data.toList = t.data.toList.drop 1 := by
      rw [ByteArray.data_extract, Array.toList_extract, List.extract_eq_take_drop]
      rw [List.take_of_length_le (by rw [List.length_drop, lt]; omega)]
    rw [this, T.rest, List.drop_drop]
  · have e : s.data.toList.take (k + 1) = s.data.toList.take k ++ [t[0]] := by
      rw [List.take_add_one, ek]; rfl
    have l : (s.data.toList.take k).length = k := by rw [List.length_take, ls]; omega
    have hbn : (t[0]).toNat = b := by rw [hb] at g0; exact_mod_cast g0
    have c := H2.count (m + 1)
    rw [e, puts_snoc, hF, l, ← hm, hbn, show n + (k + 1) = m + 1 from by omega]
    exact_mod_cast c
  · show (t.extract 1 t.size).size < t.size
    rw [ByteArray.size_extract]; omega

set_option maxRecDepth 100000 in
set_option maxHeartbeats 4000000 in
theorem take_short (f : Nat → BitVec 64) (n g : Nat) (s : ByteArray) (w : World) (hR : HR w g f n) (hl : n + s.size < 136) :
    Calls Tryd.prog 30 #[.pointer (some ⟨g, 0, none⟩), .string s] w fun e w' => e = .returned (.tuple #[]) ∧ HR w' g (puts f n s.data.toList) (n + s.size) ∧ But g w w' := by
  have U := Tryd.underlying23
  go_enter Tryd.func30, Tryd.ntmps30
  go_wp2_with fail
  go_loopw [1] (fun sv wr => ∃ (k : Nat) (t : ByteArray), sv = .string t ∧ Tk f n g s w k t wr) (fun sv _ => strLen sv)
  case atStart => exact ⟨0, s, rfl, Nat.zero_le _, rfl, hR, But.refl _ _⟩
  case round =>
    obtain ⟨k, t, rfl, T⟩ := hrel
    have hts : t.size = s.size - k := by
      have := congrArg List.length T.rest
      simpa using this
    by_cases hz : t.size = 0
    · have ne : t.toList.isEmpty = true := by rw [empty_iff]; exact decide_eq_true hz
      have HT := Lib.hid T
      clear T hR
      go_wp2_with fail
      have hk : k = s.size := by have := HT.out.le; omega
      have e : s.data.toList.take k = s.data.toList := List.take_of_length_le (by rw [Array.length_toList, hk]; exact Nat.le_refl _)
      refine bodyPost_end (results_none (by kernel_rfl) _ _ _) rfl ⟨rfl, ?_, HT.out.b⟩
      have h := HT.out.h
      rw [e] at h
      rw [← hk]; exact h
    · obtain ⟨m, hm⟩ : ∃ m, m = n + k := ⟨_, rfl⟩
      have hm1 : m < 135 := by have := T.le; omega
      have ht0 : 0 < t.size := by omega
      have ht1 : t.size < 136 := by omega
      generalize hF : puts f n (s.data.toList.take k) = F at *
      have hH := T.h
      rw [hF, ← hm] at hH
      have I := infoL F
      have q1 : (m : Int).tmod 136 = (m : Int) := by rw [Int.tmod_eq_emod_of_nonneg (by omega)]; omega
      have q2 : (m : Int) % 136 = (m : Int) := by omega
      have q3 : IntKind.i64.wrap (m : Int) = (m : Int) := IntWalk.i64_in _ ⟨by omega, by omega⟩
      have hc := hH.c
      have hb := PlainAid.get_bt t
      have HT := Lib.hid T
      have HF := Lib.hid hF
      have HM := Lib.hid hm
      have HH := Lib.hid hH
      clear T hF hm hH hts hz hR hl
      by_cases z : m = 0
      · have z' : ((m : Int) == 0) = true := by simp [z]
        have z2 : decide ((136 : Int) ≤ (t.size : Int)) = false := by simp; omega
        have ne : t.toList.isEmpty = false := by rw [empty_iff]; exact decide_eq_false (by omega)
        clear z
        have b0 := PlainAid.bt_nonneg t 0
        have q4 : IntKind.i64.wrap ((m : Int) + 1) = (m : Int) + 1 := IntWalk.i64_in _ ⟨by omega, by omega⟩
        have q5 : ((m : Int) + 1).tmod 136 = (m : Int) + 1 := by rw [Int.tmod_eq_emod_of_nonneg (by omega)]; omega
        have q6 : (((m : Int) + 1) == 0) = false := by simp; omega
        have b1 := PlainAid.bt_le t 0
        obtain ⟨b, hbb⟩ : ∃ b : Nat, PlainAid.bt t 0 = (b : Int) := ⟨(PlainAid.bt t 0).toNat, by omega⟩
        have b2 : b < 256 := by omega
        rw [hbb] at b0 b1
        have r0 := HH.out.s
        have r2 : wr.there g 0 25 := fun j hj => HH.out.t j (by omega)
        have gl := HH.out.lt
        go_wp2_with fail
        refine wp_region_any (by kernel_rfl) ?_
        change wpAny _ _ _ _ _ _ _ (World.drew _)
        refine wpAny_take (i := 0) (oi := { dst := some 23, op := Op.move (Operand.tmp 0), type := 35, pos := "digest.go:153", after := #[], guard := none }) (v := ?_) rfl (by kernel_rfl) (by kernel_rfl) (by kernel_rfl) (fun _ _ _ h => h) (Or.inl ⟨by rfl, ?_⟩) ?_
        rotate_left
        · intro w; go_simp <;> with_reducible rfl
        try simp only [Act.put, List.setIfInBounds_toArray, List.set_cons_zero, List.set_cons_succ]
        refine wpAny_take (i := 1) (oi := { dst := some 24, op := Op.move (Operand.tmp 0), type := 35, pos := "digest.go:153", after := #[], guard := none }) (v := ?_) rfl (by kernel_rfl) (by kernel_rfl) (by kernel_rfl) (fun _ _ _ h => h) (Or.inl ⟨by rfl, ?_⟩) ?_
        rotate_left
        · intro w; go_simp <;> with_reducible rfl
        try simp only [Act.put, List.setIfInBounds_toArray, List.set_cons_zero, List.set_cons_succ]
        refine wpAny_take (i := 2) (oi := { dst := some 25, op := Op.nilCheck (Operand.tmp 24), type := 0, pos := "digest.go:153", after := #[{ on := 1, ground := Ground.data }], guard := none }) (v := ?_) rfl (by kernel_rfl) (by kernel_rfl) (by kernel_rfl) (fun _ _ _ h => h) (Or.inl ⟨by rfl, ?_⟩) ?_
        rotate_left
        · intro w; go_simp <;> with_reducible rfl
        try simp only [Act.put, List.setIfInBounds_toArray, List.set_cons_zero, List.set_cons_succ]
        refine wpAny_take (i := 3) (oi := { dst := some 26, op := Op.fieldAddr 54 (Operand.tmp 25) 0, type := 0, pos := "digest.go:153", after := #[{ on := 2, ground := Ground.data }], guard := none }) (v := ?_) rfl (by kernel_rfl) (by kernel_rfl) (by kernel_rfl) (fun _ _ _ h => h) (Or.inl ⟨by rfl, ?_⟩) ?_
        rotate_left
        · intro w; go_simp <;> with_reducible rfl
        try simp only [Act.put, List.setIfInBounds_toArray, List.set_cons_zero, List.set_cons_succ]
        refine wpAny_take (i := 5) (oi := { dst := some 28, op := Op.move (Operand.tmp 0), type := 35, pos := "digest.go:153", after := #[], guard := none }) (v := ?_) rfl (by kernel_rfl) (by kernel_rfl) (by kernel_rfl) (fun _ _ _ h => h) (Or.inl ⟨by rfl, ?_⟩) ?_
        rotate_left
        · intro w; go_simp <;> with_reducible rfl
        try simp only [Act.put, List.setIfInBounds_toArray, List.set_cons_zero, List.set_cons_succ]
        refine wpAny_take (i := 6) (oi := { dst := some 29, op := Op.nilCheck (Operand.tmp 28), type := 0, pos := "digest.go:153", after := #[{ on := 5, ground := Ground.data }], guard := none }) (v := ?_) rfl (by kernel_rfl) (by kernel_rfl) (by kernel_rfl) (fun _ _ _ h => h) (Or.inl ⟨by rfl, ?_⟩) ?_
        rotate_left
        · intro w; go_simp <;> with_reducible rfl
        try simp only [Act.put, List.setIfInBounds_toArray, List.set_cons_zero, List.set_cons_succ]
        refine wpAny_take (i := 7) (oi := { dst := some 30, op := Op.fieldAddr 54 (Operand.tmp 29) 1, type := 0, pos := "digest.go:153", after := #[{ on := 6, ground := Ground.data }], guard := none }) (v := ?_) rfl (by kernel_rfl) (by kernel_rfl) (by kernel_rfl) (fun _ _ _ h => h) (Or.inl ⟨by rfl, ?_⟩) ?_
        rotate_left
        · intro w; go_simp <;> with_reducible rfl
        try simp only [Act.put, List.setIfInBounds_toArray, List.set_cons_zero, List.set_cons_succ]
        refine wpAny_take (i := 10) (oi := { dst := some 33, op := Op.move (Operand.tmp 1), type := 9, pos := "digest.go:153", after := #[], guard := none }) (v := ?_) rfl (by kernel_rfl) (by kernel_rfl) (by kernel_rfl) (fun _ _ _ h => h) (Or.inl ⟨by rfl, ?_⟩) ?_
        rotate_left
        · intro w; go_simp <;> with_reducible rfl
        try simp only [Act.put, List.setIfInBounds_toArray, List.set_cons_zero, List.set_cons_succ]
        refine wpAny_take (i := 11) (oi := { dst := some 34, op := Op.index 9 (Operand.tmp 33) (Operand.const (Value.int IntKind.i64 0)), type := 5, pos := "digest.go:153", after := #[{ on := 10, ground := Ground.data }], guard := none }) (v := ?_) rfl (by kernel_rfl) (by kernel_rfl) (by kernel_rfl) (fun _ _ _ h => h) (Or.inl ⟨by rfl, ?_⟩) ?_
        rotate_left
        · intro w; go_simp <;> with_reducible rfl
        try simp only [Act.put, List.setIfInBounds_toArray, List.set_cons_zero, List.set_cons_succ]
        refine wpAny_ready (rs := [4, 8]) (by kernel_rfl) (by simp) ?_
        refine AllReady.cons (i := 4) (o := { dst := some 27, op := Op.load 23 (Operand.tmp 26), type := 23, pos := "digest.go:153", after := #[{ on := 3, ground := Ground.data }], guard := none }) rfl (fun K hK => ?_) ?_
        rw [if_pos (by rfl)]
        · refine wp_load_mid 23 _ rfl g 0 rfl (vecL 25 F) _ r0 U rfl I ?_
          refine hK _ _ ?_
          clear hK K
          try simp only [Act.put, List.setIfInBounds_toArray, List.set_cons_zero, List.set_cons_succ]
          refine wpAny_ready (rs := [8]) (by kernel_rfl) (by simp) ?_
          refine AllReady.cons (i := 8) (o := { dst := some 31, op := Op.load 3 (Operand.tmp 30), type := 3, pos := "digest.go:153", after := #[{ on := 7, ground := Ground.data }], guard := none }) rfl (fun K hK => ?_) ?_
          rw [if_pos (by rfl)]
          · go_simp
            refine hK _ _ ?_
            clear hK K
            try simp only [Act.put, List.setIfInBounds_toArray, List.set_cons_zero, List.set_cons_succ]
            refine wpAny_take (i := 9) (oi := { dst := some 32, op := Op.binOp BinOp.rem 3 (Operand.tmp 31) (Operand.const (Value.int IntKind.i64 136)) 3, type := 3, pos := "digest.go:153", after := #[{ on := 8, ground := Ground.data }], guard := none }) (v := ?_) rfl (by kernel_rfl) (by kernel_rfl) (by kernel_rfl) (fun _ _ _ h => h) (Or.inl ⟨by rfl, ?_⟩) ?_
            rotate_left
            · intro w; go_simp <;> with_reducible rfl
            try simp only [Act.put, List.setIfInBounds_toArray, List.set_cons_zero, List.set_cons_succ]
            refine wpAny_ready (rs := [12]) (by kernel_rfl) (by simp) ?_
            refine AllReady.cons (i := 12) (o := { dst := some 35, op := Op.call { callee := Callee.value (Operand.func 29), args := #[Operand.tmp 27, Operand.tmp 32, Operand.tmp 34], argTypes := #[23, 3, 5] }, type := 23, pos := "digest.go:153", after := #[{ on := 4, ground := Ground.data }, { on := 9, ground := Ground.data }, { on := 11, ground := Ground.data }], guard := none }) rfl (fun K hK => ?_) ?_
            rw [if_pos (by rfl)]
            · go_simp
              refine (withByte_L F m b _ (by omega) b2).mono ?_
              rintro e w1 ⟨rfl, hb1⟩
              refine hK _ _ ?_
              clear hK K
              try simp only [Act.put, List.setIfInBounds_toArray, List.set_cons_zero, List.set_cons_succ]
              refine wpAny_take (i := 13) (oi := { dst := some 36, op := Op.nilCheck (Operand.tmp 23), type := 0, pos := "digest.go:153", after := #[{ on := 0, ground := Ground.data }, { on := 0, ground := Ground.phase }, { on := 1, ground := Ground.phase }, { on := 2, ground := Ground.phase }, { on := 3, ground := Ground.phase }, { on := 4, ground := Ground.phase }, { on := 5, ground := Ground.phase }, { on := 6, ground := Ground.phase }, { on := 7, ground := Ground.phase }, { on := 8, ground := Ground.phase }, { on := 9, ground := Ground.phase }, { on := 10, ground := Ground.phase }, { on := 11, ground := Ground.phase }, { on := 12, ground := Ground.phase }], guard := none }) (v := ?_) rfl (by kernel_rfl) (by kernel_rfl) (by kernel_rfl) (fun _ _ _ h => h) (Or.inl ⟨by rfl, ?_⟩) ?_
              rotate_left
              · intro w; go_simp <;> with_reducible rfl
              try simp only [Act.put, List.setIfInBounds_toArray, List.set_cons_zero, List.set_cons_succ]
              refine wpAny_take (i := 14) (oi := { dst := some 37, op := Op.fieldAddr 54 (Operand.tmp 36) 0, type := 0, pos := "digest.go:153", after := #[{ on := 13, ground := Ground.data }, { on := 0, ground := Ground.phase }, { on := 1, ground := Ground.phase }, { on := 2, ground := Ground.phase }, { on := 3, ground := Ground.phase }, { on := 4, ground := Ground.phase }, { on := 5, ground := Ground.phase }, { on := 6, ground := Ground.phase }, { on := 7, ground := Ground.phase }, { on := 8, ground := Ground.phase }, { on := 9, ground := Ground.phase }, { on := 10, ground := Ground.phase }, { on := 11, ground := Ground.phase }, { on := 12, ground := Ground.phase }], guard := none }) (v := ?_) rfl (by kernel_rfl) (by kernel_rfl) (by kernel_rfl) (fun _ _ _ h => h) (Or.inl ⟨by rfl, ?_⟩) ?_
              rotate_left
              · intro w; go_simp <;> with_reducible rfl
              try simp only [Act.put, List.setIfInBounds_toArray, List.set_cons_zero, List.set_cons_succ]
              refine wpAny_ready (rs := [15]) (by kernel_rfl) (by simp) ?_
              refine AllReady.cons (i := 15) (o := { dst := none, op := Op.store 23 (Operand.tmp 37) (Operand.tmp 35), type := 0, pos := "digest.go:153", after := #[{ on := 14, ground := Ground.data }, { on := 12, ground := Ground.data }, { on := 12, ground := Ground.chain }, { on := 0, ground := Ground.phase }, { on := 1, ground := Ground.phase }, { on := 2, ground := Ground.phase }, { on := 3, ground := Ground.phase }, { on := 4, ground := Ground.phase }, { on := 5, ground := Ground.phase }, { on := 6, ground := Ground.phase }, { on := 7, ground := Ground.phase }, { on := 8, ground := Ground.phase }, { on := 9, ground := Ground.phase }, { on := 10, ground := Ground.phase }, { on := 11, ground := Ground.phase }, { on := 12, ground := Ground.phase }], guard := none }) rfl (fun K hK => ?_) ?_
              rw [if_pos (by rfl)]
              · have r1 := HS_below (w := wr.drew) (f := F) (n := m) ⟨r0, hc, r2⟩ hb1 gl
                refine wp_store_mid 23 _ _ rfl g 0 (vecL 25 (put F m b)).toArray rfl rfl ?_ ?_ ?_ ?_
                · rw [List.size_toArray, vecL_len]; exact r1.2.2
                · rw [List.size_toArray, vecL_len]; kernel_rfl
                · rw [vecL_arr]; exact vec_one _ _
                · refine hK _ _ ?_
                  clear hK K
                  try simp only [Act.put]
                  refine wpAny_done (by kernel_rfl) ?_ _
                  have H2 := (HH.out.drew.below (show Below wr.drew.heap.size wr.drew w1 from hb1)).state (put F m b)
                  have B2 : But g wr (w1.setCells g 0 (vecL 25 (put F m b))) := ((But.drew g wr).trans (But.of_below hb1)).trans (But.setCells g _ 0 w1)
                  generalize w1.setCells g 0 (vecL 25 (put F m b)) = w2 at H2 B2 ⊢
                  have c2 := H2.c
                  have o2 := (H2.t 25 (by omega)).2
                  rw [Nat.zero_add] at o2
                  have HH2 := Lib.hid H2
                  have HB2 := Lib.hid B2
                  clear H2 B2
                  go_wp2_with fail
                  exact HT.out.step ht0 HM.out HF.out hbb HH2.out HB2.out
              exact AllReady.nil
            exact AllReady.nil
          exact AllReady.nil
        refine AllReady.cons (i := 8) (o := { dst := some 31, op := Op.load 3 (Operand.tmp 30), type := 3, pos := "digest.go:153", after := #[{ on := 7, ground := Ground.data }], guard := none }) rfl (fun K hK => ?_) ?_
        rw [if_pos (by rfl)]
        · go_simp
          refine hK _ _ ?_
          clear hK K
          try simp only [Act.put, List.setIfInBounds_toArray, List.set_cons_zero, List.set_cons_succ]
          refine wpAny_take (i := 9) (oi := { dst := some 32, op := Op.binOp BinOp.rem 3 (Operand.tmp 31) (Operand.const (Value.int IntKind.i64 136)) 3, type := 3, pos := "digest.go:153", after := #[{ on := 8, ground := Ground.data }], guard := none }) (v := ?_) rfl (by kernel_rfl) (by kernel_rfl) (by kernel_rfl) (fun _ _ _ h => h) (Or.inl ⟨by rfl, ?_⟩) ?_
          rotate_left
          · intro w; go_simp <;> with_reducible rfl
          try simp only [Act.put, List.setIfInBounds_toArray, List.set_cons_zero, List.set_cons_succ]
          refine wpAny_ready (rs := [4]) (by kernel_rfl) (by simp) ?_
          refine AllReady.cons (i := 4) (o := { dst := some 27, op := Op.load 23 (Operand.tmp 26), type := 23, pos := "digest.go:153", after := #[{ on := 3, ground := Ground.data }], guard := none }) rfl (fun K hK => ?_) ?_
          rw [if_pos (by rfl)]
          · refine wp_load_mid 23 _ rfl g 0 rfl (vecL 25 F) _ r0 U rfl I ?_
            refine hK _ _ ?_
            clear hK K
            try simp only [Act.put, List.setIfInBounds_toArray, List.set_cons_zero, List.set_cons_succ]
            refine wpAny_ready (rs := [12]) (by kernel_rfl) (by simp) ?_
            refine AllReady.cons (i := 12) (o := { dst := some 35, op := Op.call { callee := Callee.value (Operand.func 29), args := #[Operand.tmp 27, Operand.tmp 32, Operand.tmp 34], argTypes := #[23, 3, 5] }, type := 23, pos := "digest.go:153", after := #[{ on := 4, ground := Ground.data }, { on := 9, ground := Ground.data }, { on := 11, ground := Ground.data }], guard := none }) rfl (fun K hK => ?_) ?_
            rw [if_pos (by rfl)]
            · go_simp
              refine (withByte_L F m b _ (by omega) b2).mono ?_
              rintro e w1 ⟨rfl, hb1⟩
              refine hK _ _ ?_
              clear hK K
              try simp only [Act.put, List.setIfInBounds_toArray, List.set_cons_zero, List.set_cons_succ]
              refine wpAny_take (i := 13) (oi := { dst := some 36, op := Op.nilCheck (Operand.tmp 23), type := 0, pos := "digest.go:153", after := #[{ on := 0, ground := Ground.data }, { on := 0, ground := Ground.phase }, { on := 1, ground := Ground.phase }, { on := 2, ground := Ground.phase }, { on := 3, ground := Ground.phase }, { on := 4, ground := Ground.phase }, { on := 5, ground := Ground.phase }, { on := 6, ground := Ground.phase }, { on := 7, ground := Ground.phase }, { on := 8, ground := Ground.phase }, { on := 9, ground := Ground.phase }, { on := 10, ground := Ground.phase }, { on := 11, ground := Ground.phase }, { on := 12, ground := Ground.phase }], guard := none }) (v := ?_) rfl (by kernel_rfl) (by kernel_rfl) (by kernel_rfl) (fun _ _ _ h => h) (Or.inl ⟨by rfl, ?_⟩) ?_
              rotate_left
              · intro w; go_simp <;> with_reducible rfl
              try simp only [Act.put, List.setIfInBounds_toArray, List.set_cons_zero, List.set_cons_succ]
              refine wpAny_take (i := 14) (oi := { dst := some 37, op := Op.fieldAddr 54 (Operand.tmp 36) 0, type := 0, pos := "digest.go:153", after := #[{ on := 13, ground := Ground.data }, { on := 0, ground := Ground.phase }, { on := 1, ground := Ground.phase }, { on := 2, ground := Ground.phase }, { on := 3, ground := Ground.phase }, { on := 4, ground := Ground.phase }, { on := 5, ground := Ground.phase }, { on := 6, ground := Ground.phase }, { on := 7, ground := Ground.phase }, { on := 8, ground := Ground.phase }, { on := 9, ground := Ground.phase }, { on := 10, ground := Ground.phase }, { on := 11, ground := Ground.phase }, { on := 12, ground := Ground.phase }], guard := none }) (v := ?_) rfl (by kernel_rfl) (by kernel_rfl) (by kernel_rfl) (fun _ _ _ h => h) (Or.inl ⟨by rfl, ?_⟩) ?_
              rotate_left
              · intro w; go_simp <;> with_reducible rfl
              try simp only [Act.put, List.setIfInBounds_toArray, List.set_cons_zero, List.set_cons_succ]
              refine wpAny_ready (rs := [15]) (by kernel_rfl) (by simp) ?_
              refine AllReady.cons (i := 15) (o := { dst := none, op := Op.store 23 (Operand.tmp 37) (Operand.tmp 35), type := 0, pos := "digest.go:153", after := #[{ on := 14, ground := Ground.data }, { on := 12, ground := Ground.data }, { on := 12, ground := Ground.chain }, { on := 0, ground := Ground.phase }, { on := 1, ground := Ground.phase }, { on := 2, ground := Ground.phase }, { on := 3, ground := Ground.phase }, { on := 4, ground := Ground.phase }, { on := 5, ground := Ground.phase }, { on := 6, ground := Ground.phase }, { on := 7, ground := Ground.phase }, { on := 8, ground := Ground.phase }, { on := 9, ground := Ground.phase }, { on := 10, ground := Ground.phase }, { on := 11, ground := Ground.phase }, { on := 12, ground := Ground.phase }], guard := none }) rfl (fun K hK => ?_) ?_
              rw [if_pos (by rfl)]
              · have r1 := HS_below (w := wr.drew) (f := F) (n := m) ⟨r0, hc, r2⟩ hb1 gl
                refine wp_store_mid 23 _ _ rfl g 0 (vecL 25 (put F m b)).toArray rfl rfl ?_ ?_ ?_ ?_
                · rw [List.size_toArray, vecL_len]; exact r1.2.2
                · rw [List.size_toArray, vecL_len]; kernel_rfl
                · rw [vecL_arr]; exact vec_one _ _
                · refine hK _ _ ?_
                  clear hK K
                  try simp only [Act.put]
                  refine wpAny_done (by kernel_rfl) ?_ _
                  have H2 := (HH.out.drew.below (show Below wr.drew.heap.size wr.drew w1 from hb1)).state (put F m b)
                  have B2 : But g wr (w1.setCells g 0 (vecL 25 (put F m b))) := ((But.drew g wr).trans (But.of_below hb1)).trans (But.setCells g _ 0 w1)
                  generalize w1.setCells g 0 (vecL 25 (put F m b)) = w2 at H2 B2 ⊢
                  have c2 := H2.c
                  have o2 := (H2.t 25 (by omega)).2
                  rw [Nat.zero_add] at o2
                  have HH2 := Lib.hid H2
                  have HB2 := Lib.hid B2
                  clear H2 B2
                  go_wp2_with fail
                  exact HT.out.step ht0 HM.out HF.out hbb HH2.out HB2.out
              exact AllReady.nil
            exact AllReady.nil
          exact AllReady.nil
        exact AllReady.nil
      · have z' : ((m : Int) == 0) = false := by simp; omega
        have ne : t.toList.isEmpty = false := by rw [empty_iff]; exact decide_eq_false (by omega)
        clear z
        have b0 := PlainAid.bt_nonneg t 0
        have q4 : IntKind.i64.wrap ((m : Int) + 1) = (m : Int) + 1 := IntWalk.i64_in _ ⟨by omega, by omega⟩
        have q5 : ((m : Int) + 1).tmod 136 = (m : Int) + 1 := by rw [Int.tmod_eq_emod_of_nonneg (by omega)]; omega
        have q6 : (((m : Int) + 1) == 0) = false := by simp; omega
        have b1 := PlainAid.bt_le t 0
        obtain ⟨b, hbb⟩ : ∃ b : Nat, PlainAid.bt t 0 = (b : Int) := ⟨(PlainAid.bt t 0).toNat, by omega⟩
        have b2 : b < 256 := by omega
        rw [hbb] at b0 b1
        have r0 := HH.out.s
        have r2 : wr.there g 0 25 := fun j hj => HH.out.t j (by omega)
        have gl := HH.out.lt
        go_wp2_with fail
        refine wp_region_any (by kernel_rfl) ?_
        change wpAny _ _ _ _ _ _ _ (World.drew _)
        refine wpAny_take (i := 0) (oi := { dst := some 23, op := Op.move (Operand.tmp 0), type := 35, pos := "digest.go:153", after := #[], guard := none }) (v := ?_) rfl (by kernel_rfl) (by kernel_rfl) (by kernel_rfl) (fun _ _ _ h => h) (Or.inl ⟨by rfl, ?_⟩) ?_
        rotate_left
        · intro w; go_simp <;> with_reducible rfl
        try simp only [Act.put, List.setIfInBounds_toArray, List.set_cons_zero, List.set_cons_succ]
        refine wpAny_take (i := 1) (oi := { dst := some 24, op := Op.move (Operand.tmp 0), type := 35, pos := "digest.go:153", after := #[], guard := none }) (v := ?_) rfl (by kernel_rfl) (by kernel_rfl) (by kernel_rfl) (fun _ _ _ h => h) (Or.inl ⟨by rfl, ?_⟩) ?_
        rotate_left
        · intro w; go_simp <;> with_reducible rfl
        try simp only [Act.put, List.setIfInBounds_toArray, List.set_cons_zero, List.set_cons_succ]
        refine wpAny_take (i := 2) (oi := { dst := some 25, op := Op.nilCheck (Operand.tmp 24), type := 0, pos := "digest.go:153", after := #[{ on := 1, ground := Ground.data }], guard := none }) (v := ?_) rfl (by kernel_rfl) (by kernel_rfl) (by kernel_rfl) (fun _ _ _ h => h) (Or.inl ⟨by rfl, ?_⟩) ?_
        rotate_left
        · intro w; go_simp <;> with_reducible rfl
        try simp only [Act.put, List.setIfInBounds_toArray, List.set_cons_zero, List.set_cons_succ]
        refine wpAny_take (i := 3) (oi := { dst := some 26, op := Op.fieldAddr 54 (Operand.tmp 25) 0, type := 0, pos := "digest.go:153", after := #[{ on := 2, ground := Ground.data }], guard := none }) (v := ?_) rfl (by kernel_rfl) (by kernel_rfl) (by kernel_rfl) (fun _ _ _ h => h) (Or.inl ⟨by rfl, ?_⟩) ?_
        rotate_left
        · intro w; go_simp <;> with_reducible rfl
        try simp only [Act.put, List.setIfInBounds_toArray, List.set_cons_zero, List.set_cons_succ]
        refine wpAny_take (i := 5) (oi := { dst := some 28, op := Op.move (Operand.tmp 0), type := 35, pos := "digest.go:153", after := #[], guard := none }) (v := ?_) rfl (by kernel_rfl) (by kernel_rfl) (by kernel_rfl) (fun _ _ _ h => h) (Or.inl ⟨by rfl, ?_⟩) ?_
        rotate_left
        · intro w; go_simp <;> with_reducible rfl
        try simp only [Act.put, List.setIfInBounds_toArray, List.set_cons_zero, List.set_cons_succ]
        refine wpAny_take (i := 6) (oi := { dst := some 29, op := Op.nilCheck (Operand.tmp 28), type := 0, pos := "digest.go:153", after := #[{ on := 5, ground := Ground.data }], guard := none }) (v := ?_) rfl (by kernel_rfl) (by kernel_rfl) (by kernel_rfl) (fun _ _ _ h => h) (Or.inl ⟨by rfl, ?_⟩) ?_
        rotate_left
        · intro w; go_simp <;> with_reducible rfl
        try simp only [Act.put, List.setIfInBounds_toArray, List.set_cons_zero, List.set_cons_succ]
        refine wpAny_take (i := 7) (oi := { dst := some 30, op := Op.fieldAddr 54 (Operand.tmp 29) 1, type := 0, pos := "digest.go:153", after := #[{ on := 6, ground := Ground.data }], guard := none }) (v := ?_) rfl (by kernel_rfl) (by kernel_rfl) (by kernel_rfl) (fun _ _ _ h => h) (Or.inl ⟨by rfl, ?_⟩) ?_
        rotate_left
        · intro w; go_simp <;> with_reducible rfl
        try simp only [Act.put, List.setIfInBounds_toArray, List.set_cons_zero, List.set_cons_succ]
        refine wpAny_take (i := 10) (oi := { dst := some 33, op := Op.move (Operand.tmp 1), type := 9, pos := "digest.go:153", after := #[], guard := none }) (v := ?_) rfl (by kernel_rfl) (by kernel_rfl) (by kernel_rfl) (fun _ _ _ h => h) (Or.inl ⟨by rfl, ?_⟩) ?_
        rotate_left
        · intro w; go_simp <;> with_reducible rfl
        try simp only [Act.put, List.setIfInBounds_toArray, List.set_cons_zero, List.set_cons_succ]
        refine wpAny_take (i := 11) (oi := { dst := some 34, op := Op.index 9 (Operand.tmp 33) (Operand.const (Value.int IntKind.i64 0)), type := 5, pos := "digest.go:153", after := #[{ on := 10, ground := Ground.data }], guard := none }) (v := ?_) rfl (by kernel_rfl) (by kernel_rfl) (by kernel_rfl) (fun _ _ _ h => h) (Or.inl ⟨by rfl, ?_⟩) ?_
        rotate_left
        · intro w; go_simp <;> with_reducible rfl
        try simp only [Act.put, List.setIfInBounds_toArray, List.set_cons_zero, List.set_cons_succ]
        refine wpAny_ready (rs := [4, 8]) (by kernel_rfl) (by simp) ?_
        refine AllReady.cons (i := 4) (o := { dst := some 27, op := Op.load 23 (Operand.tmp 26), type := 23, pos := "digest.go:153", after := #[{ on := 3, ground := Ground.data }], guard := none }) rfl (fun K hK => ?_) ?_
        rw [if_pos (by rfl)]
        · refine wp_load_mid 23 _ rfl g 0 rfl (vecL 25 F) _ r0 U rfl I ?_
          refine hK _ _ ?_
          clear hK K
          try simp only [Act.put, List.setIfInBounds_toArray, List.set_cons_zero, List.set_cons_succ]
          refine wpAny_ready (rs := [8]) (by kernel_rfl) (by simp) ?_
          refine AllReady.cons (i := 8) (o := { dst := some 31, op := Op.load 3 (Operand.tmp 30), type := 3, pos := "digest.go:153", after := #[{ on := 7, ground := Ground.data }], guard := none }) rfl (fun K hK => ?_) ?_
          rw [if_pos (by rfl)]
          · go_simp
            refine hK _ _ ?_
            clear hK K
            try simp only [Act.put, List.setIfInBounds_toArray, List.set_cons_zero, List.set_cons_succ]
            refine wpAny_take (i := 9) (oi := { dst := some 32, op := Op.binOp BinOp.rem 3 (Operand.tmp 31) (Operand.const (Value.int IntKind.i64 136)) 3, type := 3, pos := "digest.go:153", after := #[{ on := 8, ground := Ground.data }], guard := none }) (v := ?_) rfl (by kernel_rfl) (by kernel_rfl) (by kernel_rfl) (fun _ _ _ h => h) (Or.inl ⟨by rfl, ?_⟩) ?_
            rotate_left
            · intro w; go_simp <;> with_reducible rfl
            try simp only [Act.put, List.setIfInBounds_toArray, List.set_cons_zero, List.set_cons_succ]
            refine wpAny_ready (rs := [12]) (by kernel_rfl) (by simp) ?_
            refine AllReady.cons (i := 12) (o := { dst := some 35, op := Op.call { callee := Callee.value (Operand.func 29), args := #[Operand.tmp 27, Operand.tmp 32, Operand.tmp 34], argTypes := #[23, 3, 5] }, type := 23, pos := "digest.go:153", after := #[{ on := 4, ground := Ground.data }, { on := 9, ground := Ground.data }, { on := 11, ground := Ground.data }], guard := none }) rfl (fun K hK => ?_) ?_
            rw [if_pos (by rfl)]
            · go_simp
              refine (withByte_L F m b _ (by omega) b2).mono ?_
              rintro e w1 ⟨rfl, hb1⟩
              refine hK _ _ ?_
              clear hK K
              try simp only [Act.put, List.setIfInBounds_toArray, List.set_cons_zero, List.set_cons_succ]
              refine wpAny_take (i := 13) (oi := { dst := some 36, op := Op.nilCheck (Operand.tmp 23), type := 0, pos := "digest.go:153", after := #[{ on := 0, ground := Ground.data }, { on := 0, ground := Ground.phase }, { on := 1, ground := Ground.phase }, { on := 2, ground := Ground.phase }, { on := 3, ground := Ground.phase }, { on := 4, ground := Ground.phase }, { on := 5, ground := Ground.phase }, { on := 6, ground := Ground.phase }, { on := 7, ground := Ground.phase }, { on := 8, ground := Ground.phase }, { on := 9, ground := Ground.phase }, { on := 10, ground := Ground.phase }, { on := 11, ground := Ground.phase }, { on := 12, ground := Ground.phase }], guard := none }) (v := ?_) rfl (by kernel_rfl) (by kernel_rfl) (by kernel_rfl) (fun _ _ _ h => h) (Or.inl ⟨by rfl, ?_⟩) ?_
              rotate_left
              · intro w; go_simp <;> with_reducible rfl
              try simp only [Act.put, List.setIfInBounds_toArray, List.set_cons_zero, List.set_cons_succ]
              refine wpAny_take (i := 14) (oi := { dst := some 37, op := Op.fieldAddr 54 (Operand.tmp 36) 0, type := 0, pos := "digest.go:153", after := #[{ on := 13, ground := Ground.data }, { on := 0, ground := Ground.phase }, { on := 1, ground := Ground.phase }, { on := 2, ground := Ground.phase }, { on := 3, ground := Ground.phase }, { on := 4, ground := Ground.phase }, { on := 5, ground := Ground.phase }, { on := 6, ground := Ground.phase }, { on := 7, ground := Ground.phase }, { on := 8, ground := Ground.phase }, { on := 9, ground := Ground.phase }, { on := 10, ground := Ground.phase }, { on := 11, ground := Ground.phase }, { on := 12, ground := Ground.phase }], guard := none }) (v := ?_) rfl (by kernel_rfl) (by kernel_rfl) (by kernel_rfl) (fun _ _ _ h => h) (Or.inl ⟨by rfl, ?_⟩) ?_
              rotate_left
              · intro w; go_simp <;> with_reducible rfl
              try simp only [Act.put, List.setIfInBounds_toArray, List.set_cons_zero, List.set_cons_succ]
              refine wpAny_ready (rs := [15]) (by kernel_rfl) (by simp) ?_
              refine AllReady.cons (i := 15) (o := { dst := none, op := Op.store 23 (Operand.tmp 37) (Operand.tmp 35), type := 0, pos := "digest.go:153", after := #[{ on := 14, ground := Ground.data }, { on := 12, ground := Ground.data }, { on := 12, ground := Ground.chain }, { on := 0, ground := Ground.phase }, { on := 1, ground := Ground.phase }, { on := 2, ground := Ground.phase }, { on := 3, ground := Ground.phase }, { on := 4, ground := Ground.phase }, { on := 5, ground := Ground.phase }, { on := 6, ground := Ground.phase }, { on := 7, ground := Ground.phase }, { on := 8, ground := Ground.phase }, { on := 9, ground := Ground.phase }, { on := 10, ground := Ground.phase }, { on := 11, ground := Ground.phase }, { on := 12, ground := Ground.phase }], guard := none }) rfl (fun K hK => ?_) ?_
              rw [if_pos (by rfl)]
              · have r1 := HS_below (w := wr.drew) (f := F) (n := m) ⟨r0, hc, r2⟩ hb1 gl
                refine wp_store_mid 23 _ _ rfl g 0 (vecL 25 (put F m b)).toArray rfl rfl ?_ ?_ ?_ ?_
                · rw [List.size_toArray, vecL_len]; exact r1.2.2
                · rw [List.size_toArray, vecL_len]; kernel_rfl
                · rw [vecL_arr]; exact vec_one _ _
                · refine hK _ _ ?_
                  clear hK K
                  try simp only [Act.put]
                  refine wpAny_done (by kernel_rfl) ?_ _
                  have H2 := (HH.out.drew.below (show Below wr.drew.heap.size wr.drew w1 from hb1)).state (put F m b)
                  have B2 : But g wr (w1.setCells g 0 (vecL 25 (put F m b))) := ((But.drew g wr).trans (But.of_below hb1)).trans (But.setCells g _ 0 w1)
                  generalize w1.setCells g 0 (vecL 25 (put F m b)) = w2 at H2 B2 ⊢
                  have c2 := H2.c
                  have o2 := (H2.t 25 (by omega)).2
                  rw [Nat.zero_add] at o2
                  have HH2 := Lib.hid H2
                  have HB2 := Lib.hid B2
                  clear H2 B2
                  go_wp2_with fail
                  exact HT.out.step ht0 HM.out HF.out hbb HH2.out HB2.out
              exact AllReady.nil
            exact AllReady.nil
          exact AllReady.nil
        refine AllReady.cons (i := 8) (o := { dst := some 31, op := Op.load 3 (Operand.tmp 30), type := 3, pos := "digest.go:153", after := #[{ on := 7, ground := Ground.data }], guard := none }) rfl (fun K hK => ?_) ?_
        rw [if_pos (by rfl)]
        · go_simp
          refine hK _ _ ?_
          clear hK K
          try simp only [Act.put, List.setIfInBounds_toArray, List.set_cons_zero, List.set_cons_succ]
          refine wpAny_take (i := 9) (oi := { dst := some 32, op := Op.binOp BinOp.rem 3 (Operand.tmp 31) (Operand.const (Value.int IntKind.i64 136)) 3, type := 3, pos := "digest.go:153", after := #[{ on := 8, ground := Ground.data }], guard := none }) (v := ?_) rfl (by kernel_rfl) (by kernel_rfl) (by kernel_rfl) (fun _ _ _ h => h) (Or.inl ⟨by rfl, ?_⟩) ?_
          rotate_left
          · intro w; go_simp <;> with_reducible rfl
          try simp only [Act.put, List.setIfInBounds_toArray, List.set_cons_zero, List.set_cons_succ]
          refine wpAny_ready (rs := [4]) (by kernel_rfl) (by simp) ?_
          refine AllReady.cons (i := 4) (o := { dst := some 27, op := Op.load 23 (Operand.tmp 26), type := 23, pos := "digest.go:153", after := #[{ on := 3, ground := Ground.data }], guard := none }) rfl (fun K hK => ?_) ?_
          rw [if_pos (by rfl)]
          · refine wp_load_mid 23 _ rfl g 0 rfl (vecL 25 F) _ r0 U rfl I ?_
            refine hK _ _ ?_
            clear hK K
            try simp only [Act.put, List.setIfInBounds_toArray, List.set_cons_zero, List.set_cons_succ]
            refine wpAny_ready (rs := [12]) (by kernel_rfl) (by simp) ?_
            refine AllReady.cons (i := 12) (o := { dst := some 35, op := Op.call { callee := Callee.value (Operand.func 29), args := #[Operand.tmp 27, Operand.tmp 32, Operand.tmp 34], argTypes := #[23, 3, 5] }, type := 23, pos := "digest.go:153", after := #[{ on := 4, ground := Ground.data }, { on := 9, ground := Ground.data }, { on := 11, ground := Ground.data }], guard := none }) rfl (fun K hK => ?_) ?_
            rw [if_pos (by rfl)]
            · go_simp
              refine (withByte_L F m b _ (by omega) b2).mono ?_
              rintro e w1 ⟨rfl, hb1⟩
              refine hK _ _ ?_
              clear hK K
              try simp only [Act.put, List.setIfInBounds_toArray, List.set_cons_zero, List.set_cons_succ]
              refine wpAny_take (i := 13) (oi := { dst := some 36, op := Op.nilCheck (Operand.tmp 23), type := 0, pos := "digest.go:153", after := #[{ on := 0, ground := Ground.data }, { on := 0, ground := Ground.phase }, { on := 1, ground := Ground.phase }, { on := 2, ground := Ground.phase }, { on := 3, ground := Ground.phase }, { on := 4, ground := Ground.phase }, { on := 5, ground := Ground.phase }, { on := 6, ground := Ground.phase }, { on := 7, ground := Ground.phase }, { on := 8, ground := Ground.phase }, { on := 9, ground := Ground.phase }, { on := 10, ground := Ground.phase }, { on := 11, ground := Ground.phase }, { on := 12, ground := Ground.phase }], guard := none }) (v := ?_) rfl (by kernel_rfl) (by kernel_rfl) (by kernel_rfl) (fun _ _ _ h => h) (Or.inl ⟨by rfl, ?_⟩) ?_
              rotate_left
              · intro w; go_simp <;> with_reducible rfl
              try simp only [Act.put, List.setIfInBounds_toArray, List.set_cons_zero, List.set_cons_succ]
              refine wpAny_take (i := 14) (oi := { dst := some 37, op := Op.fieldAddr 54 (Operand.tmp 36) 0, type := 0, pos := "digest.go:153", after := #[{ on := 13, ground := Ground.data }, { on := 0, ground := Ground.phase }, { on := 1, ground := Ground.phase }, { on := 2, ground := Ground.phase }, { on := 3, ground := Ground.phase }, { on := 4, ground := Ground.phase }, { on := 5, ground := Ground.phase }, { on := 6, ground := Ground.phase }, { on := 7, ground := Ground.phase }, { on := 8, ground := Ground.phase }, { on := 9, ground := Ground.phase }, { on := 10, ground := Ground.phase }, { on := 11, ground := Ground.phase }, { on := 12, ground := Ground.phase }], guard := none }) (v := ?_) rfl (by kernel_rfl) (by kernel_rfl) (by kernel_rfl) (fun _ _ _ h => h) (Or.inl ⟨by rfl, ?_⟩) ?_
              rotate_left
              · intro w; go_simp <;> with_reducible rfl
              try simp only [Act.put, List.setIfInBounds_toArray, List.set_cons_zero, List.set_cons_succ]
              refine wpAny_ready (rs := [15]) (by kernel_rfl) (by simp) ?_
              refine AllReady.cons (i := 15) (o := { dst := none, op := Op.store 23 (Operand.tmp 37) (Operand.tmp 35), type := 0, pos := "digest.go:153", after := #[{ on := 14, ground := Ground.data }, { on := 12, ground := Ground.data }, { on := 12, ground := Ground.chain }, { on := 0, ground := Ground.phase }, { on := 1, ground := Ground.phase }, { on := 2, ground := Ground.phase }, { on := 3, ground := Ground.phase }, { on := 4, ground := Ground.phase }, { on := 5, ground := Ground.phase }, { on := 6, ground := Ground.phase }, { on := 7, ground := Ground.phase }, { on := 8, ground := Ground.phase }, { on := 9, ground := Ground.phase }, { on := 10, ground := Ground.phase }, { on := 11, ground := Ground.phase }, { on := 12, ground := Ground.phase }], guard := none }) rfl (fun K hK => ?_) ?_
              rw [if_pos (by rfl)]
              · have r1 := HS_below (w := wr.drew) (f := F) (n := m) ⟨r0, hc, r2⟩ hb1 gl
                refine wp_store_mid 23 _ _ rfl g 0 (vecL 25 (put F m b)).toArray rfl rfl ?_ ?_ ?_ ?_
                · rw [List.size_toArray, vecL_len]; exact r1.2.2
                · rw [List.size_toArray, vecL_len]; kernel_rfl
                · rw [vecL_arr]; exact vec_one _ _
                · refine hK _ _ ?_
                  clear hK K
                  try simp only [Act.put]
                  refine wpAny_done (by kernel_rfl) ?_ _
                  have H2 := (HH.out.drew.below (show Below wr.drew.heap.size wr.drew w1 from hb1)).state (put F m b)
                  have B2 : But g wr (w1.setCells g 0 (vecL 25 (put F m b))) := ((But.drew g wr).trans (But.of_below hb1)).trans (But.setCells g _ 0 w1)
                  generalize w1.setCells g 0 (vecL 25 (put F m b)) = w2 at H2 B2 ⊢
                  have c2 := H2.c
                  have o2 := (H2.t 25 (by omega)).2
                  rw [Nat.zero_add] at o2
                  have HH2 := Lib.hid H2
                  have HB2 := Lib.hid B2
                  clear H2 B2
                  go_wp2_with fail
                  exact HT.out.step ht0 HM.out HF.out hbb HH2.out HB2.out
              exact AllReady.nil
            exact AllReady.nil
          exact AllReady.nil
        exact AllReady.nil
end Go.Proofs.YtfjbchmneojgaaaDoor
