/- strings.SplitSeq at a dot. -/
import Derived.Test.YtfgpmghaebdhpaaGreatDoorCC
namespace Go.Proofs.YtfgpmghaebdhpaaGreatDoor
open Go.RowKit Go.Shelf
attribute [local go_sem] Oper.semAt_some

/-- The parts of a text between its dots. -/
def sp : List UInt8 → List (List UInt8)
  | [] => [[]]
  | c :: r => if c = 46 then [] :: sp r else match sp r with
    | [] => [[c]]
    | p :: ps => (c :: p) :: ps
theorem sp_ne : ∀ l, sp l ≠ []
  | [] => by simp [sp]
  | c :: r => by
    unfold sp
    split
    · simp
    · split <;> simp
theorem sp_none : ∀ l : List UInt8, (46 : UInt8) ∉ l → sp l = [l]
  | [], _ => rfl
  | c :: r, h => by
    have h1 : c ≠ 46 := fun e => h (by rw [e]; exact List.mem_cons_self ..)
    have ih := sp_none r (fun e => h (List.mem_cons_of_mem _ e))
    unfold sp
    rw [if_neg h1, ih]
theorem sp_at : ∀ (l : List UInt8) (i : Nat), l[i]? = some 46 → (46 : UInt8) ∉ l.take i → sp l = l.take i :: sp (l.drop (i + 1))
  | [], i, h, _ => by simp at h
  | c :: r, 0, h, _ => by
    simp at h
    conv => lhs; unfold sp
    rw [if_pos h]; simp
  | c :: r, i + 1, h, g => by
    have h1 : c ≠ 46 := fun e => g (by rw [List.take_succ_cons, e]; exact List.mem_cons_self ..)
    have ih := sp_at r i (by simpa using h) (fun e => g (by rw [List.take_succ_cons]; exact List.mem_cons_of_mem _ e))
    conv => lhs; unfold sp
    rw [if_neg h1, ih]; simp
theorem sp_length (l : List UInt8) : (sp l).length ≤ l.length + 1 := by
  induction l with
  | nil => simp [sp]
  | cons c r ih =>
    unfold sp
    split
    · simp; omega
    · split
      · simp
      · rename_i h; rw [h] at ih; simp at ih ⊢; omega

/-- A text of at most 1000 bytes. -/
abbrev Txt := { s : ByteArray // s.size ≤ 1000 }
def encT (x : Txt) : Value := .string x.1
def bts (x : Txt) : List UInt8 := x.1.data.toList
/-- The iterator's boxes stay. -/
def KpB (b : Nat) (W W' : World) : Prop := ∀ k, k = b ∨ k = b + 1 ∨ k = b + 2 → W'.heap[k]? = W.heap[k]?
/-- The iterator's boxes: the rest, the dot, nothing. -/
structure Bx (b : Nat) (r : ByteArray) (W : World) : Prop where
  s : W.cell? ⟨b, 0, none⟩ = some (.string r)
  f : W.frozen? ⟨b, 0, none⟩ = false
  d : W.cell? ⟨b + 1, 0, none⟩ = some (.string ⟨#[46]⟩)
  z : W.cell? ⟨b + 2, 0, none⟩ = some (.int .i64 0)
  n : b + 2 < W.heap.size
theorem Bx.keeps {b : Nat} {r : ByteArray} {W W' : World} (h : Bx b r W) (k : KpB b W W') : Bx b r W' where
  s := (World.cell?_of_block (a := ⟨b, 0, none⟩) (k b (Or.inl rfl))).trans h.s
  f := by
    have := k b (Or.inl rfl)
    have f := h.f
    unfold World.frozen? at f ⊢
    simpa [this] using f
  d := (World.cell?_of_block (a := ⟨b + 1, 0, none⟩) (k (b + 1) (Or.inr (Or.inl rfl)))).trans h.d
  z := (World.cell?_of_block (a := ⟨b + 2, 0, none⟩) (k (b + 2) (Or.inr (Or.inr rfl)))).trans h.z
  n := by
    have e := k (b + 2) (Or.inr (Or.inr rfl))
    have : W.heap[b + 2]? = some (W.heap[b + 2]'h.n) := Array.getElem?_eq_getElem h.n
    rw [this] at e
    exact (Array.getElem?_eq_some_iff.1 e).1
theorem Bx.set {b : Nat} {r r' : ByteArray} {W : World} (h : Bx b r W) : Bx b r' (W.setCell ⟨b, 0, none⟩ (.string r')) where
  s := World.cell?_setCell_same' _ _ _ (by rw [h.s]; rfl)
  f := by rw [World.frozen?_setCell]; exact h.f
  d := by rw [World.cell?_setCell_other _ _ _ _ (by simp)]; exact h.d
  z := by rw [World.cell?_setCell_other _ _ _ _ (by simp)]; exact h.z
  n := by simpa using h.n
def lenBox (b : Nat) (W : World) : Nat := match W.cell? ⟨b, 0, none⟩ with
  | some (.string s) => s.size
  | _ => 0
theorem Bx.len {b : Nat} {r : ByteArray} {W : World} (h : Bx b r W) : lenBox b W = r.size := by unfold lenBox; rw [h.s]

theorem gb_set {w : World} {g o : Nat} {x : Value} : w.grownBy (w.setCell ⟨g, o, none⟩ x) (some g) :=
  ⟨rfl, rfl, rfl, by simp [World.setCell], fun k _ hr => by
    have : g ≠ k := fun h => hr (by rw [h])
    simp [World.setCell, Array.getElem?_modify, this]⟩
theorem ex_take (s : ByteArray) (k : Nat) : (s.extract 0 k).data.toList = s.data.toList.take k := by simp [ByteArray.data_extract]
theorem ex_drop (s : ByteArray) (k : Nat) : (s.extract k s.size).data.toList = s.data.toList.drop k := by
  simp only [ByteArray.data_extract, Array.toList_extract, List.extract_eq_take_drop]
  rw [List.take_of_length_le (by simp)]

set_option maxRecDepth 100000 in
set_option maxHeartbeats 1000000 in
theorem split_in (F : Fence) (n : Nat) (hF : F.fn 82) (hI : F.fn 80) (hro : F.round = none) (hn : 2 ≤ n) (l b : Nat) (s0 : Txt) (J Jx : List Txt → World → Prop)
    (hY : ∀ pre x W, J pre W → pre.length < (bts s0).length + 1 → YieldAt F (n - 1) Tryz.prog l #[encT x] W fun e W' =>
      (e = .returned (.bool true) ∧ J (pre ++ [x]) W' ∧ KpB b W W') ∨ (e = .returned (.bool false) ∧ Jx (pre ++ [x]) W'))
    (W : World) (hJ : BoxOk b J) (hb : Bx b s0.1 W) (h0 : J [] W) (hIx : ∀ s V, CallsIn F (n - 1) Tryz.prog 80 #[.string s, .string ⟨#[46]⟩] V fun e V' => e = .returned (.int .i64 (Lib.indexByte s.data.toList 46)) ∧ V' = V) :
    CallsIn F n Tryz.prog 82 #[.func (.yield l) #[] #[], .pointer (some ⟨b + 1, 0, none⟩), .pointer (some ⟨b, 0, none⟩), .pointer (some ⟨b + 2, 0, none⟩)] W fun e W' => (∃ v, e = .returned v) ∧
      ((∃ xs : List Txt, xs.map bts = sp (bts s0) ∧ J xs W') ∨ (∃ pre : List Txt, pre.map bts <+: sp (bts s0) ∧ Jx pre W')) := by
  refine callsIn_of_wp Tryz.func82 rfl hF ?_ hro
  simp only [Tryz.ntmps82, List.size_toArray, List.length_cons, List.length_nil, Nat.reduceAdd, Nat.reduceSub, Array.replicate_succ, Array.replicate_zero, List.push_toArray, List.append_toArray, List.nil_append, List.cons_append]
  have h1 : 1 ≤ n := by omega
  have h2 : 1 ≤ n - 1 := by omega
  have hs := hb.s
  have hd := hb.d
  gi_wp2
  gi_loopw [7] (fun _ wr => ∃ (pre : List Txt) (rest : ByteArray), Bx b rest wr ∧ rest.size ≤ 1000 ∧ sp (bts s0) = pre.map bts ++ sp rest.data.toList ∧ J pre wr) (fun _ wr => lenBox b wr)
  case atStart => exact ⟨[], s0.1, hb, s0.2, rfl, h0⟩
  case round =>
    obtain ⟨pre, rest, hbx, hsz, hsp, hj⟩ := hrel
    have hs := hbx.s
    have hd := hbx.d
    have hz := hbx.z
    have hf := hbx.f
    have hI1 := hIx rest wr
    have hlen : pre.length < (bts s0).length + 1 := by
      have h1 := congrArg List.length hsp
      have h2 := sp_length (bts s0)
      have h3 : 0 < (sp rest.data.toList).length := List.length_pos_iff.2 (sp_ne _)
      rw [List.length_append, List.length_map] at h1
      omega
    obtain ⟨o, ho⟩ : ∃ o, o = Lib.indexByte rest.data.toList 46 := ⟨_, rfl⟩
    rw [← ho] at hI1
    by_cases hi : o < 0
    · obtain ⟨fn, tmps, assign, body, hy, hR⟩ := hY pre ⟨rest, hsz⟩ wr hj hlen
      dsimp only [encT] at hy
      gi_wp2_with (gi_at_call 80; refine hI1.mono ?_; rintro e w' ⟨rfl, rfl⟩)
      have eqs : (pre ++ [(⟨rest, hsz⟩ : Txt)]).map bts = sp (bts s0) := by
        rw [hsp, List.map_append, sp_none]
        · rfl
        · intro hm
          obtain ⟨k, hk⟩ := List.mem_iff_getElem?.1 hm
          have hg := Lib.indexByte_ge rest.data.toList 46
          exact Lib.indexByte_none (l := rest.data.toList) (c := 46) (by omega) k hk
      have EQ := Lib.hid eqs
      clear eqs
      refine hR.mono ?_
      rintro e W3 (⟨rfl, hJ3, _⟩ | ⟨rfl, hJx3⟩)
      · gi_wp2
        go_end0
        exact ⟨⟨_, rfl⟩, .inl ⟨_, EQ.out, hJ3⟩⟩
      · gi_wp2
        go_end0
        exact ⟨⟨_, rfl⟩, .inr ⟨_, by rw [EQ.out]; exact List.prefix_refl _, hJx3⟩⟩
    · obtain ⟨k, rfl⟩ : ∃ k : Nat, o = k := ⟨o.toNat, by omega⟩
      obtain ⟨a1, a2⟩ := Lib.indexByte_some ho.symm
      clear ho
      have nk : (46 : UInt8) ∉ rest.data.toList.take k := fun hm => by
        obtain ⟨i, hi⟩ := List.mem_iff_getElem?.1 hm
        have hik : i < k := by
          have := (List.getElem?_eq_some_iff.1 hi).1
          rw [List.length_take] at this; omega
        rw [List.getElem?_take_of_lt hik] at hi
        exact a2 i hik hi
      have kl : k < rest.size := by
        have := (List.getElem?_eq_some_iff.1 a1).1
        simpa using this
      have hx : (rest.extract 0 k).size ≤ 1000 := by rw [ByteArray.size_extract]; omega
      obtain ⟨fn, tmps, assign, body, hy, hR⟩ := hY pre ⟨rest.extract 0 k, hx⟩ wr hj hlen
      dsimp only [encT] at hy
      have w1 : IntKind.i64.wrap ((k : Int) + 0) = (k : Int) := by rw [Int.add_zero]; exact IntWalk.i64_in _ ⟨by omega, by omega⟩
      have w2 : IntKind.i64.wrap (k : Int) = (k : Int) := IntWalk.i64_in _ ⟨by omega, by omega⟩
      have kz : (0 : Int) ≤ (k : Int) := by omega
      have kl2 : (k : Int) ≤ (rest.size : Int) := by omega
      gi_wp2_with (gi_at_call 80; refine hI1.mono ?_; rintro e w' ⟨rfl, rfl⟩)
      refine hR.mono ?_
      rintro e W3 (⟨rfl, hJ3, kp⟩ | ⟨rfl, hJx3⟩)
      · have hb3 := hbx.keeps kp
        have hs := hb3.s
        have hd := hb3.d
        have hf := hb3.f
        have w3 : IntKind.i64.wrap ((k : Int) + 1) = (k : Int) + 1 := IntWalk.i64_in _ ⟨by omega, by omega⟩
        have k3 : (0 : Int) ≤ (k : Int) + 1 := by omega
        have k4 : (k : Int) + 1 ≤ (rest.size : Int) := by omega
        gi_wp2
        have eq3 : sp (bts s0) = (pre ++ [(⟨rest.extract 0 k, hx⟩ : Txt)]).map bts ++ sp (rest.extract (k + 1) rest.size).data.toList := by
          rw [hsp, sp_at _ k a1 nk, List.map_append, List.append_assoc]
          congr 1
          show _ :: _ = (rest.extract 0 k).data.toList :: sp _
          rw [ex_take, ex_drop]
        refine ⟨⟨_, _, hb3.set, by rw [ByteArray.size_extract]; omega, eq3, hJ _ _ _ hJ3 gb_set⟩, ?_⟩
        rw [(hb3.set (r' := rest.extract (k + 1) rest.size)).len, hbx.len, ByteArray.size_extract]
        omega
      · gi_wp2
        refine bodyPost_ret (results_none rfl _ _ _) rfl ?_
        refine ⟨⟨_, rfl⟩, .inr ⟨_, ?_, hJx3⟩⟩
        rw [hsp, sp_at _ k a1 nk, List.map_append]
        refine ⟨sp (rest.data.toList.drop (k + 1)), ?_⟩
        show _ ++ [(rest.extract 0 k).data.toList] ++ _ = _
        rw [ex_take, List.append_assoc]; rfl
end Go.Proofs.YtfgpmghaebdhpaaGreatDoor
