/- The reference's Parse. -/
import Derived.Test.YtnjnjcgbdhiigaaGreatDoorRA
namespace Go.Proofs.YtnjnjcgbdhiigaaGreatDoor
open Go.RowKit Go.Shelf

theorem ex_mid (s : ByteArray) (a b : Nat) : (s.extract a b).data.toList = (s.data.toList.drop a).take (b - a) := by
  simp only [ByteArray.data_extract, Array.toList_extract, List.extract_eq_take_drop]
/-- What is known at the loop's head. -/
structure RI (l : List UInt8) (f i : Nat) (ns : List Nat) : Prop where
  rng : ∀ n ∈ ns, 1 ≤ n ∧ n ≤ 999
  st : (f ≤ i ∧ i ≤ l.length ∧ sp l = ns.map dec ++ sp (l.drop f) ∧ (46 : UInt8) ∉ (l.drop f).take (i - f)) ∨ (f = l.length + 1 ∧ i = l.length + 1 ∧ sp l = ns.map dec)
theorem RI.len {l : List UInt8} {f i : Nat} {ns : List Nat} (h : RI l f i ns) : ns.length ≤ l.length + 1 := by
  have := sp_length l
  rcases h.st with ⟨_, _, e, _⟩ | ⟨_, _, e⟩
  · rw [e, List.length_append, List.length_map] at this; omega
  · rw [e, List.length_map] at this; omega
theorem RI.start (l : List UInt8) : RI l 0 0 [] := ⟨(fun n h => by cases h), Or.inl ⟨Nat.le_refl _, Nat.zero_le _, rfl, by simp⟩⟩
theorem RI.go {l : List UInt8} {f i : Nat} {ns : List Nat} (h : RI l f i ns) {c : UInt8} (hc : l[i]? = some c) (n46 : c ≠ 46) : RI l f (i + 1) ns := by
  have hi := (List.getElem?_eq_some_iff.1 hc).1
  rcases h.st with ⟨h1, h2, h3, h4⟩ | ⟨_, h2, _⟩
  · refine ⟨h.rng, Or.inl ⟨by omega, by omega, h3, ?_⟩⟩
    rw [show i + 1 - f = (i - f) + 1 by omega, List.take_add_one, List.getElem?_drop, show f + (i - f) = i by omega, hc]
    intro hm
    rcases List.mem_append.1 hm with a | a
    · exact h4 a
    · simp at a; exact n46 a.symm
  · omega
/-- The part that ends here. -/
theorem RI.part {l : List UInt8} {f i : Nat} {ns : List Nat} (h : RI l f i ns) (hi : (i < l.length ∧ l[i]? = some 46) ∨ i = l.length) :
    sp l = ns.map dec ++ ((l.drop f).take (i - f) :: if i < l.length then sp (l.drop (i + 1)) else []) ∧ f ≤ i := by
  rcases h.st with ⟨h1, h2, h3, h4⟩ | ⟨_, h2, _⟩
  · refine ⟨?_, h1⟩
    rcases hi with ⟨hi, hc⟩ | hi
    · rw [if_pos hi, h3, sp_at (l.drop f) (i - f) (by rw [List.getElem?_drop, show f + (i - f) = i by omega]; exact hc) h4, List.drop_drop, show f + (i - f + 1) = i + 1 by omega]
    · rw [if_neg (by omega), h3]
      have e : (l.drop f).take (i - f) = l.drop f := List.take_of_length_le (by rw [List.length_drop]; omega)
      rw [e] at h4 ⊢
      rw [sp_none _ h4]
  · rcases hi with ⟨hi, _⟩ | hi <;> omega
theorem RI.bad {l : List UInt8} {f i : Nat} {ns : List Nat} (h : RI l f i ns) (hi : (i < l.length ∧ l[i]? = some 46) ∨ i = l.length) (no : ∀ n, 1 ≤ n → n ≤ 999 → dec n ≠ (l.drop f).take (i - f)) : ∀ ms, ¬ PR l ms := fun ms p => by
  obtain ⟨e, _⟩ := h.part hi
  have hm : (l.drop f).take (i - f) ∈ ms.map dec := by rw [p.txt, e]; exact List.mem_append_right _ List.mem_cons_self
  obtain ⟨n, hn, hd⟩ := List.mem_map.1 hm
  exact no n (p.rng n hn).1 (p.rng n hn).2 hd
theorem RI.hit {l : List UInt8} {f i : Nat} {ns : List Nat} (h : RI l f i ns) (hi : (i < l.length ∧ l[i]? = some 46) ∨ i = l.length) {n : Nat} (h1 : 1 ≤ n) (h2 : n ≤ 999) (hd : dec n = (l.drop f).take (i - f)) : RI l (i + 1) (i + 1) (ns ++ [n]) := by
  obtain ⟨e, _⟩ := h.part hi
  refine ⟨fun m hm => ?_, ?_⟩
  · rcases List.mem_append.1 hm with a | a
    · exact h.rng m a
    · obtain rfl : m = n := by simpa using a
      exact ⟨h1, h2⟩
  · have e2 : ns.map dec ++ [dec n] = (ns ++ [n]).map dec := by simp
    rcases hi with ⟨hi, _⟩ | hi
    · rw [if_pos hi] at e
      exact Or.inl ⟨Nat.le_refl _, by omega, by rw [e, ← hd, ← e2]; simp, by simp⟩
    · rw [if_neg (by omega)] at e
      exact Or.inr ⟨by omega, by omega, by rw [e, ← hd, ← e2]⟩
theorem own_empty (w : World) : (w.alloc (.cells #[] 3)).ownsRow w.heap.size 3 1 (.slice (some ⟨w.heap.size, 0, none⟩) 0 0) ([] : List Nat).length (([] : List Nat).map encN) :=
  ⟨rfl, Or.inr ⟨w.heap.size, 0, #[], rfl, Nat.le_refl _, World.alloc_heap_new w _, Nat.le_refl _, by unfold maxLen; omega, rfl, rfl⟩⟩
/-- What the reference's Parse returns. -/
def RParR (l : List UInt8) (w : World) (e : Ending) (w' : World) : Prop :=
  ((∃ v, ∃ ns : List Nat, PR l ns ∧ e = .returned (.tuple #[v, .int .i64 0]) ∧ w'.ownsRow w.heap.size 3 1 v ns.length (ns.map encN)) ∨ ((∀ ns, ¬ PR l ns) ∧ e = .returned (.tuple #[.slice none 0 0, .int .i64 3]))) ∧ Below w.heap.size w w'
set_option maxRecDepth 100000 in
set_option maxHeartbeats 4000000 in
theorem rParse_any (s : Txt) (w : World) : Calls Tryz.prog 9 #[.string s.1] w (RParR (bts s) w) := by
  obtain ⟨s, hs⟩ := s
  show Calls Tryz.prog 9 #[.string s] w (RParR s.data.toList w)
  obtain ⟨i0, i1, hz0, hz1, hz2⟩ := info_parts (P := Tryz.prog) (e := 3) (z := .int .i64 0) (size := 1) (bytes := 8) (by kernel_rfl)
  have US : Tryz.prog.underlying 22 = some (.slice 3) := by kernel_rfl
  go_enter Tryz.func9, Tryz.ntmps9
  go_wp2_with fail
  go_loopw [4, 5, 6] (fun sv sf si wr => ∃ (f i : Nat) (ns : List Nat), sf = .int .i64 f ∧ si = .int .i64 i ∧ f ≤ s.size + 1 ∧ i ≤ s.size + 1 ∧ Hid (RI s.data.toList f i ns ∧ wr.ownsRow w.heap.size 3 1 sv ns.length (ns.map encN) ∧ Below w.heap.size w wr)) (fun _ _ si _ => s.size + 1 - (intOf si).toNat)
  case atStart =>
    refine ⟨0, 0, [], rfl, rfl, by omega, by omega, RI.start _, ?_, ?_⟩
    · exact own_empty w
    · exact (Below.refl _ w).alloc (Nat.le_refl _) _
  case round =>
    obtain ⟨f, i, ns, rfl, rfl, hf, hi, hrel⟩ := hrel
    by_cases hle : i ≤ s.size
    · by_cases hlt : i < s.size
      · have dE : ((i : Int) == (s.size : Int)) = false := by simp; omega
        have HX := Lib.hid (get_sz hlt)
        by_cases x46 : ((s[i].toNat : Int) == 46) = true
        · have hcase : (i < s.data.toList.length ∧ s.data.toList[i]? = some 46) ∨ i = s.data.toList.length := Or.inl ⟨by rw [len_sz]; exact hlt, by
            rw [HX.out, show s[i] = 46 from UInt8.toNat_inj.1 (by have := beq_iff_eq.1 x46; show s[i].toNat = 46; omega)]⟩
          have HI := Lib.hid hcase
          have part := hrel.out.1.part hcase
          have fi : f ≤ i := part.2
          have RP := rpart_any (s.extract f i) wr
          rw [ex_mid] at RP
          have RPh := Lib.hid RP
          have RIh := Lib.hid hrel.out.1
          have OWh := Lib.hid hrel.out.2.1
          have BLh := Lib.hid hrel.out.2.2
          have LEN := Lib.hid (show ns.length ≤ 1001 by have := hrel.out.1.len; rw [len_sz] at this; omega)
          clear RP part hrel hcase HX
          go_wp2_with fail
          refine RPh.out.mono ?_; rintro e w1 ⟨⟨n, n1, n2, n3, rfl⟩ | ⟨no, rfl⟩, rfl⟩
          · have NX := Lib.hid (RIh.out.hit HI.out n1 n2 n3)
            have OA := Lib.hid (OWh.out.alloc (.cells #[.int .i64 (n : Nat)] 3))
            have BA := Lib.hid (BLh.out.alloc BLh.out.size (.cells #[.int .i64 (n : Nat)] 3))
            have SZ := Lib.hid (show w.heap.size ≤ (wr.alloc (.cells #[.int .i64 (n : Nat)] 3)).heap.size by have := BLh.out.size; simp; omega)
            clear n1 n2 n3 RPh
            go_wp2_with (at_builtin; refine wpList_append_own _ rfl _ _ 22 rfl w.heap.size 3 i0 (.int .i64 0) 1 8 US i1 hz0 hz1 hz2 rfl (by decide) _ _ _ rfl OA.out ⟨wr.heap.size, 0, none⟩ 1 1 [.int .i64 (n : Nat)] rfl rfl (cell_one_new _ _ _) (by simp [Value.oneCell']) (by have := LEN.out; unfold maxLen; omega) (by have := LEN.out; omega) SZ.out ?_)
            intro v5 w5 own5 g5 _
            have B5 := Lib.hid (BA.out.grown g5 BA.out.size (fun k hk => own_from OWh.out k hk))
            have O5 := Lib.hid (show w5.ownsRow w.heap.size 3 1 v5 (ns ++ [n]).length ((ns ++ [n]).map encN) by rw [List.length_append, List.map_append]; exact own5)
            clear own5 g5
            go_wp2_with fail
            go_roundw
            case rel => exact ⟨i + 1, i + 1, ns ++ [n], by go_num, by go_num, by omega, by omega, NX.out, O5.out, B5.out⟩
            case measure => simp [intOf]; omega
          · have N := Lib.hid (RIh.out.bad HI.out no)
            clear no RPh
            go_wp2_with fail
            go_ret2
            exact ⟨Or.inr ⟨N.out, rfl⟩, BLh.out⟩
        · have x46 : ((s[i].toNat : Int) == 46) = false := by simpa using x46
          have NX := Lib.hid (hrel.out.1.go HX.out (fun e => by rw [e] at x46; exact absurd x46 (by decide)))
          have OWh := Lib.hid hrel.out.2.1
          have BLh := Lib.hid hrel.out.2.2
          clear hrel HX
          go_wp2_with fail
          go_roundw
          case rel => exact ⟨f, i + 1, ns, rfl, by go_num, by omega, by omega, NX.out, OWh.out, BLh.out⟩
          case measure => simp [intOf]; omega
      · have ie : i = s.size := by omega
        have dE : ((i : Int) == (s.size : Int)) = true := by simp; omega
        have hcase : (i < s.data.toList.length ∧ s.data.toList[i]? = some 46) ∨ i = s.data.toList.length := Or.inr (by rw [len_sz]; exact ie)
        have isz : i ≤ s.size := by omega
        clear ie hlt
        have HI := Lib.hid hcase
        have part := hrel.out.1.part hcase
        have fi : f ≤ i := part.2
        have RP := rpart_any (s.extract f i) wr
        rw [ex_mid] at RP
        have RPh := Lib.hid RP
        have RIh := Lib.hid hrel.out.1
        have OWh := Lib.hid hrel.out.2.1
        have BLh := Lib.hid hrel.out.2.2
        have LEN := Lib.hid (show ns.length ≤ 1001 by have := hrel.out.1.len; rw [len_sz] at this; omega)
        clear RP part hrel hcase
        go_wp2_with fail
        refine RPh.out.mono ?_; rintro e w1 ⟨⟨n, n1, n2, n3, rfl⟩ | ⟨no, rfl⟩, rfl⟩
        · have NX := Lib.hid (RIh.out.hit HI.out n1 n2 n3)
          have OA := Lib.hid (OWh.out.alloc (.cells #[.int .i64 (n : Nat)] 3))
          have BA := Lib.hid (BLh.out.alloc BLh.out.size (.cells #[.int .i64 (n : Nat)] 3))
          have SZ := Lib.hid (show w.heap.size ≤ (wr.alloc (.cells #[.int .i64 (n : Nat)] 3)).heap.size by have := BLh.out.size; simp; omega)
          clear n1 n2 n3 RPh
          go_wp2_with (at_builtin; refine wpList_append_own _ rfl _ _ 22 rfl w.heap.size 3 i0 (.int .i64 0) 1 8 US i1 hz0 hz1 hz2 rfl (by decide) _ _ _ rfl OA.out ⟨wr.heap.size, 0, none⟩ 1 1 [.int .i64 (n : Nat)] rfl rfl (cell_one_new _ _ _) (by simp [Value.oneCell']) (by have := LEN.out; unfold maxLen; omega) (by have := LEN.out; omega) SZ.out ?_)
          intro v5 w5 own5 g5 _
          have B5 := Lib.hid (BA.out.grown g5 BA.out.size (fun k hk => own_from OWh.out k hk))
          have O5 := Lib.hid (show w5.ownsRow w.heap.size 3 1 v5 (ns ++ [n]).length ((ns ++ [n]).map encN) by rw [List.length_append, List.map_append]; exact own5)
          clear own5 g5
          go_wp2_with fail
          go_roundw
          case rel => exact ⟨i + 1, i + 1, ns ++ [n], by go_num, by go_num, by omega, by omega, NX.out, O5.out, B5.out⟩
          case measure => simp [intOf]; omega
        · have N := Lib.hid (RIh.out.bad HI.out no)
          clear no RPh
          go_wp2_with fail
          go_ret2
          exact ⟨Or.inr ⟨N.out, rfl⟩, BLh.out⟩
    · have OWh := Lib.hid hrel.out.2.1
      have BLh := Lib.hid hrel.out.2.2
      have fin : sp s.data.toList = ns.map dec := by
        rcases hrel.out.1.st with ⟨_, h2, _, _⟩ | ⟨_, _, e⟩
        · rw [len_sz] at h2; omega
        · exact e
      have RN := Lib.hid hrel.out.1.rng
      obtain ⟨q, c, rfl⟩ : ∃ q c, u4 = .slice q ns.length c := by
        rcases OWh.out.2 with ⟨rfl, h⟩ | ⟨g, cap, cur, rfl, _⟩
        · exact ⟨none, 0, by rw [h]⟩
        · exact ⟨_, _, rfl⟩
      by_cases h6 : 6 < ns.length
      · have N := Lib.hid (show ∀ ms, ¬ PR s.data.toList ms from fun ms p => by
          have := congrArg List.length (p.txt.trans fin)
          rw [List.length_map, List.length_map] at this
          have := p.len
          omega)
        have D : decide (6 < (ns.length : Int)) = true := by simpa using (by omega : (6 : Int) < (ns.length : Int))
        clear h6 fin hrel
        generalize ns.length = m at *
        go_wp2_with fail
        go_ret2
        exact ⟨Or.inr ⟨N.out, rfl⟩, BLh.out⟩
      · have P := Lib.hid (show PR s.data.toList ns from ⟨RN.out, by omega, fin.symm⟩)
        have D : decide (6 < (ns.length : Int)) = false := by simpa using (by omega : (ns.length : Int) ≤ 6)
        clear h6 fin hrel
        go_wp2_with fail
        go_ret2
        exact ⟨Or.inl ⟨_, ns, P.out, rfl, OWh.out⟩, BLh.out⟩
end Go.Proofs.YtnjnjcgbdhiigaaGreatDoor
