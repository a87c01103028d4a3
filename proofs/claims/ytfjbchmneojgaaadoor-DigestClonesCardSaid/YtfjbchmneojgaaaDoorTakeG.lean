/- The contract of take for any string. -/
import Derived.Test.YtfjbchmneojgaaaDoorWrd
namespace Go.Proofs.YtfjbchmneojgaaaDoor
open Go.RowKit

/-- What is left of a text, and how far the hash is. -/
structure Tg (f : Nat → BitVec 64) (n g : Nat) (s : ByteArray) (w0 : World) (k : Nat) (t : ByteArray) (w : World) : Prop where
  le : k ≤ s.size
  rest : t.data.toList = s.data.toList.drop k
  h : HR w g (ab f n (s.data.toList.take k)) (n + k)
  b : But g w0 w
theorem Tg.size {f : Nat → BitVec 64} {n g k : Nat} {s t : ByteArray} {w0 w : World} (T : Tg f n g s w0 k t w) : t.size = s.size - k := by
  have := congrArg List.length T.rest
  simpa using this
theorem ext_rest (t : ByteArray) (k : Nat) : (t.extract k t.size).data.toList = t.data.toList.drop k := by
  rw [ByteArray.data_extract, Array.toList_extract, List.extract_eq_take_drop]
  rw [List.take_of_length_le (by rw [List.length_drop, Array.length_toList]; exact Nat.le_refl _)]
theorem ext_take (t : ByteArray) (k : Nat) : (t.extract 0 k).data.toList = t.data.toList.take k := by
  rw [ByteArray.data_extract, Array.toList_extract, List.extract_eq_take_drop, List.drop_zero, Nat.sub_zero]
/-- A byte is taken in. -/
theorem Tg.step {f G : Nat → BitVec 64} {n g k m b : Nat} {s t : ByteArray} {w0 wr w2 : World} (T : Tg f n g s w0 k t wr) (h0 : 0 < t.size) (hm : m = n + k)
    (hb : PlainAid.bt t 0 = (b : Int)) (hG : abB (ab f n (s.data.toList.take k)) m b = G) (H2 : HR w2 g G (m + 1)) (B2 : But g wr w2) :
    (∃ (k' : Nat) (t' : ByteArray), Value.string (t.extract 1 t.size) = .string t' ∧ Tg f n g s w0 k' t' w2) ∧ strLen (.string (t.extract 1 t.size)) < strLen (.string t) := by
  have ls : s.data.toList.length = s.size := by rw [Array.length_toList]; rfl
  have ld := T.size
  have g0 := PlainAid.get_bt t 0 h0
  have e0 : t.data.toList[0]? = some t[0] := (byt_get t 0 h0).2.1
  have ek : s.data.toList[k]? = some t[0] := by
    rw [T.rest, List.getElem?_drop, Nat.add_zero] at e0; exact e0
  refine ⟨⟨k + 1, _, rfl, by have := T.le; omega, ?_, ?_, T.b.trans B2⟩, ?_⟩
  · rw [ext_rest, T.rest, List.drop_drop]
  · have e : s.data.toList.take (k + 1) = s.data.toList.take k ++ [t[0]] := by
      rw [List.take_add_one, ek]; rfl
    have l : (s.data.toList.take k).length = k := by rw [List.length_take, ls]; have := T.le; omega
    have hbn : (t[0]).toNat = b := by rw [hb] at g0; exact_mod_cast g0
    rw [e, ab_snoc, l, ← hm, hbn, hG, show n + (k + 1) = m + 1 from by omega]
    exact H2
  · show (t.extract 1 t.size).size < t.size
    rw [ByteArray.size_extract]; omega
/-- A block is taken in. -/
theorem Tg.block {f : Nat → BitVec 64} {n g k m : Nat} {s t : ByteArray} {w0 wr w2 : World} (T : Tg f n g s w0 k t wr) (h0 : 136 ≤ t.size) (hm : m = n + k) (h136 : m % 136 = 0)
    (H2 : HR w2 g (perm (mix (ab f n (s.data.toList.take k)) (byt (t.extract 0 136)) 17) 24) (m + 136)) (B2 : But g wr w2) :
    (∃ (k' : Nat) (t' : ByteArray), Value.string (t.extract 136 t.size) = .string t' ∧ Tg f n g s w0 k' t' w2) ∧ strLen (.string (t.extract 136 t.size)) < strLen (.string t) := by
  have ls : s.data.toList.length = s.size := by rw [Array.length_toList]; rfl
  have ld := T.size
  refine ⟨⟨k + 136, _, rfl, by have := T.le; omega, ?_, ?_, T.b.trans B2⟩, ?_⟩
  · rw [ext_rest, T.rest, List.drop_drop]
  · have e : s.data.toList.take (k + 136) = s.data.toList.take k ++ t.data.toList.take 136 := by
      rw [T.rest, List.take_add]
    have l : (s.data.toList.take k).length = k := by rw [List.length_take, ls]; have := T.le; omega
    have hz : (t.extract 0 136).size = 136 := by rw [ByteArray.size_extract]; omega
    have lt : (t.data.toList.take 136).length = 136 := by rw [List.length_take, Array.length_toList, show t.data.size = t.size from rfl]; omega
    rw [mix_all _ _ (byt_lt _), ← puts_pf _ 0 _ 136 (by omega), ext_take, List.take_take, Nat.min_self, ← ab_block _ _ m h136 lt] at H2
    rw [e, ab_app, l, ← hm, show n + (k + 136) = m + 136 from by omega]
    exact H2
  · show (t.extract 136 t.size).size < t.size
    rw [ByteArray.size_extract]; omega

set_option maxRecDepth 100000 in
set_option maxHeartbeats 4000000 in
theorem take_any (f : Nat → BitVec 64) (n g : Nat) (s : ByteArray) (V w : World) (hT : Tabs V) (hV : Below V.heap.size V w) (hgV : V.heap.size ≤ g) (hR : HR w g f n) (hl : n + s.size ≤ 4611686018427387904) :
    Calls Tryd.prog 30 #[.pointer (some ⟨g, 0, none⟩), .string s] w fun e w' => e = .returned (.tuple #[]) ∧ HR w' g (ab f n s.data.toList) (n + s.size) ∧ But g w w' := by
  have U := Tryd.underlying23
  have HTa := Lib.hid hT
  have HVa := Lib.hid hV
  clear hT hV
  go_enter Tryd.func30, Tryd.ntmps30
  go_wp2_with fail
  go_loopw [1] (fun sv wr => ∃ (k : Nat) (t : ByteArray), sv = .string t ∧ Tg f n g s w k t wr) (fun sv _ => strLen sv)
  case atStart => exact ⟨0, s, rfl, Nat.zero_le _, rfl, hR, But.refl _ _⟩
  case round =>
    obtain ⟨k, t, rfl, T⟩ := hrel
    have hts := T.size
    by_cases hz : t.size = 0
    · have ne : t.toList.isEmpty = true := by rw [empty_iff]; exact decide_eq_true hz
      have HT := Lib.hid T
      clear T hR
      go_wp2_with fail
      have hk : k = s.size := by have := HT.out.le; omega
      have e : s.data.toList.take k = s.data.toList := List.take_of_length_le (by rw [Array.length_toList, hk]; exact Nat.le_refl _)
      refine bodyPost_end (results_none (by kernel_rfl) _ _ _) rfl ⟨rfl, ?_, HT.out.b⟩
      have h := HT.out.h
      rw [e] at h
      rw [← hk]; exact h
    · obtain ⟨m, hm⟩ : ∃ m, m = n + k := ⟨_, rfl⟩
      have hm1 : m < 4611686018427387904 := by have := T.le; omega
      have hm2 : m + t.size ≤ 4611686018427387904 := by have := T.le; omega
      have ht0 : 0 < t.size := by omega
      generalize hF : ab f n (s.data.toList.take k) = F at *
      have hH := T.h
      rw [hF, ← hm] at hH
      have I := infoL F
      obtain ⟨p, hp⟩ : ∃ p, p = m % 136 := ⟨_, rfl⟩
      obtain ⟨r, hrr⟩ : ∃ r, r = (m + 1) % 136 := ⟨_, rfl⟩
      have p1 : p < 136 := by omega
      have q1 : (m : Int).tmod 136 = (p : Int) := by rw [Int.tmod_eq_emod_of_nonneg (by omega)]; omega
      have q2 : (m : Int) % 136 = (p : Int) := by omega
      have q3 : IntKind.i64.wrap (p : Int) = (p : Int) := IntWalk.i64_in _ ⟨by omega, by omega⟩
      have q4 : IntKind.i64.wrap ((m : Int) + 1) = (m : Int) + 1 := IntWalk.i64_in _ ⟨by omega, by omega⟩
      have q5 : ((m : Int) + 1).tmod 136 = (r : Int) := by rw [Int.tmod_eq_emod_of_nonneg (by omega)]; omega
      have q6 : ((m : Int) + 1) % 136 = (r : Int) := by omega
      have q7 : IntKind.i64.wrap (r : Int) = (r : Int) := IntWalk.i64_in _ ⟨by omega, by omega⟩
      have hc := hH.c
      have hb := PlainAid.get_bt t
      have ne : t.toList.isEmpty = false := by rw [empty_iff]; exact decide_eq_false (by omega)
      have HT := Lib.hid T
      have HF := Lib.hid hF
      have HM := Lib.hid hm
      have HH := Lib.hid hH
      have PP := Lib.hid hp
      have RR := Lib.hid hrr
      have T0 := Lib.hid ht0
      by_cases hA : p = 0 ∧ 136 ≤ t.size
      · have z' : ((p : Int) == 0) = true := by simp [hA.1]
        have z2 : decide ((136 : Int) ≤ (t.size : Int)) = true := by simp; omega
        have z3 : (136 : Int) ≤ (t.size : Int) := by omega
        have h136 : m % 136 = 0 := by rw [← hp]; exact hA.1
        have h136 := Lib.hid h136
        have hz0 := Lib.hid hA.2
        have hx : (t.extract 0 136).size = 136 := by rw [ByteArray.size_extract]; omega
        have TB := Lib.hid (fun W hW hR => takeBlock_any F m g (t.extract 0 136) V W HTa.out hW hgV hR hx (by omega))
        clear T hF hm hH hts hz hR hl hp hrr hx hA hm2
        go_wp2_with fail
        refine (TB.out _ (HVa.out.trans (HT.out.b.below hgV HVa.out.size)) HH.out).mono ?_
        rintro e w1 ⟨rfl, h1, b1⟩
        rw [← HF.out] at h1
        have H1 := Lib.hid h1
        have B1 := Lib.hid b1
        clear h1 b1 TB
        go_wp2_with fail
        exact HT.out.block hz0.out HM.out h136.out H1.out B1.out
      · have hzz : ((p : Int) == 0) = false ∨ (((p : Int) == 0) = true ∧ decide ((136 : Int) ≤ (t.size : Int)) = false) := by
          by_cases c : p = 0
          · exact Or.inr ⟨by simp [c], by simp; omega⟩
          · exact Or.inl (by simp; omega)
        have b0 := PlainAid.bt_nonneg t 0
        have b1 := PlainAid.bt_le t 0
        obtain ⟨b, hbb⟩ : ∃ b : Nat, PlainAid.bt t 0 = (b : Int) := ⟨(PlainAid.bt t 0).toNat, by omega⟩
        have b2 : b < 256 := by omega
        rw [hbb] at b0 b1
        have r0 := HH.out.s
        have r2 : wr.there g 0 25 := fun j hj => HH.out.t j (by omega)
        have gl := HH.out.lt
        clear T hF hm hH hts hz hR hl hp hrr hA hm2
        rcases hzz with z' | ⟨z', z2⟩
        all_goals
          go_wp2_with fail
          refine wp_region_any (by kernel_rfl) ?_
          change wpAny _ _ _ _ _ _ _ (World.drew _)
          refine wpAny_take (i := 0) (oi := { dst := some 23, op := Op.move (Operand.tmp 0), type := 35, pos := "digest.go:153", after := #[], guard := none }) (v := ?_) rfl (by kernel_rfl) (by kernel_rfl) (by kernel_rfl) (fun _ _ _ h => h) (Or.inl ⟨by rfl, ?_⟩) ?_
          rotate_left
          · intro w; go_simp <;> with_reducible rfl
          try simp only [Act.put, List.setIfInBounds_toArray, List.set_cons_zero, List.set_cons_succ]
          refine wpAny_take (i := 1) (oi := { dst := some 24, op := Op.move (Operand.tmp 0), type := 35, pos := "digest.go:153", after := #[], guard := none }) (v := ?_) rfl (by kernel_rfl) (by kernel_rfl) (by kernel_rfl) (fun _ _ _ h => h) (Or.inl ⟨by rfl, ?_⟩) ?_
          rotate_left
          · intro w; go_simp <;> with_reducible rfl
          try simp only [Act.put, List.setIfInBounds_toArray, List.set_cons_zero, List.set_cons_succ]
          refine wpAny_take (i := 2) (oi := { dst := some 25, op := Op.nilCheck (Operand.tmp 24), type := 0, pos := "digest.go:153", after := #[{ on := 1, ground := Ground.data }], guard := none }) (v := ?_) rfl (by kernel_rfl) (by kernel_rfl) (by kernel_rfl) (fun _ _ _ h => h) (Or.inl ⟨by rfl, ?_⟩) ?_
          rotate_left
          · intro w; go_simp <;> with_reducible rfl
          try simp only [Act.put, List.setIfInBounds_toArray, List.set_cons_zero, List.set_cons_succ]
          refine wpAny_take (i := 3) (oi := { dst := some 26, op := Op.fieldAddr 54 (Operand.tmp 25) 0, type := 0, pos := "digest.go:153", after := #[{ on := 2, ground := Ground.data }], guard := none }) (v := ?_) rfl (by kernel_rfl) (by kernel_rfl) (by kernel_rfl) (fun _ _ _ h => h) (Or.inl ⟨by rfl, ?_⟩) ?_
          rotate_left
          · intro w; go_simp <;> with_reducible rfl
          try simp only [Act.put, List.setIfInBounds_toArray, List.set_cons_zero, List.set_cons_succ]
          refine wpAny_take (i := 5) (oi := { dst := some 28, op := Op.move (Operand.tmp 0), type := 35, pos := "digest.go:153", after := #[], guard := none }) (v := ?_) rfl (by kernel_rfl) (by kernel_rfl) (by kernel_rfl) (fun _ _ _ h => h) (Or.inl ⟨by rfl, ?_⟩) ?_
          rotate_left
          · intro w; go_simp <;> with_reducible rfl
          try simp only [Act.put, List.setIfInBounds_toArray, List.set_cons_zero, List.set_cons_succ]
          refine wpAny_take (i := 6) (oi := { dst := some 29, op := Op.nilCheck (Operand.tmp 28), type := 0, pos := "digest.go:153", after := #[{ on := 5, ground := Ground.data }], guard := none }) (v := ?_) rfl (by kernel_rfl) (by kernel_rfl) (by kernel_rfl) (fun _ _ _ h => h) (Or.inl ⟨by rfl, ?_⟩) ?_
          rotate_left
          · intro w; go_simp <;> with_reducible rfl
          try simp only [Act.put, List.setIfInBounds_toArray, List.set_cons_zero, List.set_cons_succ]
          refine wpAny_take (i := 7) (oi := { dst := some 30, op := Op.fieldAddr 54 (Operand.tmp 29) 1, type := 0, pos := "digest.go:153", after := #[{ on := 6, ground := Ground.data }], guard := none }) (v := ?_) rfl (by kernel_rfl) (by kernel_rfl) (by kernel_rfl) (fun _ _ _ h => h) (Or.inl ⟨by rfl, ?_⟩) ?_
          rotate_left
          · intro w; go_simp <;> with_reducible rfl
          try simp only [Act.put, List.setIfInBounds_toArray, List.set_cons_zero, List.set_cons_succ]
          refine wpAny_take (i := 10) (oi := { dst := some 33, op := Op.move (Operand.tmp 1), type := 9, pos := "digest.go:153", after := #[], guard := none }) (v := ?_) rfl (by kernel_rfl) (by kernel_rfl) (by kernel_rfl) (fun _ _ _ h => h) (Or.inl ⟨by rfl, ?_⟩) ?_
          rotate_left
          · intro w; go_simp <;> with_reducible rfl
          try simp only [Act.put, List.setIfInBounds_toArray, List.set_cons_zero, List.set_cons_succ]
          refine wpAny_take (i := 11) (oi := { dst := some 34, op := Op.index 9 (Operand.tmp 33) (Operand.const (Value.int IntKind.i64 0)), type := 5, pos := "digest.go:153", after := #[{ on := 10, ground := Ground.data }], guard := none }) (v := ?_) rfl (by kernel_rfl) (by kernel_rfl) (by kernel_rfl) (fun _ _ _ h => h) (Or.inl ⟨by rfl, ?_⟩) ?_
          rotate_left
          · intro w; go_simp <;> with_reducible rfl
          try simp only [Act.put, List.setIfInBounds_toArray, List.set_cons_zero, List.set_cons_succ]
          refine wpAny_ready (rs := [4, 8]) (by kernel_rfl) (by simp) ?_
          refine AllReady.cons (i := 4) (o := { dst := some 27, op := Op.load 23 (Operand.tmp 26), type := 23, pos := "digest.go:153", after := #[{ on := 3, ground := Ground.data }], guard := none }) rfl (fun K hK => ?_) ?_
          rw [if_pos (by rfl)]
          · refine wp_load_mid 23 _ rfl g 0 rfl (vecL 25 F) _ r0 U rfl I ?_
            refine hK _ _ ?_
            clear hK K
            try simp only [Act.put, List.setIfInBounds_toArray, List.set_cons_zero, List.set_cons_succ]
            refine wpAny_ready (rs := [8]) (by kernel_rfl) (by simp) ?_
            refine AllReady.cons (i := 8) (o := { dst := some 31, op := Op.load 3 (Operand.tmp 30), type := 3, pos := "digest.go:153", after := #[{ on := 7, ground := Ground.data }], guard := none }) rfl (fun K hK => ?_) ?_
            rw [if_pos (by rfl)]
            · go_simp
              refine hK _ _ ?_
              clear hK K
              try simp only [Act.put, List.setIfInBounds_toArray, List.set_cons_zero, List.set_cons_succ]
              refine wpAny_take (i := 9) (oi := { dst := some 32, op := Op.binOp BinOp.rem 3 (Operand.tmp 31) (Operand.const (Value.int IntKind.i64 136)) 3, type := 3, pos := "digest.go:153", after := #[{ on := 8, ground := Ground.data }], guard := none }) (v := ?_) rfl (by kernel_rfl) (by kernel_rfl) (by kernel_rfl) (fun _ _ _ h => h) (Or.inl ⟨by rfl, ?_⟩) ?_
              rotate_left
              · intro w; go_simp <;> with_reducible rfl
              try simp only [Act.put, List.setIfInBounds_toArray, List.set_cons_zero, List.set_cons_succ]
              refine wpAny_ready (rs := [12]) (by kernel_rfl) (by simp) ?_
              refine AllReady.cons (i := 12) (o := { dst := some 35, op := Op.call { callee := Callee.value (Operand.func 29), args := #[Operand.tmp 27, Operand.tmp 32, Operand.tmp 34], argTypes := #[23, 3, 5] }, type := 23, pos := "digest.go:153", after := #[{ on := 4, ground := Ground.data }, { on := 9, ground := Ground.data }, { on := 11, ground := Ground.data }], guard := none }) rfl (fun K hK => ?_) ?_
              rw [if_pos (by rfl)]
              · go_simp
                refine (withByte_L F p b _ p1 b2).mono ?_
                rintro e w1 ⟨rfl, hb1⟩
                refine hK _ _ ?_
                clear hK K
                try simp only [Act.put, List.setIfInBounds_toArray, List.set_cons_zero, List.set_cons_succ]
                refine wpAny_take (i := 13) (oi := { dst := some 36, op := Op.nilCheck (Operand.tmp 23), type := 0, pos := "digest.go:153", after := #[{ on := 0, ground := Ground.data }, { on := 0, ground := Ground.phase }, { on := 1, ground := Ground.phase }, { on := 2, ground := Ground.phase }, { on := 3, ground := Ground.phase }, { on := 4, ground := Ground.phase }, { on := 5, ground := Ground.phase }, { on := 6, ground := Ground.phase }, { on := 7, ground := Ground.phase }, { on := 8, ground := Ground.phase }, { on := 9, ground := Ground.phase }, { on := 10, ground := Ground.phase }, { on := 11, ground := Ground.phase }, { on := 12, ground := Ground.phase }], guard := none }) (v := ?_) rfl (by kernel_rfl) (by kernel_rfl) (by kernel_rfl) (fun _ _ _ h => h) (Or.inl ⟨by rfl, ?_⟩) ?_
                rotate_left
                · intro w; go_simp <;> with_reducible rfl
                try simp only [Act.put, List.setIfInBounds_toArray, List.set_cons_zero, List.set_cons_succ]
                refine wpAny_take (i := 14) (oi := { dst := some 37, op := Op.fieldAddr 54 (Operand.tmp 36) 0, type := 0, pos := "digest.go:153", after := #[{ on := 13, ground := Ground.data }, { on := 0, ground := Ground.phase }, { on := 1, ground := Ground.phase }, { on := 2, ground := Ground.phase }, { on := 3, ground := Ground.phase }, { on := 4, ground := Ground.phase }, { on := 5, ground := Ground.phase }, { on := 6, ground := Ground.phase }, { on := 7, ground := Ground.phase }, { on := 8, ground := Ground.phase }, { on := 9, ground := Ground.phase }, { on := 10, ground := Ground.phase }, { on := 11, ground := Ground.phase }, { on := 12, ground := Ground.phase }], guard := none }) (v := ?_) rfl (by kernel_rfl) (by kernel_rfl) (by kernel_rfl) (fun _ _ _ h => h) (Or.inl ⟨by rfl, ?_⟩) ?_
                rotate_left
                · intro w; go_simp <;> with_reducible rfl
                try simp only [Act.put, List.setIfInBounds_toArray, List.set_cons_zero, List.set_cons_succ]
                refine wpAny_ready (rs := [15]) (by kernel_rfl) (by simp) ?_
                refine AllReady.cons (i := 15) (o := { dst := none, op := Op.store 23 (Operand.tmp 37) (Operand.tmp 35), type := 0, pos := "digest.go:153", after := #[{ on := 14, ground := Ground.data }, { on := 12, ground := Ground.data }, { on := 12, ground := Ground.chain }, { on := 0, ground := Ground.phase }, { on := 1, ground := Ground.phase }, { on := 2, ground := Ground.phase }, { on := 3, ground := Ground.phase }, { on := 4, ground := Ground.phase }, { on := 5, ground := Ground.phase }, { on := 6, ground := Ground.phase }, { on := 7, ground := Ground.phase }, { on := 8, ground := Ground.phase }, { on := 9, ground := Ground.phase }, { on := 10, ground := Ground.phase }, { on := 11, ground := Ground.phase }, { on := 12, ground := Ground.phase }], guard := none }) rfl (fun K hK => ?_) ?_
                rw [if_pos (by rfl)]
                · have r1 := HS_below (w := wr.drew) (f := F) (n := m) ⟨r0, hc, r2⟩ hb1 gl
                  refine wp_store_mid 23 _ _ rfl g 0 (vecL 25 (put F p b)).toArray rfl rfl ?_ ?_ ?_ ?_
                  · rw [List.size_toArray, vecL_len]; exact r1.2.2
                  · rw [List.size_toArray, vecL_len]; kernel_rfl
                  · rw [vecL_arr]; exact vec_one _ _
                  · refine hK _ _ ?_
                    clear hK K
                    try simp only [Act.put]
                    refine wpAny_done (by kernel_rfl) ?_ _
                    have H2 := (HH.out.drew.below (show Below wr.drew.heap.size wr.drew w1 from hb1)).state (put F p b)
                    have B2 : But g wr (w1.setCells g 0 (vecL 25 (put F p b))) := ((But.drew g wr).trans (But.of_below hb1)).trans (But.setCells g _ 0 w1)
                    generalize w1.setCells g 0 (vecL 25 (put F p b)) = w2 at H2 B2 ⊢
                    have c2 := H2.c
                    have o2 := (H2.t 25 (by omega)).2
                    rw [Nat.zero_add] at o2
                    have H3 : HR (w2.setCell ⟨g, 25, none⟩ (.int .i64 ((m : Int) + 1))) g (put F p b) (m + 1) := by have h := H2.count (m + 1); exact_mod_cast h
                    have B3 := B2.trans (But.setCell g 25 w2 (.int .i64 ((m : Int) + 1)))
                    clear H2 B2
                    by_cases hr : (m + 1) % 136 = 0
                    · have qr : ((r : Int) == 0) = true := by simp [RR.out, hr]
                      have hG : abB F m b = perm (put F p b) 24 := by unfold abB; rw [if_pos hr, PP.out]
                      have TT := HTa.out.but HVa.out hgV (HT.out.b.trans B3)
                      have HPm := fun V hV => Permute_any (put F p b) V hV
                      generalize perm (put F p b) 24 = G at *
                      have HPm := Lib.hid HPm
                      have r3 := H3.s
                      have H3 := Lib.hid H3
                      have B3 := Lib.hid B3
                      have TT := Lib.hid TT
                      have HG := Lib.hid hG
                      have I2 := infoL (put F p b)
                      clear hG hr r0 r2 hc HH
                      go_wp2_with (first | (refine wpList_load_mid rfl 23 _ rfl g 0 rfl (vecL 25 (put F p b)) _ r3 U rfl I2 ?_))
                      refine (HPm.out _ TT.out).mono ?_
                      rintro e w5 ⟨rfl, hb5⟩
                      have H5 := H3.out.below hb5
                      have t5 : w5.there g 0 25 := fun j hj => H5.t j (by omega)
                      have H6 := Lib.hid (H5.state G)
                      have B6 := Lib.hid (B3.out.trans ((But.of_below hb5).trans (But.setCells g (vecL 25 G) 0 w5)))
                      clear hb5 H5 r3
                      go_wp2_with (first | (refine wpList_store_mid rfl 23 _ _ rfl g 0 (vec 25 G) rfl rfl (by rw [vec_size]; exact t5) (by rw [vec_size]; kernel_rfl) (vec_one _ _) ?_; rw [vec_list]; generalize w5.setCells g 0 (vecL 25 G) = w6 at *))
                      exact HT.out.step ht0 HM.out hbb (by rw [HF.out]; exact HG.out) H6.out B6.out
                    · have qr : ((r : Int) == 0) = false := by have := RR.out; simp; omega
                      have HG := Lib.hid (show abB F m b = put F p b from by unfold abB; rw [if_neg hr, PP.out])
                      have H3 := Lib.hid H3
                      have B3 := Lib.hid B3
                      clear hr
                      go_wp2_with fail
                      exact HT.out.step ht0 HM.out hbb (by rw [HF.out]; exact HG.out) H3.out B3.out
                exact AllReady.nil
              exact AllReady.nil
            exact AllReady.nil
          refine AllReady.cons (i := 8) (o := { dst := some 31, op := Op.load 3 (Operand.tmp 30), type := 3, pos := "digest.go:153", after := #[{ on := 7, ground := Ground.data }], guard := none }) rfl (fun K hK => ?_) ?_
          rw [if_pos (by rfl)]
          · go_simp
            refine hK _ _ ?_
            clear hK K
            try simp only [Act.put, List.setIfInBounds_toArray, List.set_cons_zero, List.set_cons_succ]
            refine wpAny_take (i := 9) (oi := { dst := some 32, op := Op.binOp BinOp.rem 3 (Operand.tmp 31) (Operand.const (Value.int IntKind.i64 136)) 3, type := 3, pos := "digest.go:153", after := #[{ on := 8, ground := Ground.data }], guard := none }) (v := ?_) rfl (by kernel_rfl) (by kernel_rfl) (by kernel_rfl) (fun _ _ _ h => h) (Or.inl ⟨by rfl, ?_⟩) ?_
            rotate_left
            · intro w; go_simp <;> with_reducible rfl
            try simp only [Act.put, List.setIfInBounds_toArray, List.set_cons_zero, List.set_cons_succ]
            refine wpAny_ready (rs := [4]) (by kernel_rfl) (by simp) ?_
            refine AllReady.cons (i := 4) (o := { dst := some 27, op := Op.load 23 (Operand.tmp 26), type := 23, pos := "digest.go:153", after := #[{ on := 3, ground := Ground.data }], guard := none }) rfl (fun K hK => ?_) ?_
            rw [if_pos (by rfl)]
            · refine wp_load_mid 23 _ rfl g 0 rfl (vecL 25 F) _ r0 U rfl I ?_
              refine hK _ _ ?_
              clear hK K
              try simp only [Act.put, List.setIfInBounds_toArray, List.set_cons_zero, List.set_cons_succ]
              refine wpAny_ready (rs := [12]) (by kernel_rfl) (by simp) ?_
              refine AllReady.cons (i := 12) (o := { dst := some 35, op := Op.call { callee := Callee.value (Operand.func 29), args := #[Operand.tmp 27, Operand.tmp 32, Operand.tmp 34], argTypes := #[23, 3, 5] }, type := 23, pos := "digest.go:153", after := #[{ on := 4, ground := Ground.data }, { on := 9, ground := Ground.data }, { on := 11, ground := Ground.data }], guard := none }) rfl (fun K hK => ?_) ?_
              rw [if_pos (by rfl)]
              · go_simp
                refine (withByte_L F p b _ p1 b2).mono ?_
                rintro e w1 ⟨rfl, hb1⟩
                refine hK _ _ ?_
                clear hK K
                try simp only [Act.put, List.setIfInBounds_toArray, List.set_cons_zero, List.set_cons_succ]
                refine wpAny_take (i := 13) (oi := { dst := some 36, op := Op.nilCheck (Operand.tmp 23), type := 0, pos := "digest.go:153", after := #[{ on := 0, ground := Ground.data }, { on := 0, ground := Ground.phase }, { on := 1, ground := Ground.phase }, { on := 2, ground := Ground.phase }, { on := 3, ground := Ground.phase }, { on := 4, ground := Ground.phase }, { on := 5, ground := Ground.phase }, { on := 6, ground := Ground.phase }, { on := 7, ground := Ground.phase }, { on := 8, ground := Ground.phase }, { on := 9, ground := Ground.phase }, { on := 10, ground := Ground.phase }, { on := 11, ground := Ground.phase }, { on := 12, ground := Ground.phase }], guard := none }) (v := ?_) rfl (by kernel_rfl) (by kernel_rfl) (by kernel_rfl) (fun _ _ _ h => h) (Or.inl ⟨by rfl, ?_⟩) ?_
                rotate_left
                · intro w; go_simp <;> with_reducible rfl
                try simp only [Act.put, List.setIfInBounds_toArray, List.set_cons_zero, List.set_cons_succ]
                refine wpAny_take (i := 14) (oi := { dst := some 37, op := Op.fieldAddr 54 (Operand.tmp 36) 0, type := 0, pos := "digest.go:153", after := #[{ on := 13, ground := Ground.data }, { on := 0, ground := Ground.phase }, { on := 1, ground := Ground.phase }, { on := 2, ground := Ground.phase }, { on := 3, ground := Ground.phase }, { on := 4, ground := Ground.phase }, { on := 5, ground := Ground.phase }, { on := 6, ground := Ground.phase }, { on := 7, ground := Ground.phase }, { on := 8, ground := Ground.phase }, { on := 9, ground := Ground.phase }, { on := 10, ground := Ground.phase }, { on := 11, ground := Ground.phase }, { on := 12, ground := Ground.phase }], guard := none }) (v := ?_) rfl (by kernel_rfl) (by kernel_rfl) (by kernel_rfl) (fun _ _ _ h => h) (Or.inl ⟨by rfl, ?_⟩) ?_
                rotate_left
                · intro w; go_simp <;> with_reducible rfl
                try simp only [Act.put, List.setIfInBounds_toArray, List.set_cons_zero, List.set_cons_succ]
                refine wpAny_ready (rs := [15]) (by kernel_rfl) (by simp) ?_
                refine AllReady.cons (i := 15) (o := { dst := none, op := Op.store 23 (Operand.tmp 37) (Operand.tmp 35), type := 0, pos := "digest.go:153", after := #[{ on := 14, ground := Ground.data }, { on := 12, ground := Ground.data }, { on := 12, ground := Ground.chain }, { on := 0, ground := Ground.phase }, { on := 1, ground := Ground.phase }, { on := 2, ground := Ground.phase }, { on := 3, ground := Ground.phase }, { on := 4, ground := Ground.phase }, { on := 5, ground := Ground.phase }, { on := 6, ground := Ground.phase }, { on := 7, ground := Ground.phase }, { on := 8, ground := Ground.phase }, { on := 9, ground := Ground.phase }, { on := 10, ground := Ground.phase }, { on := 11, ground := Ground.phase }, { on := 12, ground := Ground.phase }], guard := none }) rfl (fun K hK => ?_) ?_
                rw [if_pos (by rfl)]
                · have r1 := HS_below (w := wr.drew) (f := F) (n := m) ⟨r0, hc, r2⟩ hb1 gl
                  refine wp_store_mid 23 _ _ rfl g 0 (vecL 25 (put F p b)).toArray rfl rfl ?_ ?_ ?_ ?_
                  · rw [List.size_toArray, vecL_len]; exact r1.2.2
                  · rw [List.size_toArray, vecL_len]; kernel_rfl
                  · rw [vecL_arr]; exact vec_one _ _
                  · refine hK _ _ ?_
                    clear hK K
                    try simp only [Act.put]
                    refine wpAny_done (by kernel_rfl) ?_ _
                    have H2 := (HH.out.drew.below (show Below wr.drew.heap.size wr.drew w1 from hb1)).state (put F p b)
                    have B2 : But g wr (w1.setCells g 0 (vecL 25 (put F p b))) := ((But.drew g wr).trans (But.of_below hb1)).trans (But.setCells g _ 0 w1)
                    generalize w1.setCells g 0 (vecL 25 (put F p b)) = w2 at H2 B2 ⊢
                    have c2 := H2.c
                    have o2 := (H2.t 25 (by omega)).2
                    rw [Nat.zero_add] at o2
                    have H3 : HR (w2.setCell ⟨g, 25, none⟩ (.int .i64 ((m : Int) + 1))) g (put F p b) (m + 1) := by have h := H2.count (m + 1); exact_mod_cast h
                    have B3 := B2.trans (But.setCell g 25 w2 (.int .i64 ((m : Int) + 1)))
                    clear H2 B2
                    by_cases hr : (m + 1) % 136 = 0
                    · have qr : ((r : Int) == 0) = true := by simp [RR.out, hr]
                      have hG : abB F m b = perm (put F p b) 24 := by unfold abB; rw [if_pos hr, PP.out]
                      have TT := HTa.out.but HVa.out hgV (HT.out.b.trans B3)
                      have HPm := fun V hV => Permute_any (put F p b) V hV
                      generalize perm (put F p b) 24 = G at *
                      have HPm := Lib.hid HPm
                      have r3 := H3.s
                      have H3 := Lib.hid H3
                      have B3 := Lib.hid B3
                      have TT := Lib.hid TT
                      have HG := Lib.hid hG
                      have I2 := infoL (put F p b)
                      clear hG hr r0 r2 hc HH
                      go_wp2_with (first | (refine wpList_load_mid rfl 23 _ rfl g 0 rfl (vecL 25 (put F p b)) _ r3 U rfl I2 ?_))
                      refine (HPm.out _ TT.out).mono ?_
                      rintro e w5 ⟨rfl, hb5⟩
                      have H5 := H3.out.below hb5
                      have t5 : w5.there g 0 25 := fun j hj => H5.t j (by omega)
                      have H6 := Lib.hid (H5.state G)
                      have B6 := Lib.hid (B3.out.trans ((But.of_below hb5).trans (But.setCells g (vecL 25 G) 0 w5)))
                      clear hb5 H5 r3
                      go_wp2_with (first | (refine wpList_store_mid rfl 23 _ _ rfl g 0 (vec 25 G) rfl rfl (by rw [vec_size]; exact t5) (by rw [vec_size]; kernel_rfl) (vec_one _ _) ?_; rw [vec_list]; generalize w5.setCells g 0 (vecL 25 G) = w6 at *))
                      exact HT.out.step ht0 HM.out hbb (by rw [HF.out]; exact HG.out) H6.out B6.out
                    · have qr : ((r : Int) == 0) = false := by have := RR.out; simp; omega
                      have HG := Lib.hid (show abB F m b = put F p b from by unfold abB; rw [if_neg hr, PP.out])
                      have H3 := Lib.hid H3
                      have B3 := Lib.hid B3
                      clear hr
                      go_wp2_with fail
                      exact HT.out.step ht0 HM.out hbb (by rw [HF.out]; exact HG.out) H3.out B3.out
                exact AllReady.nil
              exact AllReady.nil
            exact AllReady.nil
          exact AllReady.nil
end Go.Proofs.YtfjbchmneojgaaaDoor
