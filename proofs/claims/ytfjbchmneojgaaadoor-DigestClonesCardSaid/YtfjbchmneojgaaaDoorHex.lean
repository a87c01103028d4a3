/- The contract of Hex. -/
import Derived.Test.YtfjbchmneojgaaaDoorSum
import Derived.Deep.QuietTactic
import Derived.BigQuiet
namespace Go.Proofs.YtfjbchmneojgaaaDoor
open Go.RowKit

def hx (n : Nat) : Nat := if n < 10 then 48 + n else 87 + n
def hexU : List UInt8 → List UInt8
  | [] => []
  | b :: r => UInt8.ofNat (hx (b.toNat / 16)) :: UInt8.ofNat (hx (b.toNat % 16)) :: hexU r
def hexS (s : ByteArray) : ByteArray := ⟨(hexU s.data.toList).toArray⟩
theorem hexU_len : ∀ l : List UInt8, (hexU l).length = 2 * l.length
  | [] => rfl
  | _ :: r => by simp only [hexU, List.length_cons, hexU_len r]; omega
theorem hexU_app : ∀ (l m : List UInt8), hexU (l ++ m) = hexU l ++ hexU m
  | [], _ => rfl
  | b :: r, m => by show _ :: _ :: hexU (r ++ m) = _; rw [hexU_app r m]; rfl
/-- Bytes as a row has them. -/
def cv (l : List UInt8) : List Value := l.map fun b => Value.int .u8 (b.toNat : Int)
theorem cv_len (l : List UInt8) : (cv l).length = l.length := by simp [cv]
def hexDigits : ByteArray := ⟨#[48, 49, 50, 51, 52, 53, 54, 55, 56, 57, 97, 98, 99, 100, 101, 102]⟩
theorem hex_at : ∀ n : Fin 16, PlainAid.bt hexDigits n.val = (hx n.val : Int) := by decide +kernel
theorem hex_get (n : Nat) (hn : n < 16) (m : Nat) (e : m = n) : ∀ h, (((⟨#[48, 49, 50, 51, 52, 53, 54, 55, 56, 57, 97, 98, 99, 100, 101, 102]⟩ : ByteArray)[m]'h).toNat : Int) = (hx n : Int) := by
  intro h
  subst e
  rw [← hex_at ⟨m, hn⟩]
  exact PlainAid.get_bt hexDigits m h
theorem and15 : ∀ b : Fin 256, bits .and .u8 (b.val : Int) 15 = ((b.val % 16 : Nat) : Int) := by decide +kernel
theorem hx_lt (n : Nat) (h : n < 16) : hx n < 256 := by unfold hx; split <;> omega
theorem take_snoc (l : List UInt8) (k : Nat) (b : UInt8) (h : l[k]? = some b) : l.take (k + 1) = l.take k ++ [b] := by rw [List.take_add_one, h]; rfl

theorem hex_more (s : ByteArray) (i b : Nat) (hi : i < s.size) (hb : PlainAid.bt s i = (b : Int)) :
    cv (hexU (s.data.toList.take i)) ++ [.int .u8 (hx (b / 16)), .int .u8 (hx (b % 16))] = cv (hexU (s.data.toList.take (i + 1))) := by
  have g := PlainAid.get_bt s i hi
  have hbn : (s[i]).toNat = b := by rw [hb] at g; exact_mod_cast g
  have bl : b < 256 := by rw [← hbn]; exact (s[i]).toNat_lt
  rw [take_snoc _ i s[i] (by rw [List.getElem?_eq_getElem (by rw [Array.length_toList]; exact hi)]; rfl), hexU_app]
  simp only [cv, hexU, List.map_append, List.map_cons, List.map_nil, hbn, UInt8.toNat_ofNat']
  rw [Nat.mod_eq_of_lt (hx_lt _ (by omega)), Nat.mod_eq_of_lt (hx_lt _ (by omega))]
/-- A row of the call's own, as a string. -/
theorem conv_own (wr : World) {base G : Nat} (n cap : Nat) (l : List UInt8) (U : Tryd.prog.underlying 48 = some (.slice 5)) (hl : l.length = n)
    (own : wr.ownsRow base 5 1 (.slice (some ⟨G, 0, none⟩) n cap) n (cv l)) :
    (convert 48 9 (.slice (some ⟨G, 0, none⟩) n cap)).run Tryd.prog wr = .ok (.string ⟨l.toArray⟩) wr := by
  subst hl
  refine run_convert_bytes_back (P := Tryd.prog) wr 48 9 5 ⟨G, 0, none⟩ cap l U (by kernel_rfl) (by kernel_rfl) (fun j hj => ?_)
  have := own.cellAt j (by omega)
  rw [show (⟨G, 0, none⟩ : Addr).add j = ⟨G, j, none⟩ from by simp [Addr.add]; omega, this]
  simp [cv, List.getElem?_eq_getElem hj]

set_option maxRecDepth 100000 in
set_option maxHeartbeats 1000000 in
theorem Hex_any (s : ByteArray) (w : World) :
    Calls Tryd.prog 15 #[.string s] w fun e w' => (s.size ≠ 32 ∧ e = .returned (.tuple #[.string ⟨#[]⟩, .int .i64 1]) ∨ s.size = 32 ∧ e = .returned (.tuple #[.string (hexS s), .int .i64 0])) ∧ Below w.heap.size w w' := by
  have U48 : Tryd.prog.underlying 48 = some (.slice 5) := by kernel_rfl
  obtain ⟨i0, hi, hz0, hz1, hz2⟩ := info_parts (P := Tryd.prog) (e := 5) (z := .int .u8 0) (size := 1) (bytes := 1) (by kernel_rfl)
  go_enter Tryd.func15, Tryd.ntmps15
  by_cases hs : s.size = 32
  · have hs1 : (s.size : Int) = 32 := by omega
    go_wp2_with (at_make; refine wpList_make_own _ rfl _ _ 48 rfl w.heap.size 5 i0 (.int .u8 0) 1 U48 hi hz0 hz1 _ _ _ 64 rfl rfl rfl (by rw [hz2]; decide) (by decide) (Nat.le_refl _) ?_)
    intro w4 own4 grow4
    have B4 := (Below.refl w.heap.size w).grown grow4 (Nat.le_refl _) (fun k hk => by cases hk)
    go_wp2_with fail
    go_loopw [4, 12] (fun sd si wr => ∃ i : Nat, i ≤ 32 ∧ sd = .slice (some ⟨w.heap.size, 0, none⟩) (2 * i) 64 ∧ si = .int .i64 i ∧ wr.ownsRow w.heap.size 5 1 (.slice (some ⟨w.heap.size, 0, none⟩) (2 * i) 64) (2 * i) (cv (hexU (s.data.toList.take i))) ∧ Below w.heap.size w wr)
      (fun _ si _ => 32 - (intOf si).toNat)
    case atStart => exact ⟨0, by omega, rfl, rfl, own4, B4⟩
    case round =>
      obtain ⟨i, hi32, rfl, rfl, own, B⟩ := hrel
      clear own4 B4 grow4
      by_cases hlt : i < 32
      · have hb := PlainAid.get_bt s
        have c0 : (0 : Int) ≤ (i : Int) := by omega
        have c1 : (i : Int) < (s.size : Int) := by omega
        have b0 := PlainAid.bt_nonneg s i
        have b1 := PlainAid.bt_le s i
        obtain ⟨b, hbb⟩ : ∃ b : Nat, PlainAid.bt s i = (b : Int) := ⟨(PlainAid.bt s i).toNat, by omega⟩
        have b2 : b < 256 := by omega
        have a15 := and15 ⟨b, b2⟩
        dsimp only at a15
        have d0 : 0 ≤ (b : Int) / 16 := by omega
        have d1 : (b : Int) / 16 < 16 := by omega
        have d2 := hex_get (b / 16) (by omega) ((b : Int) / 16).toNat (by omega)
        have d3 : 0 ≤ (b : Int) % 16 := by omega
        have d4 : (b : Int) % 16 < 16 := by omega
        have d5 := hex_get (b % 16) (by omega) ((b : Int) % 16).toNat (by omega)
        have HO := Lib.hid own
        have HB' := Lib.hid B
        have HS := Lib.hid hs
        have HBB := Lib.hid hbb
        clear own B hs
        go_wp2_with fail
        refine wp_region_any (by kernel_rfl) ?_
        change wpAny _ _ _ _ _ _ _ (World.drew _)
        refine wpAny_take (i := 0) (oi := { dst := some 15, op := Op.move (Operand.tmp 4), type := 48, pos := "digest.go:95", after := #[], guard := none }) (v := ?_) rfl (by kernel_rfl) (by kernel_rfl) (by kernel_rfl) (fun _ _ _ h => h) (Or.inl ⟨by rfl, ?_⟩) ?_
        rotate_left
        · intro w; go_simp <;> with_reducible rfl
        try simp only [Act.put, List.setIfInBounds_toArray, List.set_cons_zero, List.set_cons_succ]
        refine wpAny_take (i := 1) (oi := { dst := some 16, op := Op.move (Operand.tmp 0), type := 9, pos := "digest.go:95", after := #[], guard := none }) (v := ?_) rfl (by kernel_rfl) (by kernel_rfl) (by kernel_rfl) (fun _ _ _ h => h) (Or.inl ⟨by rfl, ?_⟩) ?_
        rotate_left
        · intro w; go_simp <;> with_reducible rfl
        try simp only [Act.put, List.setIfInBounds_toArray, List.set_cons_zero, List.set_cons_succ]
        refine wpAny_take (i := 2) (oi := { dst := some 17, op := Op.move (Operand.tmp 5), type := 3, pos := "digest.go:95", after := #[], guard := none }) (v := ?_) rfl (by kernel_rfl) (by kernel_rfl) (by kernel_rfl) (fun _ _ _ h => h) (Or.inl ⟨by rfl, ?_⟩) ?_
        rotate_left
        · intro w; go_simp <;> with_reducible rfl
        try simp only [Act.put, List.setIfInBounds_toArray, List.set_cons_zero, List.set_cons_succ]
        refine wpAny_take (i := 3) (oi := { dst := some 18, op := Op.index 9 (Operand.tmp 16) (Operand.tmp 17), type := 5, pos := "digest.go:95", after := #[{ on := 1, ground := Ground.data }, { on := 2, ground := Ground.data }], guard := none }) (v := ?_) rfl (by kernel_rfl) (by kernel_rfl) (by kernel_rfl) (fun _ _ _ h => h) (Or.inl ⟨by rfl, ?_⟩) ?_
        rotate_left
        · intro w; go_simp <;> with_reducible rfl
        try simp only [Act.put, List.setIfInBounds_toArray, List.set_cons_zero, List.set_cons_succ]
        refine wpAny_take (i := 4) (oi := { dst := some 19, op := Op.binOp BinOp.shr 5 (Operand.tmp 18) (Operand.const (Value.int IntKind.u64 4)) 49, type := 5, pos := "digest.go:95", after := #[{ on := 3, ground := Ground.data }], guard := none }) (v := ?_) rfl (by kernel_rfl) (by kernel_rfl) (by kernel_rfl) (fun _ _ _ h => h) (Or.inl ⟨by rfl, ?_⟩) ?_
        rotate_left
        · intro w; go_simp <;> with_reducible rfl
        try simp only [Act.put, List.setIfInBounds_toArray, List.set_cons_zero, List.set_cons_succ]
        refine wpAny_take (i := 5) (oi := { dst := some 20, op := Op.index 9 (Operand.const (Value.string { data := #[48, 49, 50, 51, 52, 53, 54, 55, 56, 57, 97, 98, 99, 100, 101, 102] })) (Operand.tmp 19), type := 5, pos := "digest.go:95", after := #[{ on := 4, ground := Ground.data }], guard := none }) (v := ?_) rfl (by kernel_rfl) (by kernel_rfl) (by kernel_rfl) (fun _ _ _ h => h) (Or.inl ⟨by rfl, ?_⟩) ?_
        rotate_left
        · intro w; go_simp <;> with_reducible rfl
        try simp only [Act.put, List.setIfInBounds_toArray, List.set_cons_zero, List.set_cons_succ]
        refine wpAny_take (i := 6) (oi := { dst := some 21, op := Op.move (Operand.tmp 0), type := 9, pos := "digest.go:95", after := #[], guard := none }) (v := ?_) rfl (by kernel_rfl) (by kernel_rfl) (by kernel_rfl) (fun _ _ _ h => h) (Or.inl ⟨by rfl, ?_⟩) ?_
        rotate_left
        · intro w; go_simp <;> with_reducible rfl
        try simp only [Act.put, List.setIfInBounds_toArray, List.set_cons_zero, List.set_cons_succ]
        refine wpAny_take (i := 7) (oi := { dst := some 22, op := Op.move (Operand.tmp 5), type := 3, pos := "digest.go:95", after := #[], guard := none }) (v := ?_) rfl (by kernel_rfl) (by kernel_rfl) (by kernel_rfl) (fun _ _ _ h => h) (Or.inl ⟨by rfl, ?_⟩) ?_
        rotate_left
        · intro w; go_simp <;> with_reducible rfl
        try simp only [Act.put, List.setIfInBounds_toArray, List.set_cons_zero, List.set_cons_succ]
        refine wpAny_take (i := 8) (oi := { dst := some 23, op := Op.index 9 (Operand.tmp 21) (Operand.tmp 22), type := 5, pos := "digest.go:95", after := #[{ on := 6, ground := Ground.data }, { on := 7, ground := Ground.data }], guard := none }) (v := ?_) rfl (by kernel_rfl) (by kernel_rfl) (by kernel_rfl) (fun _ _ _ h => h) (Or.inl ⟨by rfl, ?_⟩) ?_
        rotate_left
        · intro w; go_simp <;> with_reducible rfl
        try simp only [Act.put, List.setIfInBounds_toArray, List.set_cons_zero, List.set_cons_succ]
        refine wpAny_take (i := 9) (oi := { dst := some 24, op := Op.binOp BinOp.and 5 (Operand.tmp 23) (Operand.const (Value.int IntKind.u8 15)) 5, type := 5, pos := "digest.go:95", after := #[{ on := 8, ground := Ground.data }], guard := none }) (v := ?_) rfl (by kernel_rfl) (by kernel_rfl) (by kernel_rfl) (fun _ _ _ h => h) (Or.inl ⟨by rfl, ?_⟩) ?_
        rotate_left
        · intro w; go_simp <;> with_reducible rfl
        try simp only [Act.put, List.setIfInBounds_toArray, List.set_cons_zero, List.set_cons_succ]
        refine wpAny_take (i := 10) (oi := { dst := some 25, op := Op.index 9 (Operand.const (Value.string { data := #[48, 49, 50, 51, 52, 53, 54, 55, 56, 57, 97, 98, 99, 100, 101, 102] })) (Operand.tmp 24), type := 5, pos := "digest.go:95", after := #[{ on := 9, ground := Ground.data }], guard := none }) (v := ?_) rfl (by kernel_rfl) (by kernel_rfl) (by kernel_rfl) (fun _ _ _ h => h) (Or.inl ⟨by rfl, ?_⟩) ?_
        rotate_left
        · intro w; go_simp <;> with_reducible rfl
        try simp only [Act.put, List.setIfInBounds_toArray, List.set_cons_zero, List.set_cons_succ]
        refine wpAny_ready (rs := [11]) (by kernel_rfl) (by simp) ?_
        refine AllReady.cons (i := 11) (o := { dst := some 26, op := Op.buildSlice 48 2 #[(0, Operand.tmp 20), (1, Operand.tmp 25)], type := 48, pos := "digest.go:95", after := #[{ on := 5, ground := Ground.data }, { on := 10, ground := Ground.data }], guard := none }) rfl (fun K hK => ?_) ?_
        rw [if_pos (by rfl)]
        · go_simp
          refine hK _ _ ?_
          clear hK K
          try simp only [Act.put, List.setIfInBounds_toArray, List.set_cons_zero, List.set_cons_succ]
          refine wpAny_ready (rs := [12]) (by kernel_rfl) (by simp) ?_
          refine AllReady.cons (i := 12) (o := { dst := some 27, op := Op.call { callee := Callee.builtin Builtin.append, args := #[Operand.tmp 15, Operand.tmp 26], argTypes := #[48, 48] }, type := 48, pos := "digest.go:95", after := #[{ on := 0, ground := Ground.data }, { on := 11, ground := Ground.data }], guard := none }) rfl (fun K hK => ?_) ?_
          rw [if_pos (by rfl)]
          · refine wp_append_fits (.tmp 15) (.tmp 26) 48 rfl w.heap.size 5 i0 1 U48 hi hz1 w.heap.size (2 * i) 64 _ rfl ((HO.out.alloc _).drew) ⟨wr.heap.size, 0, none⟩ 2 2 [.int .u8 (hx (b / 16)), .int .u8 (hx (b % 16))] rfl rfl (by
                intro t u ht
                match t, ht with
                | 0, ht => simp at ht; subst ht; simp [Addr.add]
                | 1, ht => simp at ht; subst ht; simp [Addr.add]) (by intro u hu; simp at hu; rcases hu with rfl | rfl <;> rfl) (by omega) ?_
            intro w5 own5 grow5
            refine hK _ _ ?_
            clear hK K
            try simp only [Act.put, List.setIfInBounds_toArray, List.set_cons_zero, List.set_cons_succ]
            refine wpAny_ready (rs := [13]) (by kernel_rfl) (by simp) ?_
            refine AllReady.cons (i := 13) (o := { dst := some 4, op := Op.assign (Operand.tmp 27), type := 48, pos := "digest.go:95", after := #[{ on := 12, ground := Ground.data }, { on := 12, ground := Ground.chain }, { on := 0, ground := Ground.phase }, { on := 1, ground := Ground.phase }, { on := 2, ground := Ground.phase }, { on := 3, ground := Ground.phase }, { on := 4, ground := Ground.phase }, { on := 5, ground := Ground.phase }, { on := 6, ground := Ground.phase }, { on := 7, ground := Ground.phase }, { on := 8, ground := Ground.phase }, { on := 9, ground := Ground.phase }, { on := 10, ground := Ground.phase }, { on := 11, ground := Ground.phase }, { on := 12, ground := Ground.phase }], guard := none }) rfl (fun K hK => ?_) ?_
            rw [if_pos (by rfl)]
            · go_simp
              refine hK _ _ ?_
              clear hK K
              try simp only [Act.put, List.setIfInBounds_toArray, List.set_cons_zero, List.set_cons_succ]
              refine wpAny_done (by kernel_rfl) ?_ _
              have e1 : IntKind.i64.wrap ((i : Int) + 1) = (i : Int) + 1 := IntWalk.i64_in _ ⟨by omega, by omega⟩
              have B5 := ((HB'.out.alloc HB'.out.size (.cells #[Value.int .u8 (hx (b / 16)), Value.int .u8 (hx (b % 16))] 5)).drew).grown grow5 (by have := HB'.out.size; simp; omega) (fun k hk => by cases hk; exact Nat.le_refl _)
              rw [hex_more s i b (by have := HS.out; omega) HBB.out] at own5
              clear HB' HO grow5
              go_wp2_with fail
              go_roundw
              case rel => exact ⟨i + 1, by omega, rfl, by go_num, own5, B5⟩
              case measure => simp [intOf]; omega
            exact AllReady.nil
          exact AllReady.nil
        exact AllReady.nil
      · obtain rfl : i = 32 := by omega
        have hconv : (convert 48 9 (.slice (some ⟨w.heap.size, 0, none⟩) 64 64)).run Tryd.prog wr = .ok (.string (hexS s)) wr :=
          conv_own wr 64 64 _ U48 (by
            rw [hexU_len, Array.length_toList, show s.data.size = 32 from hs]) (by rw [List.take_of_length_le (by rw [Array.length_toList, show s.data.size = 32 from hs]; exact Nat.le_refl _)] at own; exact own)
        go_wp2_with fail
        go_ret2
        exact ⟨.inr ⟨hs, rfl⟩, B⟩
  · have hs1 : ((s.size : Int) != 32) = true := by simp; omega
    go_wp2_with fail
    go_ret2
    exact ⟨.inl ⟨hs, rfl⟩, Below.refl _ _⟩
end Go.Proofs.YtfjbchmneojgaaaDoor
