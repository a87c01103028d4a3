/- The contract of (*Hash).Sum, Write of one string, New, and Sum of a short string. -/
import Derived.Test.YtfjbchmneojgaaaDoorTake
import Derived.OwnWalk
import Derived.Laws.IdiomStrings
namespace Go.Proofs.YtfjbchmneojgaaaDoor
open Go.RowKit

/-- Byte i of the digest of a state. -/
def dgB (F : Nat → BitVec 64) (i : Nat) : Nat := (F (i / 8) >>> (8 * (i % 8))).toNat % 256
def digL (F : Nat → BitVec 64) (k : Nat) : List Value := (List.range k).map fun i => Value.int .u8 (dgB F i)
theorem digL_snoc (F : Nat → BitVec 64) (k : Nat) : digL F (k + 1) = digL F k ++ [Value.int .u8 (dgB F k)] := by unfold digL; rw [List.range_succ, List.map_append]; rfl
theorem digL_len (F : Nat → BitVec 64) (k : Nat) : (digL F k).length = k := by simp [digL]

theorem dgB_lt (F : Nat → BitVec 64) (i : Nat) : dgB F i < 256 := Nat.mod_lt _ (by decide)
def digU (F : Nat → BitVec 64) (k : Nat) : List UInt8 := (List.range k).map fun i => UInt8.ofNat (dgB F i)
theorem digU_len (F : Nat → BitVec 64) (k : Nat) : (digU F k).length = k := by simp [digU]
def digS (F : Nat → BitVec 64) : ByteArray := ⟨(digU F 32).toArray⟩
theorem digL_get (F : Nat → BitVec 64) (k j : Nat) (hj : j < k) : (digL F k)[j]? = some (.int .u8 (((digU F k)[j]'(by rw [digU_len]; exact hj)).toNat : Int)) := by
  simp only [digL, digU, List.getElem?_map, List.getElem_map, List.getElem_range]
  rw [List.getElem?_range hj]
  simp only [Option.map_some, UInt8.toNat_ofNat']
  rw [Nat.mod_eq_of_lt (dgB_lt F j)]

/-- What stays in the hash while Sum runs. -/
def Hs (f : Nat → BitVec 64) (g n : Nat) (w : World) : Prop := w.rangeAt g 0 (vecL 25 f) ∧ w.cell? ⟨g, 25, none⟩ = some (.int .i64 n)
theorem HR.hs {w : World} {g n : Nat} {f : Nat → BitVec 64} (h : HR w g f n) : Hs f g n w := ⟨h.s, h.c⟩

set_option maxRecDepth 100000 in
set_option maxHeartbeats 400000 in
theorem HSum_any (f : Nat → BitVec 64) (n g : Nat) (w : World) (hT : Tabs w) (hR : HR w g f n) :
    Calls Tryd.prog 20 #[.pointer (some ⟨g, 0, none⟩)] w fun e w' => e = .returned (.string (digS (perm (put (put f (n % 136) 6) 135 128) 24))) ∧ Below w.heap.size w w' := by
  have U := Tryd.underlying23
  have I := infoL f
  obtain ⟨p, hp⟩ : ∃ p, p = n % 136 := ⟨_, rfl⟩
  have p1 : p < 136 := by omega
  have q1 : (n : Int).tmod 136 = (p : Int) := by rw [Int.tmod_eq_emod_of_nonneg (by omega)]; omega
  have q2 : (n : Int) % 136 = (p : Int) := by omega
  have q3 : IntKind.i64.wrap (p : Int) = (p : Int) := IntWalk.i64_in _ ⟨by omega, by omega⟩
  have HP := Lib.hid hp
  clear hp
  go_enter Tryd.func20, Tryd.ntmps20
  go_upto_region 1 with (fail)
  go_cut [3] (fun s wx => ∃ h : Nat, s = .pointer (some ⟨h, 0, none⟩) ∧ Row wx h 23 (vec 25 (put f p 6)) ∧ w.heap.size ≤ h ∧ h < wx.heap.size ∧ Below w.heap.size w wx)
  case first =>
    refine wp_region_held_drew (S := fun w' => w'.rangeAt g 0 (vecL 25 f) ∧ w'.cell? ⟨g, 25, none⟩ = some (.int .i64 n)) (by kernel_rfl) hR.drew.hs (fun hS => ?_)
    refine wpAnyH_take (i := 0) (oi := { dst := some 6, op := Op.move (Operand.tmp 0), type := 35, pos := "digest.go:189", after := #[], guard := none }) (v := ?_) rfl (by kernel_rfl) (by kernel_rfl) (by kernel_rfl) (fun _ _ _ h => h) (Or.inl ⟨by rfl, ?_⟩) (by assumption) ?_
    rotate_left
    · intro w hSw; (try dsimp only at hSw); go_simp <;> with_reducible rfl
    try simp only [Act.put, List.setIfInBounds_toArray, List.set_cons_zero, List.set_cons_succ]
    refine wpAnyH_take (i := 1) (oi := { dst := some 7, op := Op.nilCheck (Operand.tmp 6), type := 0, pos := "digest.go:189", after := #[{ on := 0, ground := Ground.data }], guard := none }) (v := ?_) rfl (by kernel_rfl) (by kernel_rfl) (by kernel_rfl) (fun _ _ _ h => h) (Or.inl ⟨by rfl, ?_⟩) (by assumption) ?_
    rotate_left
    · intro w hSw; (try dsimp only at hSw); go_simp <;> with_reducible rfl
    try simp only [Act.put, List.setIfInBounds_toArray, List.set_cons_zero, List.set_cons_succ]
    refine wpAnyH_take (i := 2) (oi := { dst := some 8, op := Op.fieldAddr 54 (Operand.tmp 7) 0, type := 0, pos := "digest.go:189", after := #[{ on := 1, ground := Ground.data }], guard := none }) (v := ?_) rfl (by kernel_rfl) (by kernel_rfl) (by kernel_rfl) (fun _ _ _ h => h) (Or.inl ⟨by rfl, ?_⟩) (by assumption) ?_
    rotate_left
    · intro w hSw; (try dsimp only at hSw); go_simp <;> with_reducible rfl
    try simp only [Act.put, List.setIfInBounds_toArray, List.set_cons_zero, List.set_cons_succ]
    refine' wpAnyH_take (i := 3) (oi := { dst := some 9, op := Op.load 23 (Operand.tmp 8), type := 23, pos := "digest.go:189", after := #[{ on := 2, ground := Ground.data }], guard := none }) (v := _) rfl (by kernel_rfl) (by kernel_rfl) (by kernel_rfl) (fun _ _ _ h => h) (yieldsIf_load_mid (by rfl) _ _ rfl _ _ rfl _ _ (fun w hw => hw.1) U rfl I) (by assumption) ?_
    try simp only [Act.put, List.setIfInBounds_toArray, List.set_cons_zero, List.set_cons_succ]
    refine wpAnyH_take (i := 4) (oi := { dst := some 10, op := Op.move (Operand.tmp 0), type := 35, pos := "digest.go:189", after := #[], guard := none }) (v := ?_) rfl (by kernel_rfl) (by kernel_rfl) (by kernel_rfl) (fun _ _ _ h => h) (Or.inl ⟨by rfl, ?_⟩) (by assumption) ?_
    rotate_left
    · intro w hSw; (try dsimp only at hSw); go_simp <;> with_reducible rfl
    try simp only [Act.put, List.setIfInBounds_toArray, List.set_cons_zero, List.set_cons_succ]
    refine wpAnyH_take (i := 5) (oi := { dst := some 11, op := Op.nilCheck (Operand.tmp 10), type := 0, pos := "digest.go:189", after := #[{ on := 4, ground := Ground.data }], guard := none }) (v := ?_) rfl (by kernel_rfl) (by kernel_rfl) (by kernel_rfl) (fun _ _ _ h => h) (Or.inl ⟨by rfl, ?_⟩) (by assumption) ?_
    rotate_left
    · intro w hSw; (try dsimp only at hSw); go_simp <;> with_reducible rfl
    try simp only [Act.put, List.setIfInBounds_toArray, List.set_cons_zero, List.set_cons_succ]
    refine wpAnyH_take (i := 6) (oi := { dst := some 12, op := Op.fieldAddr 54 (Operand.tmp 11) 1, type := 0, pos := "digest.go:189", after := #[{ on := 5, ground := Ground.data }], guard := none }) (v := ?_) rfl (by kernel_rfl) (by kernel_rfl) (by kernel_rfl) (fun _ _ _ h => h) (Or.inl ⟨by rfl, ?_⟩) (by assumption) ?_
    rotate_left
    · intro w hSw; (try dsimp only at hSw); go_simp <;> with_reducible rfl
    try simp only [Act.put, List.setIfInBounds_toArray, List.set_cons_zero, List.set_cons_succ]
    refine wpAnyH_take (i := 7) (oi := { dst := some 13, op := Op.load 3 (Operand.tmp 12), type := 3, pos := "digest.go:189", after := #[{ on := 6, ground := Ground.data }], guard := none }) (v := ?_) rfl (by kernel_rfl) (by kernel_rfl) (by kernel_rfl) (fun _ _ _ h => h) (Or.inl ⟨by rfl, ?_⟩) (by assumption) ?_
    rotate_left
    · intro w hSw; (try dsimp only at hSw); go_simp <;> with_reducible rfl
    try simp only [Act.put, List.setIfInBounds_toArray, List.set_cons_zero, List.set_cons_succ]
    refine wpAnyH_take (i := 8) (oi := { dst := some 14, op := Op.binOp BinOp.rem 3 (Operand.tmp 13) (Operand.const (Value.int IntKind.i64 136)) 3, type := 3, pos := "digest.go:189", after := #[{ on := 7, ground := Ground.data }], guard := none }) (v := ?_) rfl (by kernel_rfl) (by kernel_rfl) (by kernel_rfl) (fun _ _ _ h => h) (Or.inl ⟨by rfl, ?_⟩) (by assumption) ?_
    rotate_left
    · intro w hSw; (try dsimp only at hSw); go_simp <;> with_reducible rfl
    try simp only [Act.put, List.setIfInBounds_toArray, List.set_cons_zero, List.set_cons_succ]
    refine wpAnyH_ready (rs := [9, 10]) (by kernel_rfl) (by simp) ?_
    refine AllReadyH.cons (i := 9) (o := { dst := some 15, op := Op.call { callee := Callee.value (Operand.func 29), args := #[Operand.tmp 9, Operand.tmp 14, Operand.const (Value.int IntKind.u8 6)], argTypes := #[23, 3, 5] }, type := 23, pos := "digest.go:189", after := #[{ on := 3, ground := Ground.data }, { on := 8, ground := Ground.data }], guard := none }) rfl (fun K hK => ?_) ?_
    rw [if_pos (by rfl)]
    · go_simp
      refine (withByte_L f p 6 _ p1 (by decide)).mono ?_
      rintro e w1 ⟨rfl, hb1⟩
      have B1 := (Below.refl w.heap.size w).drew.trans (show Below w.heap.size w.drew w1 from hb1)
      have F1 := hR.drew.below (show Below w.drew.heap.size w.drew w1 from hb1)
      refine Shut.out hK _ _ F1.hs (fun _hS => ?_)
      clear hK K
      try simp only [Act.put, List.setIfInBounds_toArray, List.set_cons_zero, List.set_cons_succ]
      refine wpAnyH_ready (rs := [10]) (by kernel_rfl) (by simp) ?_
      refine AllReadyH.cons (i := 10) (o := { dst := some 3, op := Op.alloc 23, type := 0, pos := "digest.go:189", after := #[], guard := none }) rfl (fun K hK => ?_) ?_
      rw [if_pos (by rfl)]
      · go_simp
        rw [zero25]
        have R2 := Row.new w1 23 (vec 25 fun _ => 0)
        have F2 := F1.below ((Below.refl _ _).alloc (Nat.le_refl _) (.cells (vec 25 fun _ => 0) 23))
        have B2 := B1.alloc B1.size (.cells (vec 25 fun _ => 0) 23)
        have l1 := B1.size
        refine Shut.out hK _ _ F2.hs (fun _hS => ?_)
        clear hK K
        try simp only [Act.put, List.setIfInBounds_toArray, List.set_cons_zero, List.set_cons_succ]
        refine wpAnyH_ready (rs := [11]) (by kernel_rfl) (by simp) ?_
        refine AllReadyH.cons (i := 11) (o := { dst := none, op := Op.store 23 (Operand.tmp 3) (Operand.tmp 15), type := 0, pos := "digest.go:189", after := #[{ on := 10, ground := Ground.data }, { on := 9, ground := Ground.data }, { on := 9, ground := Ground.chain }, { on := 0, ground := Ground.phase }, { on := 1, ground := Ground.phase }, { on := 2, ground := Ground.phase }, { on := 3, ground := Ground.phase }, { on := 4, ground := Ground.phase }, { on := 5, ground := Ground.phase }, { on := 6, ground := Ground.phase }, { on := 7, ground := Ground.phase }, { on := 8, ground := Ground.phase }, { on := 9, ground := Ground.phase }, { on := 10, ground := Ground.phase }], guard := none }) rfl (fun K hK => ?_) ?_
        rw [if_pos (by rfl)]
        · refine wp_store_row 23 _ _ rfl _ (vec 25 (put f p 6)) rfl rfl 23 _ R2 (info25 _) (same_size _ _ _) (vec_one _ _) ?_
          have F3 := F1.below (below_setRow ((Below.refl w1.heap.size w1).alloc (Nat.le_refl _) (.cells (vec 25 fun _ => 0) 23)) (Nat.le_refl _) (vec 25 (put f p 6)))
          refine Shut.out hK _ _ F3.hs (fun _hS => ?_)
          clear hK K
          try simp only [Act.put]
          refine wpAnyH_done (by kernel_rfl) ?_ _
          go_wp2_with fail
          go_meet
          exact ⟨_, rfl, R2.setRow _, l1, by rw [size_setRow]; simp, below_setRow B2 l1 _⟩
        exact AllReadyH.nil
      exact AllReadyH.nil
    refine AllReadyH.cons (i := 10) (o := { dst := some 3, op := Op.alloc 23, type := 0, pos := "digest.go:189", after := #[], guard := none }) rfl (fun K hK => ?_) ?_
    rw [if_pos (by rfl)]
    · go_simp
      rw [zero25]
      have R2 := (Row.new w 23 (vec 25 fun _ => 0)).drew
      have F2 := (hR.below ((Below.refl _ _).alloc (Nat.le_refl _) (.cells (vec 25 fun _ => 0) 23))).drew
      have B2 := ((Below.refl w.heap.size w).alloc (Nat.le_refl _) (.cells (vec 25 fun _ => 0) 23)).drew
      have l2 : w.heap.size < (w.alloc (.cells (vec 25 fun _ => 0) 23)).drew.heap.size := by simp
      generalize (w.alloc (.cells (vec 25 fun _ => 0) 23)).drew = w2 at R2 F2 B2 l2 ⊢
      refine Shut.out hK _ _ F2.hs (fun _hS => ?_)
      clear hK K
      try simp only [Act.put, List.setIfInBounds_toArray, List.set_cons_zero, List.set_cons_succ]
      refine wpAnyH_ready (rs := [9]) (by kernel_rfl) (by simp) ?_
      refine AllReadyH.cons (i := 9) (o := { dst := some 15, op := Op.call { callee := Callee.value (Operand.func 29), args := #[Operand.tmp 9, Operand.tmp 14, Operand.const (Value.int IntKind.u8 6)], argTypes := #[23, 3, 5] }, type := 23, pos := "digest.go:189", after := #[{ on := 3, ground := Ground.data }, { on := 8, ground := Ground.data }], guard := none }) rfl (fun K hK => ?_) ?_
      rw [if_pos (by rfl)]
      · go_simp
        refine (withByte_L f p 6 _ p1 (by decide)).mono ?_
        rintro e w3 ⟨rfl, hb3⟩
        have F3 := F2.below hb3
        have R3 := R2.below hb3 l2
        have B3 := B2.trans (hb3.mono B2.size)
        refine Shut.out hK _ _ F3.hs (fun _hS => ?_)
        clear hK K
        try simp only [Act.put, List.setIfInBounds_toArray, List.set_cons_zero, List.set_cons_succ]
        refine wpAnyH_ready (rs := [11]) (by kernel_rfl) (by simp) ?_
        refine AllReadyH.cons (i := 11) (o := { dst := none, op := Op.store 23 (Operand.tmp 3) (Operand.tmp 15), type := 0, pos := "digest.go:189", after := #[{ on := 10, ground := Ground.data }, { on := 9, ground := Ground.data }, { on := 9, ground := Ground.chain }, { on := 0, ground := Ground.phase }, { on := 1, ground := Ground.phase }, { on := 2, ground := Ground.phase }, { on := 3, ground := Ground.phase }, { on := 4, ground := Ground.phase }, { on := 5, ground := Ground.phase }, { on := 6, ground := Ground.phase }, { on := 7, ground := Ground.phase }, { on := 8, ground := Ground.phase }, { on := 9, ground := Ground.phase }, { on := 10, ground := Ground.phase }], guard := none }) rfl (fun K hK => ?_) ?_
        rw [if_pos (by rfl)]
        · refine wp_store_row 23 _ _ rfl _ (vec 25 (put f p 6)) rfl rfl 23 _ R3 (info25 _) (same_size _ _ _) (vec_one _ _) ?_
          have F4 := F3.same (w' := w3.setRow w.heap.size (vec 25 (put f p 6))) ((below_setRow (B := w.heap.size) (Below.refl w.heap.size w3) (Nat.le_refl _) _).block g hR.lt) (by rw [size_setRow]; exact Nat.le_refl _)
          refine Shut.out hK _ _ F4.hs (fun _hS => ?_)
          clear hK K
          try simp only [Act.put]
          refine wpAnyH_done (by kernel_rfl) ?_ _
          go_wp2_with fail
          go_meet
          exact ⟨_, rfl, R3.setRow _, Nat.le_refl _, by rw [size_setRow]; exact Nat.lt_of_lt_of_le l2 hb3.size, below_setRow B3 (Nat.le_refl _) _⟩
        exact AllReadyH.nil
      exact AllReadyH.nil
    exact AllReadyH.nil
  case rest =>
    obtain ⟨h, rfl, R, h1, h2, hB⟩ := hcut
    clear hR I q1 q2 q3
    go_wp2_with (refine wpList_load_row rfl 23 _ rfl _ rfl _ _ _ _ R U rfl (info25 _) ?_)
    refine (withByte_any _ 135 128 _ (by decide) (by decide)).mono ?_; rintro e w1 ⟨rfl, hb1⟩
    go_wp2_with fail
    have hT1 : Tabs w1 := (hT.below hB).below hb1
    refine (Permute_any _ _ hT1).mono ?_; rintro e w2 ⟨rfl, hb2⟩
    have R2 := (R.below hb1 h2).below (hb2.mono hb1.size) h2
    have B2 := (hB.trans (hb1.mono hB.size)).trans (hb2.mono (Nat.le_trans hB.size hb1.size))
    have l2 : h < w2.heap.size := Nat.lt_of_lt_of_le (Nat.lt_of_lt_of_le h2 hb1.size) hb2.size
    generalize hF : perm (put (put f p 6) 135 128) 24 = F
    have R3 := R2.setRow (vec 25 F)
    have B3 := below_setRow B2 h1 (vec 25 F)
    have l3 : h < (w2.setRow h (vec 25 F)).heap.size := by rw [size_setRow]; exact l2
    have U48 : Tryd.prog.underlying 48 = some (.slice 5) := by kernel_rfl
    obtain ⟨i0, hi, hz0, hz1, hz2⟩ := info_parts (P := Tryd.prog) (e := 5) (z := .int .u8 0) (size := 1) (bytes := 1) (by kernel_rfl)
    go_wp2_with (first
      | (refine wpList_store_row rfl 23 _ _ rfl _ _ rfl rfl _ _ R2 (info25 _) (same_size _ _ _) (vec_one _ _) ?_)
      | (at_make; refine wpList_make_own _ rfl _ _ 48 rfl w.heap.size 5 i0 (.int .u8 0) 1 U48 hi hz0 hz1 _ _ _ 32 rfl rfl rfl (by rw [hz2]; decide) (by decide) B3.size ?_))
    intro w4 own4 grow4
    have hG : h < w2.heap.size := l2
    have R4 : Row w4 h 23 (vec 25 F) := (grow4.block h l3 (fun e => by cases e)).trans R3
    have B4 := B3.grown grow4 B3.size (fun k hk => by cases hk)
    generalize w2.heap.size = G at own4 hG ⊢
    clear R3 B3 l3 R2 B2 l2 R hB h2 hb1 hb2 hT1 grow4
    go_wp2_with fail
    go_loopw [4, 20] (fun sd si wr => ∃ i : Nat, i ≤ 32 ∧ sd = .slice (some ⟨G, 0, none⟩) i 32 ∧ si = .int .i64 i ∧ wr.ownsRow w.heap.size 5 1 (.slice (some ⟨G, 0, none⟩) i 32) i (digL F i) ∧ Row wr h 23 (vec 25 F) ∧ Below w.heap.size w wr)
      (fun _ si _ => 32 - (intOf si).toNat)
    case atStart => exact ⟨0, by omega, rfl, rfl, own4, R4, B4⟩
    case round =>
      obtain ⟨i, hi32, rfl, rfl, own, R, B⟩ := hrel
      clear own4 R4 B4
      by_cases hlt : i < 32
      · have y0 := R.cell (i := i / 8) (by omega)
        have q1 : (i : Int).tdiv 8 = (i : Int) / 8 := Int.tdiv_eq_ediv_of_nonneg (by omega)
        have q2 : IntKind.i64.wrap ((i : Int) / 8) = (i : Int) / 8 := IntWalk.i64_in _ ⟨by omega, by omega⟩
        have q3 : ((i : Int) / 8).toNat = i / 8 := by omega
        have q4 : 0 ≤ (i : Int) / 8 := by omega
        have q5 : (i : Int) / 8 < 25 := by omega
        have r1 : (i : Int).tmod 8 = (i : Int) % 8 := Int.tmod_eq_emod_of_nonneg (by omega)
        have r2 : IntKind.i64.wrap ((i : Int) % 8) = (i : Int) % 8 := IntWalk.i64_in _ ⟨by omega, by omega⟩
        have r3 : IntKind.i64.wrap (8 * ((i : Int) % 8)) = 8 * ((i : Int) % 8) := IntWalk.i64_in _ ⟨by omega, by omega⟩
        have r4 : 0 ≤ 8 * ((i : Int) % 8) := by omega
        have r5 : 8 * ((i : Int) % 8) ≤ 64 := by omega
        have r6 : (8 * ((i : Int) % 8)).toNat = 8 * (i % 8) := by omega
        have HR' := Lib.hid R
        have HB' := Lib.hid B
        have HO := Lib.hid own
        clear R B own
        have v1 : IntKind.u8.wrap (wd (F (i / 8)) / 2 ^ (8 * (i % 8))) = (dgB F i : Int) := by
          rw [wd_shr, show IntKind.u8.wrap (wd (F (i / 8) >>> (8 * (i % 8)))) = wd (F (i / 8) >>> (8 * (i % 8))) % 256 from IntKind.wrap_u8 _]
          unfold dgB wd; push_cast; rfl
        go_wp2_with (at_builtin; refine wpList_append_fits _ rfl (.tmp 23) (.tmp 33) 48 rfl w.heap.size 5 i0 1 U48 hi hz1 G i 32 _ rfl (HO.out.alloc _) ⟨wr.heap.size, 0, none⟩ 1 1 [.int .u8 (dgB F i)] rfl rfl (by intro t u ht; match t, ht with | 0, ht => simp at ht; subst ht; simp [Addr.add]) (by intro u hu; simp at hu; subst hu; rfl) (by omega) ?_)
        intro w5 own5 grow5
        have e1 : IntKind.i64.wrap ((i : Int) + 1) = (i : Int) + 1 := IntWalk.i64_in _ ⟨by omega, by omega⟩
        have hGw : G < wr.heap.size := by
          have o := HO.out.2
          rcases o with ⟨e, _⟩ | ⟨g', cap', cur, e, _, hg, _⟩
          · simp at e
          · simp only [Value.slice.injEq, Option.some.injEq, Addr.mk.injEq, and_true, true_and] at e
            obtain ⟨rfl, rfl⟩ := e
            exact (Array.getElem?_eq_some_iff.1 hg).1
        have hhw : h < wr.heap.size := Nat.lt_trans hG hGw
        have R5 : Row w5 h 23 (vec 25 F) := (grow5.block h (by simp; omega) (fun e => by have := Option.some.inj e; omega)).trans (HR'.out.alloc _)
        have B5 := (HB'.out.alloc HB'.out.size (.cells #[Value.int .u8 (dgB F i)] 5)).grown grow5 (by have := HB'.out.size; simp; omega) (fun k hk => by cases hk; omega)
        rw [← digL_snoc] at own5
        clear HR' HB' HO grow5
        go_wp2_with fail
        go_roundw
        case rel => exact ⟨i + 1, by omega, rfl, by go_num, own5, R5, B5⟩
        case measure => simp [intOf]; omega
      · obtain rfl : i = 32 := by omega
        have hconv : (convert 48 9 (.slice (some ⟨G, 0, none⟩) 32 32)).run Tryd.prog wr = .ok (.string (digS F)) wr := by
          have h := run_convert_bytes_back (P := Tryd.prog) wr 48 9 5 ⟨G, 0, none⟩ 32 (digU F 32) U48 (by kernel_rfl) (by kernel_rfl) (fun j hj => by
            rw [digU_len] at hj
            have := own.cellAt j (by omega)
            rw [show (⟨G, 0, none⟩ : Addr).add j = ⟨G, j, none⟩ from by simp [Addr.add]; omega, this, digL_get F 32 j hj])
          rw [digU_len] at h
          exact h
        go_wp2_with fail
        go_ret
        exact ⟨by rw [← HP.out, hF]; rfl, B⟩
end Go.Proofs.YtfjbchmneojgaaaDoor
