/- '==' of states; DigestDiffers. -/
import Derived.Test.YtfjbchmneojgaaaDoorInj
import Derived.DeepKeys
namespace Go.Proofs.YtfjbchmneojgaaaDoor
open Go.RowKit

theorem mapM_some {α β : Type} {F : α → Option β} {G : α → β} : ∀ l : List α, (∀ i ∈ l, F i = some (G i)) → l.mapM F = some (l.map G)
  | [], _ => rfl
  | a :: r, h => by
    rw [List.mapM_cons, h a (by simp), mapM_some r (fun i hi => h i (by simp [hi]))]; rfl
theorem lits_vec (f : Nat → BitVec 64) : Tryd.prog.keyLits 2 23 (vecL 25 f) = some ((List.range 25).map fun i => Lit.int .u64 (wd (f i))) := by
  have U := Tryd.underlying23
  have U2 : Tryd.prog.underlying 22 = some (.int .u64) := by kernel_rfl
  have c1 : Tryd.prog.cellsOf 22 = 1 := by kernel_rfl
  have c2 : Tryd.prog.cellsOf 23 = 25 := by kernel_rfl
  have F : ∀ i ∈ List.range 25, Tryd.prog.keyLits 1 22 (((vecL 25 f).drop (i * 1)).take 1) = some [Lit.int .u64 (wd (f i))] := fun i hi => by
    have hl := List.mem_range.1 hi
    have e : ((vecL 25 f).drop (i * 1)).take 1 = [Value.int .u64 (wd (f i))] := by
      rw [Nat.mul_one, List.drop_eq_getElem_cons (by rw [vecL_len]; exact hl), List.take_succ_cons, List.take_zero]
      simp [vecL]
    have b := wd_bd (f i)
    have wf : (Lit.int .u64 (wd (f i))).wf = true := by
      simp [Lit.wf, IntKind.min, IntKind.max, IntKind.signed, IntKind.bits]; omega
    rw [e]
    unfold Program.keyLits
    simp only [U2]
    rw [if_pos ⟨trivial, wf⟩]
  unfold Program.keyLits
  simp only [U, c1, c2]
  rw [if_pos (vecL_len 25 f), mapM_some _ F]
  simp only [Option.map_some]
  congr 1
theorem eq_vec (f g : Nat → BitVec 64) : ∃ r : Bool, (∀ w : World, (Op.equalIn 10000 23 (.agg (vec 25 f)) (.agg (vec 25 g))).run Tryd.prog w = .ok r w) ∧ (r = true ↔ Same f g) := by
  have K := run_equalIn_deep (P := Tryd.prog) 9998 2 23 (by kernel_rfl)
  have fm : ∀ h : Nat → BitVec 64, (Value.agg (vec 25 h)).formed Tryd.prog 23 = true := fun h => by
    unfold Value.formed
    rw [Tryd.underlying23]
    simp only [vec_size]
    kernel_rfl
  have lf := lits_vec f
  have lg := lits_vec g
  rw [← vec_list] at lf lg
  have one : ∀ w : World, ∃ r : Bool, (Op.equalIn 10000 23 (.agg (vec 25 f)) (.agg (vec 25 g))).run Tryd.prog w = .ok r w ∧ (r = true ↔ Same f g) := fun w => by
    obtain ⟨r, h1, h2⟩ := K w 2 2 _ _ _ _ (fm f) (fm g) lf lg
    refine ⟨r, h1, h2.trans ⟨fun e i hi => ?_, fun e => ?_⟩⟩
    · have := congrArg (fun l => l[i]?) e
      simp only [List.getElem?_map, List.getElem?_range hi, Option.map_some] at this
      injection this with this
      injection this with _ this
      exact wd_inj this
    · apply List.map_congr_left
      intro i hi
      rw [e i (List.mem_range.1 hi)]
  by_cases s : Same f g
  · exact ⟨true, fun w => by obtain ⟨r, h1, h2⟩ := one w; rw [h1, h2.2 s], by simp [s]⟩
  · exact ⟨false, fun w => by
      obtain ⟨r, h1, h2⟩ := one w
      have : r = false := by cases r; rfl; exact absurd (h2.1 rfl) s
      rw [h1, this], by simp [s]⟩

theorem row_if {S : World → Prop} {ops : Array Oper} {op : Oper} {a : Act} {g : Nat} {f : Nat → BitVec 64} (hS : ∀ w, S w → Row w g 23 (vec 25 f)) (hw : Region.wanted op (yielded ops a.tmps) = true) (x : Operand) (ho : op.op = .load 23 x)
    (hx : a.eval x = .pointer (some ⟨g, 0, none⟩)) : YieldsIf Tryd.prog ops S op (.agg (vec 25 f)) a :=
  (yields_row hw x ho hx).imp (fun ⟨p, q⟩ => ⟨p, fun w h => q w (hS w h)⟩) id
set_option maxRecDepth 100000 in
set_option maxHeartbeats 1000000 in
theorem law_differs (f g : Nat → BitVec 64) (w : World) (hT : Tabs w) :
    Calls Tryd.prog 6 #[.agg (vec 25 f), .agg (vec 25 g)] w fun e w' => e = .returned (.bool true) ∧ Below w.heap.size w w' := by
  obtain ⟨r1, q1, i1⟩ := eq_vec (perm f 24) (perm g 24)
  obtain ⟨r2, q2, i2⟩ := eq_vec f g
  have er : r1 = r2 := by
    rw [Bool.eq_iff_iff, i1, i2]
    exact ⟨perm_inj 24, fun h => perm_same h 24⟩
  subst er
  clear i1 i2
  go_enter Tryd.func6, Tryd.ntmps6
  go_upto_region 1 with (fail)
  generalize hW : (w.alloc (.cells (vec 25 f) 23)).alloc (.cells (vec 25 g) 23) = W0
  have R0 : Row W0 w.heap.size 23 (vec 25 f) := by rw [← hW]; exact (Row.new _ _ _).alloc _
  have R1 : Row W0 (w.heap.size + 1) 23 (vec 25 g) := by rw [← hW]; exact Row.new1 _ _ _ (by simp)
  have B0 : Below w.heap.size w W0 := by rw [← hW]; go_grown
  have l0 : w.heap.size + 1 < W0.heap.size := by rw [← hW]; simp
  clear hW
  refine wp_region_held_drew (S := fun w' => Row w' w.heap.size 23 (vec 25 f) ∧ Row w' (w.heap.size + 1) 23 (vec 25 g)) (by kernel_rfl) ⟨R0, R1⟩ (fun hS => ?_)
  refine wpAnyH_ready (rs := [0]) (by kernel_rfl) (by simp) ?_
  refine AllReadyH.cons (i := 0) (o := { dst := some 5, op := Op.call { callee := Callee.value (Operand.func 10), args := #[], argTypes := #[] }, type := 4, pos := "law.go:44", after := #[], guard := none }) rfl (fun K hK => ?_) ?_
  rw [if_pos (by rfl)]
  · go_simp
    refine (awake_any W0.drew (hT.below B0.drew)).mono ?_
    rintro e w1 ⟨rfl, b1⟩
    have b1' : Below W0.heap.size W0 w1 := (Below.refl W0.heap.size W0).drew.trans (show Below W0.heap.size W0.drew w1 from b1)
    have B1 := B0.trans (b1'.mono B0.size)
    have l1 : w.heap.size + 1 < w1.heap.size := Nat.lt_of_lt_of_le l0 b1'.size
    have S1 : Row w1 w.heap.size 23 (vec 25 f) ∧ Row w1 (w.heap.size + 1) 23 (vec 25 g) := ⟨R0.below b1' (by omega), R1.below b1' l0⟩
    refine Shut.out hK _ _ S1 (fun _hS => ?_)
    clear hK K
    try simp only [Act.put, List.setIfInBounds_toArray, List.set_cons_zero, List.set_cons_succ]
    refine wpAnyH_take (i := 1) (oi := { dst := some 6, op := Op.move (Operand.tmp 5), type := 4, pos := "law.go:44", after := #[{ on := 0, ground := Ground.data }, { on := 0, ground := Ground.chain }], guard := none }) (v := ?_) rfl (by kernel_rfl) (by kernel_rfl) (by kernel_rfl) (fun _ _ _ h => h) (Or.inl ⟨by rfl, ?_⟩) (by assumption) ?_
    rotate_left
    · intro w hSw; (try dsimp only at hSw); go_simp <;> with_reducible rfl
    try simp only [Act.put, List.setIfInBounds_toArray, List.set_cons_zero, List.set_cons_succ]
    refine wpAnyH_take (i := 2) (oi := { dst := some 7, op := Op.load 23 (Operand.tmp 2), type := 23, pos := "law.go:44", after := #[{ on := 1, ground := Ground.guard }], guard := some (1, true) }) (v := .agg (vec 25 f)) rfl (by kernel_rfl) (by kernel_rfl) (by kernel_rfl) (fun _ _ _ h => h) (row_if (fun _ h => h.1) rfl _ rfl rfl) (by assumption) ?_
    try simp only [Act.put, List.setIfInBounds_toArray, List.set_cons_zero, List.set_cons_succ]
    refine wpAnyH_take (i := 4) (oi := { dst := some 9, op := Op.load 23 (Operand.tmp 3), type := 23, pos := "law.go:44", after := #[{ on := 1, ground := Ground.guard }], guard := some (1, true) }) (v := .agg (vec 25 g)) rfl (by kernel_rfl) (by kernel_rfl) (by kernel_rfl) (fun _ _ _ h => h) (row_if (fun _ h => h.2) rfl _ rfl rfl) (by assumption) ?_
    try simp only [Act.put, List.setIfInBounds_toArray, List.set_cons_zero, List.set_cons_succ]
    refine wpAnyH_take (i := 7) (oi := { dst := some 12, op := Op.load 23 (Operand.tmp 2), type := 23, pos := "law.go:44", after := #[{ on := 1, ground := Ground.guard }], guard := some (1, true) }) (v := .agg (vec 25 f)) rfl (by kernel_rfl) (by kernel_rfl) (by kernel_rfl) (fun _ _ _ h => h) (row_if (fun _ h => h.1) rfl _ rfl rfl) (by assumption) ?_
    try simp only [Act.put, List.setIfInBounds_toArray, List.set_cons_zero, List.set_cons_succ]
    refine wpAnyH_take (i := 8) (oi := { dst := some 13, op := Op.load 23 (Operand.tmp 3), type := 23, pos := "law.go:44", after := #[{ on := 1, ground := Ground.guard }], guard := some (1, true) }) (v := .agg (vec 25 g)) rfl (by kernel_rfl) (by kernel_rfl) (by kernel_rfl) (fun _ _ _ h => h) (row_if (fun _ h => h.2) rfl _ rfl rfl) (by assumption) ?_
    try simp only [Act.put, List.setIfInBounds_toArray, List.set_cons_zero, List.set_cons_succ]
    refine wpAnyH_take (i := 9) (oi := { dst := some 14, op := Op.binOp BinOp.eql 23 (Operand.tmp 12) (Operand.tmp 13) 23, type := 4, pos := "law.go:44", after := #[{ on := 7, ground := Ground.data }, { on := 8, ground := Ground.data }, { on := 1, ground := Ground.guard }], guard := some (1, true) }) (v := ?_) rfl (by kernel_rfl) (by kernel_rfl) (by kernel_rfl) (fun _ _ _ h => h) (Or.inl ⟨by rfl, ?_⟩) (by assumption) ?_
    rotate_left
    · intro w hSw; (try dsimp only at hSw); go_simp <;> with_reducible rfl
    try simp only [Act.put, List.setIfInBounds_toArray, List.set_cons_zero, List.set_cons_succ]
    refine wpAnyH_ready (rs := [3]) (by kernel_rfl) (by simp) ?_
    refine AllReadyH.cons (i := 3) (o := { dst := some 8, op := Op.call { callee := Callee.value (Operand.func 11), args := #[Operand.tmp 7], argTypes := #[23] }, type := 23, pos := "law.go:44", after := #[{ on := 2, ground := Ground.data }, { on := 1, ground := Ground.chain }, { on := 1, ground := Ground.guard }], guard := some (1, true) }) rfl (fun K hK => ?_) ?_
    rw [if_pos (by rfl)]
    · go_simp
      refine (Permute_any f _ (hT.below B1)).mono ?_
      rintro e w2 ⟨rfl, b2⟩
      have B2 := B1.trans (b2.mono B1.size)
      have l2 : w.heap.size + 1 < w2.heap.size := Nat.lt_of_lt_of_le l1 b2.size
      have S2 : Row w2 w.heap.size 23 (vec 25 f) ∧ Row w2 (w.heap.size + 1) 23 (vec 25 g) := ⟨S1.1.below b2 (by omega), S1.2.below b2 l1⟩
      refine Shut.out hK _ _ S2 (fun _hS => ?_)
      clear hK K
      try simp only [Act.put, List.setIfInBounds_toArray, List.set_cons_zero, List.set_cons_succ]
      refine wpAnyH_ready (rs := [5]) (by kernel_rfl) (by simp) ?_
      refine AllReadyH.cons (i := 5) (o := { dst := some 10, op := Op.call { callee := Callee.value (Operand.func 11), args := #[Operand.tmp 9], argTypes := #[23] }, type := 23, pos := "law.go:44", after := #[{ on := 4, ground := Ground.data }, { on := 3, ground := Ground.chain }, { on := 1, ground := Ground.guard }], guard := some (1, true) }) rfl (fun K hK => ?_) ?_
      rw [if_pos (by rfl)]
      · go_simp
        refine (Permute_any g _ (hT.below B2)).mono ?_
        rintro e w3 ⟨rfl, b3⟩
        have B3 := B2.trans (b3.mono B2.size)
        have S3 : Row w3 w.heap.size 23 (vec 25 f) ∧ Row w3 (w.heap.size + 1) 23 (vec 25 g) := ⟨S2.1.below b3 (by omega), S2.2.below b3 l2⟩
        refine Shut.out hK _ _ S3 (fun _hS => ?_)
        clear hK K
        try simp only [Act.put, List.setIfInBounds_toArray, List.set_cons_zero, List.set_cons_succ]
        refine wpAnyH_take (i := 6) (oi := { dst := some 11, op := Op.binOp BinOp.eql 23 (Operand.tmp 8) (Operand.tmp 10) 23, type := 4, pos := "law.go:44", after := #[{ on := 3, ground := Ground.data }, { on := 5, ground := Ground.data }, { on := 1, ground := Ground.guard }], guard := some (1, true) }) (v := ?_) rfl (by kernel_rfl) (by kernel_rfl) (by kernel_rfl) (fun _ _ _ h => h) (Or.inl ⟨by rfl, ?_⟩) (by assumption) ?_
        rotate_left
        · intro w hSw; (try dsimp only at hSw); go_simp <;> with_reducible rfl
        try simp only [Act.put, List.setIfInBounds_toArray, List.set_cons_zero, List.set_cons_succ]
        refine wpAnyH_take (i := 10) (oi := { dst := some 15, op := Op.binOp BinOp.eql 4 (Operand.tmp 11) (Operand.tmp 14) 4, type := 4, pos := "law.go:44", after := #[{ on := 6, ground := Ground.data }, { on := 9, ground := Ground.data }, { on := 1, ground := Ground.guard }], guard := some (1, true) }) (v := ?_) rfl (by kernel_rfl) (by kernel_rfl) (by kernel_rfl) (fun _ _ _ h => h) (Or.inl ⟨by rfl, ?_⟩) (by assumption) ?_
        rotate_left
        · intro w hSw; (try dsimp only at hSw); go_simp <;> with_reducible rfl
        try simp only [Act.put, List.setIfInBounds_toArray, List.set_cons_zero, List.set_cons_succ]
        refine wpAnyH_take (i := 11) (oi := { dst := some 16, op := Op.pick (Operand.tmp 6) (Operand.tmp 15) (Operand.const (Value.bool false)), type := 4, pos := "law.go:44", after := #[{ on := 1, ground := Ground.data }, { on := 10, ground := Ground.data }], guard := none }) (v := ?_) rfl (by kernel_rfl) (by kernel_rfl) (by kernel_rfl) (fun _ _ _ h => h) (Or.inl ⟨by rfl, ?_⟩) (by assumption) ?_
        rotate_left
        · intro w hSw; (try dsimp only at hSw); go_simp <;> with_reducible rfl
        try simp only [Act.put, List.setIfInBounds_toArray, List.set_cons_zero, List.set_cons_succ]
        refine wpAnyH_take (i := 12) (oi := { dst := some 4, op := Op.assign (Operand.tmp 16), type := 4, pos := "law.go:44", after := #[{ on := 11, ground := Ground.data }, { on := 5, ground := Ground.chain }, { on := 0, ground := Ground.phase }, { on := 1, ground := Ground.phase }, { on := 2, ground := Ground.phase }, { on := 3, ground := Ground.phase }, { on := 4, ground := Ground.phase }, { on := 5, ground := Ground.phase }, { on := 6, ground := Ground.phase }, { on := 7, ground := Ground.phase }, { on := 8, ground := Ground.phase }, { on := 9, ground := Ground.phase }, { on := 10, ground := Ground.phase }, { on := 11, ground := Ground.phase }], guard := none }) (v := ?_) rfl (by kernel_rfl) (by kernel_rfl) (by kernel_rfl) (fun _ _ _ h => h) (Or.inl ⟨by rfl, ?_⟩) (by assumption) ?_
        rotate_left
        · intro w hSw; (try dsimp only at hSw); go_simp <;> with_reducible rfl
        try simp only [Act.put, List.setIfInBounds_toArray, List.set_cons_zero, List.set_cons_succ]
        refine wpAnyH_done (by kernel_rfl) ?_ _
        go_wp2_with fail
        go_ret
        exact ⟨by simp, B3⟩
      exact AllReadyH.nil
    exact AllReadyH.nil
  exact AllReadyH.nil

/-- A state that came in. -/
theorem vec_of (zs : List Int) (h : zs.length = 25) (hw : ∀ z ∈ zs, (Lit.int .u64 z).wf = true) : ∃ f : Nat → BitVec 64, (zs.map (Value.int .u64)).toArray = vec 25 f := by
  refine ⟨fun i => BitVec.ofInt 64 (zs.getD i 0), ?_⟩
  rw [← vecL_arr]
  congr 1
  apply List.ext_getElem?
  intro i
  by_cases hi : i < 25
  · unfold vecL
    rw [List.getElem?_map, List.getElem?_map, List.getElem?_range hi, List.getElem?_eq_getElem (by omega)]
    simp only [Option.map_some, List.getD, List.getElem?_eq_getElem (show i < zs.length by omega), Option.getD_some]
    have b := hw zs[i] (List.getElem_mem _)
    simp [Lit.wf, IntKind.min, IntKind.max, IntKind.signed, IntKind.bits] at b
    rw [wd_of (by omega) (by omega)]
  · rw [List.getElem?_eq_none (by rw [List.length_map]; omega), List.getElem?_eq_none (by rw [vecL_len]; omega)]
end Go.Proofs.YtfjbchmneojgaaaDoor
