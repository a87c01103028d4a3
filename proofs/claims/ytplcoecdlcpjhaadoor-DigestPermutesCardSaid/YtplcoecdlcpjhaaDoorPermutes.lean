/- The walk of DigestPermutes. -/
import Derived.Test.YtplcoecdlcpjhaaDoorRefPerm
namespace Go.Proofs.YtplcoecdlcpjhaaDoor
open Go.RowKit
set_option maxRecDepth 100000 in
set_option maxHeartbeats 1000000 in
theorem law_permutes (f : Nat → BitVec 64) (w : World) (hT : Tabs w) :
    Calls Tryd.prog 3 #[.agg (vec 25 f)] w fun e w' => e = .returned (.bool true) ∧ Below w.heap.size w w' := by
  obtain ⟨r1, q1, i1⟩ := eq_vec (perm f 24) (perm f 24)
  obtain rfl : r1 = true := i1.2 (fun _ _ => rfl)
  clear i1
  go_enter Tryd.func3, Tryd.ntmps3
  go_upto_region 1 with (fail)
  generalize hW : w.alloc (.cells (vec 25 f) 23) = W0
  have R0 : Row W0 w.heap.size 23 (vec 25 f) := by rw [← hW]; exact Row.new _ _ _
  have B0 : Below w.heap.size w W0 := by rw [← hW]; go_grown
  clear hW
  refine wp_region_held_drew (S := fun w' => Row w' w.heap.size 23 (vec 25 f)) (by kernel_rfl) R0 (fun hS => ?_)
  refine wpAnyH_ready (rs := [0]) (by kernel_rfl) (by simp) ?_
  refine AllReadyH.cons (i := 0) (o := { dst := some 3, op := Op.call { callee := Callee.value (Operand.func 10), args := #[], argTypes := #[] }, type := 4, pos := "law.go:19", after := #[], guard := none }) rfl (fun K hK => ?_) ?_
  rw [if_pos (by rfl)]
  · go_simp
    refine (awake_any W0.drew (hT.below B0.drew)).mono ?_
    rintro e w1 ⟨rfl, b1⟩
    have b1' : Below W0.heap.size W0 w1 := (Below.refl W0.heap.size W0).drew.trans (show Below W0.heap.size W0.drew w1 from b1)
    have B1 := B0.trans (b1'.mono B0.size)
    have S1 : Row w1 w.heap.size 23 (vec 25 f) := R0.below b1' R0.lt
    refine Shut.out hK _ _ S1 (fun _hS => ?_)
    clear hK K
    try simp only [Act.put, List.setIfInBounds_toArray, List.set_cons_zero, List.set_cons_succ]
    refine wpAnyH_take (i := 1) (oi := { dst := some 4, op := Op.move (Operand.tmp 3), type := 4, pos := "law.go:19", after := #[{ on := 0, ground := Ground.data }, { on := 0, ground := Ground.chain }], guard := none }) (v := ?_) rfl (by kernel_rfl) (by kernel_rfl) (by kernel_rfl) (fun _ _ _ h => h) (Or.inl ⟨by rfl, ?_⟩) (by assumption) ?_
    rotate_left
    · intro w hSw; (try dsimp only at hSw); go_simp <;> with_reducible rfl
    try simp only [Act.put, List.setIfInBounds_toArray, List.set_cons_zero, List.set_cons_succ]
    refine wpAnyH_take (i := 2) (oi := { dst := some 5, op := Op.load 23 (Operand.tmp 1), type := 23, pos := "law.go:19", after := #[{ on := 1, ground := Ground.guard }], guard := some (1, true) }) (v := .agg (vec 25 f)) rfl (by kernel_rfl) (by kernel_rfl) (by kernel_rfl) (fun _ _ _ h => h) (row_if (fun _ h => h) rfl _ rfl rfl) (by assumption) ?_
    try simp only [Act.put, List.setIfInBounds_toArray, List.set_cons_zero, List.set_cons_succ]
    refine wpAnyH_take (i := 4) (oi := { dst := some 7, op := Op.load 23 (Operand.tmp 1), type := 23, pos := "law.go:19", after := #[{ on := 1, ground := Ground.guard }], guard := some (1, true) }) (v := .agg (vec 25 f)) rfl (by kernel_rfl) (by kernel_rfl) (by kernel_rfl) (fun _ _ _ h => h) (row_if (fun _ h => h) rfl _ rfl rfl) (by assumption) ?_
    try simp only [Act.put, List.setIfInBounds_toArray, List.set_cons_zero, List.set_cons_succ]
    refine wpAnyH_ready (rs := [3]) (by kernel_rfl) (by simp) ?_
    refine AllReadyH.cons (i := 3) (o := { dst := some 6, op := Op.call { callee := Callee.value (Operand.func 11), args := #[Operand.tmp 5], argTypes := #[23] }, type := 23, pos := "law.go:19", after := #[{ on := 2, ground := Ground.data }, { on := 1, ground := Ground.chain }, { on := 1, ground := Ground.guard }], guard := some (1, true) }) rfl (fun K hK => ?_) ?_
    rw [if_pos (by rfl)]
    · go_simp
      refine (Permute_any f _ (hT.below B1)).mono ?_
      rintro e w2 ⟨rfl, b2⟩
      have B2 := B1.trans (b2.mono B1.size)
      have S2 : Row w2 w.heap.size 23 (vec 25 f) := S1.below b2 S1.lt
      refine Shut.out hK _ _ S2 (fun _hS => ?_)
      clear hK K
      try simp only [Act.put, List.setIfInBounds_toArray, List.set_cons_zero, List.set_cons_succ]
      refine wpAnyH_ready (rs := [5]) (by kernel_rfl) (by simp) ?_
      refine AllReadyH.cons (i := 5) (o := { dst := some 8, op := Op.call { callee := Callee.value (Operand.func 12), args := #[Operand.tmp 7], argTypes := #[23] }, type := 23, pos := "law.go:19", after := #[{ on := 4, ground := Ground.data }, { on := 3, ground := Ground.chain }, { on := 1, ground := Ground.guard }], guard := some (1, true) }) rfl (fun K hK => ?_) ?_
      rw [if_pos (by rfl)]
      · go_simp
        refine (refPermute_any f _).mono ?_
        rintro e w3 ⟨rfl, b3⟩
        have B3 := B2.trans (b3.mono B2.size)
        have S3 : Row w3 w.heap.size 23 (vec 25 f) := S2.below b3 S2.lt
        refine Shut.out hK _ _ S3 (fun _hS => ?_)
        clear hK K
        try simp only [Act.put, List.setIfInBounds_toArray, List.set_cons_zero, List.set_cons_succ]
        refine wpAnyH_take (i := 6) (oi := { dst := some 9, op := Op.binOp BinOp.eql 23 (Operand.tmp 6) (Operand.tmp 8) 23, type := 4, pos := "law.go:19", after := #[{ on := 3, ground := Ground.data }, { on := 5, ground := Ground.data }, { on := 1, ground := Ground.guard }], guard := some (1, true) }) (v := ?_) rfl (by kernel_rfl) (by kernel_rfl) (by kernel_rfl) (fun _ _ _ h => h) (Or.inl ⟨by rfl, ?_⟩) (by assumption) ?_
        rotate_left
        · intro w hSw; (try dsimp only at hSw); go_simp <;> with_reducible rfl
        try simp only [Act.put, List.setIfInBounds_toArray, List.set_cons_zero, List.set_cons_succ]
        refine wpAnyH_take (i := 7) (oi := { dst := some 10, op := Op.pick (Operand.tmp 4) (Operand.tmp 9) (Operand.const (Value.bool false)), type := 4, pos := "law.go:19", after := #[{ on := 1, ground := Ground.data }, { on := 6, ground := Ground.data }], guard := none }) (v := ?_) rfl (by kernel_rfl) (by kernel_rfl) (by kernel_rfl) (fun _ _ _ h => h) (Or.inl ⟨by rfl, ?_⟩) (by assumption) ?_
        rotate_left
        · intro w hSw; (try dsimp only at hSw); go_simp <;> with_reducible rfl
        try simp only [Act.put, List.setIfInBounds_toArray, List.set_cons_zero, List.set_cons_succ]
        refine wpAnyH_take (i := 8) (oi := { dst := some 2, op := Op.assign (Operand.tmp 10), type := 4, pos := "law.go:19", after := #[{ on := 7, ground := Ground.data }, { on := 5, ground := Ground.chain }, { on := 0, ground := Ground.phase }, { on := 1, ground := Ground.phase }, { on := 2, ground := Ground.phase }, { on := 3, ground := Ground.phase }, { on := 4, ground := Ground.phase }, { on := 5, ground := Ground.phase }, { on := 6, ground := Ground.phase }, { on := 7, ground := Ground.phase }], guard := none }) (v := ?_) rfl (by kernel_rfl) (by kernel_rfl) (by kernel_rfl) (fun _ _ _ h => h) (Or.inl ⟨by rfl, ?_⟩) (by assumption) ?_
        rotate_left
        · intro w hSw; (try dsimp only at hSw); go_simp <;> with_reducible rfl
        try simp only [Act.put, List.setIfInBounds_toArray, List.set_cons_zero, List.set_cons_succ]
        refine wpAnyH_done (by kernel_rfl) ?_ _
        go_wp2_with fail
        go_ret
        exact ⟨by first | rfl | simp, B3⟩
      exact AllReadyH.nil
    exact AllReadyH.nil
  exact AllReadyH.nil
end Go.Proofs.YtplcoecdlcpjhaaDoor
