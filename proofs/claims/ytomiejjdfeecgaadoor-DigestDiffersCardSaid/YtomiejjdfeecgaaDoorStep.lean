/- Steps through a region in whatever order, by hand. -/
import Derived.Deep.RegionHeld
import Derived.Deep.MidRow
import Derived.OwnWalk
namespace Go.Proofs.YtomiejjdfeecgaaDoor

/-- An append within the capacity, at one operation. -/
theorem wp_append_fits {P : Program} {w : World} {o : Oper} {a : Act} {K : Act → World → Prop} {Q : Exit → Act → World → Prop}
    (s x : Operand) (t : TypeId) (hop : o.op = Op.call { callee := Callee.builtin Builtin.append, args := #[s, x], argTypes := #[t, t] })
    (base : Nat) (e : TypeId) (i : TypeInfo) (size : Nat) (h1 : P.underlying t = some (.slice e)) (h2 : P.info? e = some i) (h4 : i.size = size)
    (g k cap : Nat) (xs : List Value) (hs : a.eval s = .slice (some ⟨g, 0, none⟩) k cap) (hown : w.ownsRow base e size (.slice (some ⟨g, 0, none⟩) k cap) k xs) (ad : Addr) (m c : Nat) (news : List Value) (hx : a.eval x = .slice (some ad) m c) (hn : news.length = m * size)
    (hc : ∀ j u, news[j]? = some u → w.cell? (ad.add j) = some u) (h1c : ∀ u ∈ news, u.oneCell' = true) (b1 : k + m ≤ cap)
    (hK : ∀ w', w'.ownsRow base e size (.slice (some ⟨g, 0, none⟩) (k + m) cap) (k + m) (xs ++ news) → w.grownBy w' (some g) → K (a.put o.dst (.slice (some ⟨g, 0, none⟩) (k + m) cap)) w') : o.wp P a w K Q := by
  obtain ⟨w', hrun, r1, r2⟩ := run_append_fits (P := P) w base t o.type e i size h1 h2 h4 g k cap xs hown ad m c news hn hc h1c b1
  unfold Oper.wp
  simp [execOp, hop, resolve, invoke, builtin, hs, hx, hrun, Result.andThen]
  exact hK w' r1 r2

open Lean Elab Tactic Meta

/-- Operation i, which yields its value in whatever world, comes first. -/
elab "tk " i:num : tactic => withMainContext do
  let t := (← instantiateMVars (← getMainTarget)).consumeMData
  unless t.isAppOfArity ``wpAny 8 do throwError "tk: no wpAny: {t.getAppFn}"
  let some oe := opAt (t.getAppArgs[2]!) i.getNat | throwError "tk: the region is not written out"
  let o ← Term.exprToSyntax oe
  evalTactic (← `(tactic| refine wpAny_take (i := $i) (oi := $o) (v := ?_) rfl (by kernel_rfl) (by kernel_rfl) (by kernel_rfl) (fun _ _ _ h => h) (Or.inl ⟨by rfl, ?hy⟩) ?rest))
  let gs ← getGoals
  let [_, hy, rest] := gs | throwError "three goals expected"
  setGoals [hy]
  evalTactic (← `(tactic| (intro w; go_simp)))
  unless (← getGoals).isEmpty do evalTactic (← `(tactic| with_reducible rfl))
  setGoals [rest]
  evalTactic (← `(tactic| try simp only [Act.put, List.setIfInBounds_toArray, List.set_cons_zero, List.set_cons_succ]))

/-- Operation i, the first of those that may come up, runs; what follows is K. The goals: the step, and those that are left. -/
elab "one " i:num : tactic => withMainContext do
  let t := (← instantiateMVars (← getMainTarget)).consumeMData
  unless t.isAppOf ``AllReady do throwError "one: no AllReady: {t.getAppFn}"
  let some oe := opAt (t.getAppArgs[2]!) i.getNat | throwError "one: the region is not written out"
  let o ← Term.exprToSyntax oe
  evalTactic (← `(tactic| refine AllReady.cons (i := $i) (o := $o) rfl (fun $(mkIdent `K) $(mkIdent `hK) => ?_) ?_))
  evalTactic (← `(tactic| rw [if_pos (by rfl)]))

/-- What may come up. -/
macro "rdy " rs:term:max : tactic => `(tactic| refine wpAny_ready (rs := $rs) (by kernel_rfl) (by simp) ?_)
/-- The step has come to what follows. -/
elab "nxt" : tactic => do
  let h := mkIdent `hK
  let k := mkIdent `K
  evalTactic (← `(tactic| (refine $h _ _ ?_; clear $h $k; try simp only [Act.put, List.setIfInBounds_toArray, List.set_cons_zero, List.set_cons_succ])))

/-! The same where S holds behind every operation (its proof stands among the hypotheses). -/
elab "tkh " i:num : tactic => withMainContext do
  let t := (← instantiateMVars (← getMainTarget)).consumeMData
  unless t.isAppOfArity ``wpAnyH 9 do throwError "tkh: no wpAnyH: {t.getAppFn}"
  let some oe := opAt (t.getAppArgs[2]!) i.getNat | throwError "tkh: the region is not written out"
  let o ← Term.exprToSyntax oe
  evalTactic (← `(tactic| refine wpAnyH_take (i := $i) (oi := $o) (v := ?_) rfl (by kernel_rfl) (by kernel_rfl) (by kernel_rfl) (fun _ _ _ h => h) (Or.inl ⟨by rfl, ?hy⟩) (by assumption) ?rest))
  let gs ← getGoals
  let [_, hy, rest] := gs | throwError "three goals expected"
  setGoals [hy]
  evalTactic (← `(tactic| (intro w hSw; (try dsimp only at hSw); go_simp)))
  unless (← getGoals).isEmpty do evalTactic (← `(tactic| with_reducible rfl))
  setGoals [rest]
  evalTactic (← `(tactic| try simp only [Act.put, List.setIfInBounds_toArray, List.set_cons_zero, List.set_cons_succ]))
/-- A load of a long array, first; left: what S gives of it, and the rest. -/
elab "tkl " i:num U:term:max I:term:max : tactic => withMainContext do
  let t := (← instantiateMVars (← getMainTarget)).consumeMData
  unless t.isAppOfArity ``wpAnyH 9 do throwError "tkl: no wpAnyH: {t.getAppFn}"
  let some oe := opAt (t.getAppArgs[2]!) i.getNat | throwError "tkl: the region is not written out"
  let o ← Term.exprToSyntax oe
  evalTactic (← `(tactic| refine' wpAnyH_take (i := $i) (oi := $o) (v := _) rfl (by kernel_rfl) (by kernel_rfl) (by kernel_rfl) (fun _ _ _ h => h) (yieldsIf_load_mid (by rfl) _ _ rfl _ _ rfl _ _ (fun w hw => hw.1) $U rfl $I) (by assumption) ?rest))
  evalTactic (← `(tactic| try simp only [Act.put, List.setIfInBounds_toArray, List.set_cons_zero, List.set_cons_succ]))
elab "oneh " i:num : tactic => withMainContext do
  let t := (← instantiateMVars (← getMainTarget)).consumeMData
  unless t.isAppOf ``AllReadyH do throwError "oneh: no AllReadyH: {t.getAppFn}"
  let some oe := opAt (t.getAppArgs[2]!) i.getNat | throwError "oneh: the region is not written out"
  let o ← Term.exprToSyntax oe
  evalTactic (← `(tactic| refine AllReadyH.cons (i := $i) (o := $o) rfl (fun $(mkIdent `K) $(mkIdent `hK) => ?_) ?_))
  evalTactic (← `(tactic| rw [if_pos (by rfl)]))
macro "rdyh " rs:term:max : tactic => `(tactic| refine wpAnyH_ready (rs := $rs) (by kernel_rfl) (by simp) ?_)
elab "nxth " s:term:max : tactic => do
  let h := mkIdent `hK
  let k := mkIdent `K
  evalTactic (← `(tactic| (refine Shut.out $h _ _ $s (fun _hS => ?_); clear $h $k; try simp only [Act.put, List.setIfInBounds_toArray, List.set_cons_zero, List.set_cons_succ])))
end Go.Proofs.YtomiejjdfeecgaaDoor
