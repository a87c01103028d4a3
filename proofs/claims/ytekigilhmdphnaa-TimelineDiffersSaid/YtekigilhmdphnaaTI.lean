/- replaced, where the list has one piece: the chapter's example. -/
import Derived.Test.YtekigilhmdphnaaTH
import Derived.Laws.AppendOwn
import Derived.OwnWalk
import Derived.Laws.IdiomCopy
import Derived.Laws.MakeOwn
namespace Go.Proofs.Ytekigilhmdphnaa
open Go.RowKit Go.Shelf

set_option maxHeartbeats 1000000 in
theorem behindFn_any (A F D b off n c : Nat) (P : Nat → Pc) (f : Nat) (du : Int) (k : Nat) (w : World) (hk : f + k < n) (hn : n ≤ 1099511627776) (hA : w.cell? ⟨A, 0, none⟩ = some (.slice (some ⟨b, off, none⟩) n c)) (hF : w.cell? ⟨F, 0, none⟩ = some (.int .i64 f)) (hD : w.cell? ⟨D, 1, none⟩ = some (.int .i64 du)) (hP : Pcs w b off n P) :
    Calls Try.prog 49 #[.int .i64 k, .pointer (some ⟨A, 0, none⟩), .pointer (some ⟨F, 0, none⟩), .pointer (some ⟨D, 0, none⟩)] w fun e w' => e = .returned (.bool (decide (du ≤ (P (f + k)).f))) ∧ Below w.heap.size w w' := by
  obtain ⟨l0, l1, l2⟩ := hP.2 (f + k) hk
  have s1 : IntKind.i64.wrap ((f : Int) + (k : Int)) = (f : Int) + (k : Int) := IntWalk.i64_in _ ⟨by omega, by omega⟩
  have s2 : (0 : Int) ≤ (f : Int) + (k : Int) := by omega
  have s3 : (f : Int) + (k : Int) < (n : Int) := by omega
  have s4 : ((f : Int) + (k : Int)).toNat = f + k := by omega
  generalize P (f + k) = y at *
  clear hP
  go_enter Try.func49, Try.ntmps49
  go_wp2_with fail
  go_quiet (fail)
  go_wp2_with fail
  go_ret
  exact ⟨rfl, BdN (Below.refl _ w) _⟩

/-- Where the chapter's piece lies. -/
def Ex (w : World) (b : Nat) : Prop := b < w.heap.size ∧ w.cell? ⟨b, 0, none⟩ = some (.int .i64 10) ∧ w.cell? ⟨b, 1, none⟩ = some (.int .i64 20) ∧ w.cell? ⟨b, 2, none⟩ = some (.int .i64 1)
theorem Ex.below {w w' : World} {b : Nat} (h : Ex w b) (hb : Below w.heap.size w w') : Ex w' b :=
  ⟨Nat.lt_of_lt_of_le h.1 hb.size, (hb.cell (p := ⟨b, 0, none⟩) h.1).trans h.2.1, (hb.cell (p := ⟨b, 1, none⟩) h.1).trans h.2.2.1, (hb.cell (p := ⟨b, 2, none⟩) h.1).trans h.2.2.2⟩
theorem Ex.pcs {w : World} {b : Nat} (h : Ex w b) : Pcs w b 0 1 (fun _ => ⟨10, 20, 1⟩) := ⟨h.1, fun j hj => by
  obtain rfl : j = 0 := by omega
  exact h.2⟩
theorem Ex.isP {w : World} {b : Nat} (h : Ex w b) : IsP w (some ⟨b, 0, none⟩) 1 1 (fun _ => ⟨10, 20, 1⟩) := Or.inr ⟨_, rfl, by decide, fun _ => ⟨rfl, h.pcs⟩⟩

/-- The first two boxes of replaced, and where it looks. -/
theorem ended_ex (b : Nat) (d : Int) (w : World) (h : Ex w b) (hd : d < 20) :
    Calls Try.prog 47 #[.slice (some ⟨b, 0, none⟩) 1 1, .int .i64 d] w fun e w' => e = .returned (.int .i64 0) ∧ Below w.heap.size w w' :=
  (ended_any _ 1 1 _ d w (by decide) h.isP).mono fun e w' ⟨r, h1, h2, h3, he, hb⟩ => by
    have : r = 0 := by
      rcases Nat.eq_zero_or_pos r with z | z
      · exact z
      · have := h2 z
        simp at this; omega
    subst this
    exact ⟨he, hb⟩
theorem Search_ex (A F D b : Nat) (du : Int) (w : World) (h : Ex w b) (hA : w.cell? ⟨A, 0, none⟩ = some (.slice (some ⟨b, 0, none⟩) 1 1)) (hF : w.cell? ⟨F, 0, none⟩ = some (.int .i64 0)) (hD : w.cell? ⟨D, 1, none⟩ = some (.int .i64 du)) (lA : A < w.heap.size) (lF : F < w.heap.size) (lD : D < w.heap.size) (hd : 10 < du) :
    Calls Try.prog 48 #[.int .i64 1, .func (.func 49) #[] #[.pointer (some ⟨A, 0, none⟩), .pointer (some ⟨F, 0, none⟩), .pointer (some ⟨D, 0, none⟩)]] w fun e w' => e = .returned (.int .i64 1) ∧ Below w.heap.size w w' :=
  (Search_behind 1 _ _ _ (fun _ => false) w (by decide) (fun V hV k hk => by
    obtain rfl : k = 0 := by omega
    have := behindFn_any A F D b 0 1 1 (fun _ => ⟨10, 20, 1⟩) 0 du 0 V (by decide) (by decide) ((hV.cell (p := ⟨A, 0, none⟩) lA).trans hA) ((hV.cell (p := ⟨F, 0, none⟩) lF).trans hF) ((hV.cell (p := ⟨D, 1, none⟩) lD).trans hD) (h.below hV).pcs
    refine this.mono fun e w' ⟨he, hb⟩ => ⟨?_, hb⟩
    rw [he, decide_eq_false (by simp; omega)])).mono fun e w' ⟨r, h1, h2, h3, he, hb⟩ => by
      have : r = 1 := by
        by_cases z : r < 1
        · exact absurd (h3 z) (by simp)
        · omega
      subst this
      exact ⟨he, hb⟩

/-- A copy of elements of several cells. -/
theorem run_copy_wide {P : Program} (w : World) (dT sT ty elem : TypeId) (size : Nat) (b o dLen dCap : Nat) (a : Addr) (sLen sCap : Nat) (cs : List Value)
    (hu : P.underlying dT = some (.slice elem)) (hs : (P.info? elem).map (·.size) = some size) (hn : cs.length = Nat.min sLen dLen * size)
    (hsrc : ∀ j v, cs[j]? = some v → w.cell? (a.add j) = some v) (ht : w.there b o cs.length) (h1 : ∀ v ∈ cs, v.oneCell' = true) :
    (Builtin.copy_ #[dT, sT] ty #[.slice (some ⟨b, o, none⟩) dLen dCap, .slice (some a) sLen sCap]).run P w = .ok (goInt (Nat.min sLen dLen)) (w.setCells b o cs) := by
  have hl := run_loadCells_list (P := P) w a cs hsrc
  have hst := run_storeCells_cells (P := P) b o cs 0 w (fun j hj => by rw [Nat.add_zero]; exact (ht j hj).1) (fun j hj => by rw [Nat.add_zero]; exact (ht j hj).2) h1
  cases hq : P.info? elem with
  | none => simp [hq] at hs
  | some i =>
    have hi : i.size = size := by simpa [hq] using hs
    simp [Builtin.copy_, run_underlying hu, Builtin.lenOf, Builtin.firstCells, sizeOf, typeInfo, hq, hi, ← hn, hl, hst]
theorem wpList_copy_wide {P : Program} {w : World} {ops : Array Oper} {rest : List Oper} {o : Oper} {a : Act} {Q : Exit → Act → World → Prop} (hgd : o.guard = none) (d s : Operand) (dT sT : TypeId)
    (ho : o.op = .call { callee := .builtin .copy, args := #[d, s], argTypes := #[dT, sT] }) (elem : TypeId) (size : Nat) (hu : P.underlying dT = some (.slice elem)) (hsz : (P.info? elem).map (·.size) = some size)
    (b off dLen dCap : Nat) (ad : Addr) (sLen sCap : Nat) (hd : a.eval d = .slice (some ⟨b, off, none⟩) dLen dCap) (hs : a.eval s = .slice (some ad) sLen sCap) (cs : List Value) (hn : cs.length = Nat.min sLen dLen * size)
    (hsrc : ∀ j v, cs[j]? = some v → w.cell? (ad.add j) = some v) (ht : w.there b off cs.length) (h1 : ∀ v ∈ cs, v.oneCell' = true)
    (h : wpList P ops Q rest (a.put o.dst (goInt (Nat.min sLen dLen))) (w.setCells b off cs)) : wpList P ops Q (o :: rest) a w := by
  refine wpList_plain hgd fun K hK => ?_
  have hrun := run_copy_wide (P := P) w dT sT o.type elem size b off dLen dCap ad sLen sCap cs hu hsz hn hsrc ht h1
  unfold Oper.wp execOp
  simp only [ho, resolve, invoke, builtin, Sem.run_bind, Sem.run_pure, Result.andThen_ok, List.map_toArray, List.map_cons, List.map_nil, hd, hs, hrun]
  exact hK _ _ h
end Go.Proofs.Ytekigilhmdphnaa
