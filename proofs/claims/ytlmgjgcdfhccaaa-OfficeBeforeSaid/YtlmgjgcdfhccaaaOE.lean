/- The map of the offices' indexes. -/
import Derived.Test.YtlmgjgcdfhccaaaOD
import Derived.Maps.OwnOps
import Derived.Maps.OwnSet
import Derived.WalkArith
namespace Go.Proofs.Ytlmgjgcdfhccaaa
open Go.RowKit Go.Maps Go.Shelf

/-- The index of the first office with an ID. -/
def ixO (os : List Of) (id : Int) : Option Nat := os.findIdx? (fun o => decide (o.id = id))
theorem ixO_snoc (L : List Of) (o : Of) (id : Int) : ixO (L ++ [o]) id = (ixO L id).or (if o.id = id then some L.length else none) := by
  unfold ixO
  rw [List.findIdx?_append]
  congr 1
  by_cases h : o.id = id
  · rw [if_pos h]; simp [List.findIdx?_cons, h]
  · rw [if_neg h]; simp [List.findIdx?_cons, h]
theorem ixO_lt {os : List Of} {id : Int} {k : Nat} (h : ixO os id = some k) : k < os.length := by
  have := List.findIdx?_eq_some_iff_getElem.1 h
  obtain ⟨h1, _⟩ := this
  exact h1
theorem ixO_at {os : List Of} {id : Int} {k : Nat} (h : ixO os id = some k) : ∃ o, os[k]? = some o ∧ o.id = id := by
  obtain ⟨h1, h2, _⟩ := List.findIdx?_eq_some_iff_getElem.1 h
  exact ⟨os[k], List.getElem?_eq_getElem h1, of_decide_eq_true h2⟩
theorem ixO_none {os : List Of} {id : Int} : ixO os id = none ↔ ∀ o ∈ os, o.id ≠ id := by
  unfold ixO
  rw [List.findIdx?_eq_none_iff]
  constructor
  · intro h o ho e; have := h o ho; simp [e] at this
  · intro h o ho; simp [h o ho]
/-- A number of 64 bits. -/
def W64 (z : Int) : Prop := -9223372036854775808 ≤ z ∧ z ≤ 9223372036854775807
theorem W64.wf {z : Int} (h : W64 z) : (Lit.int .i64 z).wf = true := WalkArith.wf_i64 h
/-- All numbers in a list of offices are of 64 bits. -/
def NumO (os : List Of) : Prop := ∀ o ∈ os, W64 o.id ∧ W64 o.fr ∧ W64 o.un ∧ (∀ x ∈ o.nx, W64 x) ∧ 0 ≤ o.nx.length
theorem lawI : Keyed Try.prog 3 := int_keyed Try.underlying3
theorem zeroI (w : World) : (zeroValue 3).run Try.prog w = .ok (.int .i64 0) w := by kernel_rfl
theorem keyI {z : Int} (h : W64 z) : keyOf Try.prog 3 (.int .i64 z) = some (.int .i64 z) := keyOf_int_mk Try.underlying3 h.wf
/-- The map of indexes. -/
structure IxD (os : List Of) (D : DataW Unit) : Prop where
  map : IsMap D
  has : ∀ id, Maps.has D (.int .i64 id) = (ixO os id).isSome
  at_ : ∀ id, D.atKey (.int .i64 id) (.lit (.int .i64 0)) = .lit (.int .i64 (((ixO os id).getD 0 : Nat) : Int))
def Ix (w : World) (b : Nat) (os : List Of) : Prop := ∃ D, w.ownsMap Try.prog 3 (plainElem (H := Unit) Try.prog 3) b os.length D ∧ IxD os D
theorem Ix.kept {w w' : World} {b : Nat} {os : List Of} {row : Option Nat} (h : Ix w b os) (hg : w.grownBy w' row) (hne : some b ≠ row) : Ix w' b os := by
  obtain ⟨D, h1, h2⟩ := h
  exact ⟨D, World.ownsMap.kept h1 hg hne, h2⟩
theorem Ix.below {w w' : World} {b : Nat} {os : List Of} (h : Ix w b os) (hb : Below w.heap.size w w') : Ix w' b os := h.kept (row := none) (gb_below hb) (by simp)
theorem Ix.lt {w : World} {b : Nat} {os : List Of} (h : Ix w b os) : b < w.heap.size := by
  obtain ⟨D, h1, _⟩ := h
  exact World.ownsMap.lt h1
theorem IxD.nil : IxD [] (.map []) := ⟨isMap_empty, fun _ => rfl, fun _ => rfl⟩
theorem litI_inj {a b : Int} (h : (Lit.int .i64 a) = .int .i64 b) : a = b := by injection h
theorem IxD.skip {os : List Of} {D : DataW Unit} (h : IxD os D) {o : Of} (hs : (ixO os o.id).isSome = true) : IxD (os ++ [o]) D where
  map := h.map
  has id := by
    rw [h.has, ixO_snoc]
    by_cases e : o.id = id
    · subst e; obtain ⟨k, hk⟩ := Option.isSome_iff_exists.1 hs; rw [hk]; rfl
    · rw [if_neg e]; simp
  at_ id := by
    rw [h.at_, ixO_snoc]
    by_cases e : o.id = id
    · subst e; obtain ⟨k, hk⟩ := Option.isSome_iff_exists.1 hs; rw [hk]; rfl
    · rw [if_neg e]; simp
theorem IxD.add {os : List Of} {D : DataW Unit} (h : IxD os D) {o : Of} (hs : (ixO os o.id).isSome = false) : IxD (os ++ [o]) (D.put (.int .i64 o.id) (.lit (.int .i64 (os.length : Int)))) where
  map := h.map.put _ _
  has id := by
    rw [ixO_snoc]
    by_cases e : o.id = id
    · subst e
      rw [has_put_same h.map (show WideAt.IsKeyLit (.int .i64 o.id) from trivial), if_pos rfl]
      simp
    · rw [has_put_other (fun g => e (litI_inj g).symm), h.has, if_neg e]; simp
  at_ id := by
    rw [ixO_snoc]
    by_cases e : o.id = id
    · subst e
      rw [atKey_put_same h.map (show WideAt.IsKeyLit (.int .i64 o.id) from trivial), if_pos rfl]
      have : ixO os o.id = none := by simpa using hs
      rw [this]; rfl
    · rw [atKey_put_other (fun g => e (litI_inj g).symm), h.at_, if_neg e]; simp
theorem run_mkMap (z : Int) (w : World) : (Instr.makeMap 39 (some (.int .i64 z))).run Try.prog w = .ok (.map (some w.heap.size)) (w.alloc (.map #[] 0)) := by
  kernel_rfl
end Go.Proofs.Ytlmgjgcdfhccaaa
