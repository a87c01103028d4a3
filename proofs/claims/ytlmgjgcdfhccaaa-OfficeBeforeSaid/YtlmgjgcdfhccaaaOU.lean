/- maps.Keys and slices.Sorted at this seat; what the keys of a map of numbers are. -/
import Derived.Test.YtlmgjgcdfhccaaaOT
import Derived.Test.YtlmgjgcdfhccaaaOS
import Derived.Maps.OwnOps
import Derived.Shelf.AbstractIn
namespace Go.Proofs.Ytlmgjgcdfhccaaa
open Go.RowKit Go.Maps Go.Sort Go.Shelf

theorem sortsA (m : Nat) : AnyZI.SortsIn Try.prog Try.ofsorted_ren Fence.wide m :=
  ⟨fun blk off cap ss W hH hblk hsz => callsIn_wide.2 (AnyM.slices_Sort_int Try.ofsort blk off cap ss W hH hblk hsz),
   fun p cap W => callsIn_wide.2 (AnyM.slices_Sort_int_none Try.ofsort p cap W)⟩
theorem keys_any (b : Option Nat) (W : World) : Calls Try.prog 37 #[.map b] W fun e w' => e = .returned (.func (.func 53) #[] #[.pointer (some ⟨W.heap.size, 0, none⟩)]) ∧ w' = W.alloc (.cells #[.map b] 55) :=
  callsIn_wide.1 (AnyZI.keys_in Try.ofkeys Fence.wide 5 trivial rfl b W)
set_option maxHeartbeats 1000000 in
theorem sorted_any {H : Type} (b nn : Nat) (D0 : DataW H) (R : Value → Option (DataW H × List MemPlace)) (w : World) (hown : w.ownsMap Try.prog 3 R b nn D0) (hmax : Maps.size D0 ≤ maxLen) (hbytes : Maps.size D0 * 8 ≤ 140737488355328) :
    Calls Try.prog 36 #[.func (.func 53) #[] #[.pointer (some ⟨w.heap.size, 0, none⟩)]] (w.alloc (.cells #[.map (some b)] 55)) fun e w' => ∃ (v : Value) (ss : List Int), e = .returned v ∧ ss.Perm (intKeys D0) ∧
      w'.ownsRow w.heap.size 3 1 v ss.length ((ss.mergeSort (fun x y => decide (x ≤ y))).map encZ) ∧ (v = .slice none 0 0 ↔ ss = []) ∧ Below w.heap.size w w' := by
  have hbl := hown.lt
  have hseq : SeqGives Fence.wide 2 Try.prog 53 #[.pointer (some ⟨w.heap.size, 0, none⟩)] encZ (fun ss => ss.Perm (intKeys D0)) (Maps.size D0) (w.alloc (.cells #[.map (some b)] 55)) :=
    AnyZI.keys_gives (ρ := Try.ofkeys_ren) { Try.ofkeys with } Fence.wide _ trivial rfl (by omega) w.heap.size b nn D0 _ (by simp) (by simp) (by
      obtain ⟨es, clock, hb, Ft, hs, hD⟩ := hown
      exact ⟨es, clock, (Below.heap_alloc _ _ b hbl).trans hb, Ft, hs, hD⟩)
  have cS := AnyZI.sorted_in Try.ofsorted Fence.wide 5 trivial trivial trivial trivial rfl (by omega) (sortsA _) (enters_of Try.func52 (by kernel_rfl) rfl) 53 #[.pointer (some ⟨w.heap.size, 0, none⟩)] trivial (enters_of Try.func53 (by kernel_rfl) rfl) _ _ hmax hbytes _ hseq
  refine (callsIn_wide.1 cS).mono ?_
  rintro e w' ⟨v, ss, rfl, hS, hrow, hnil, hb⟩
  exact ⟨v, ss, rfl, hS, ownsRow_base_a hrow (by simp), hnil, ((Below.refl _ w).alloc (Nat.le_refl _) _).trans (hb.mono (by simp))⟩

/-- What lies in the map: a key for each number of a list. -/
def Mp (w : World) (B : Nat) (acc : List Int) : Prop := w.ownsMap Try.prog 3 (plainElem (H := Unit) Try.prog 4) B acc.length (setOf (.lit (.bool true)) (acc.map (Lit.int .i64)))
theorem Mp.new (w : World) : Mp (w.alloc (.map #[] 0)) w.heap.size [] := World.ownsMap_made w _ _ _
theorem Mp.kept {w w' : World} {B : Nat} {acc : List Int} {row : Option Nat} (h : Mp w B acc) (hg : w.grownBy w' row) (hne : some B ≠ row) : Mp w' B acc := World.ownsMap.kept h hg hne
theorem Mp.below {w w' : World} {B : Nat} {acc : List Int} (h : Mp w B acc) (hb : Below w.heap.size w w') : Mp w' B acc := h.kept (row := none) (gb_below hb) (by simp)
theorem Mp.put {w : World} {B : Nat} {acc : List Int} {x : Int} (h : w.ownsMap Try.prog 3 (plainElem (H := Unit) Try.prog 4) B (acc.length + 1) ((setOf (.lit (.bool true)) (acc.map (Lit.int .i64))).put (.int .i64 x) (.lit (.bool true)))) : Mp w B (acc ++ [x]) := by
  unfold Mp
  rw [List.map_append, List.map_cons, List.map_nil, setOf_snoc, List.length_append]
  exact h
theorem isKeyInts (acc : List Int) : ∀ x ∈ acc.map (Lit.int .i64), WideAt.IsKeyLit x := fun x hx => by
  obtain ⟨a, _, rfl⟩ := List.mem_map.1 hx
  trivial
theorem Mp.size {w : World} {B : Nat} {acc : List Int} (h : Mp w B acc) : Maps.size (setOf (H := Unit) (.lit (.bool true)) (acc.map (Lit.int .i64))) ≤ acc.length := by
  obtain ⟨es, clock, hb, F, hs, hD⟩ := h
  rw [hD, size_eq, Go.DataW.length_sorted]
  simpa using hs
theorem Mp.keys {w : World} {B : Nat} {acc ss : List Int} (h : Mp w B acc) (hp : ss.Perm (intKeys (setOf (H := Unit) (.lit (.bool true)) (acc.map (Lit.int .i64))))) : ss.Nodup ∧ ∀ x, x ∈ ss ↔ x ∈ acc := by
  obtain ⟨es, hD, hpw, _⟩ := World.ownsMap.entries h lawI
  obtain ⟨es', hD', hko⟩ := World.ownsMap.keysOf h
  obtain rfl : es = es' := by rw [hD] at hD'; simpa using hD'
  have hk : ∀ p ∈ es, ∃ x, p.1 = .int .i64 x := fun p hp => by
    obtain ⟨v, hv⟩ := hko p hp
    obtain ⟨x, _, hx, _⟩ := Maps.keyOf_i64 Try.underlying3 hv
    exact ⟨x, hx⟩
  have hh : ∀ x, Maps.has (setOf (H := Unit) (.lit (.bool true)) (acc.map (Lit.int .i64))) (.int .i64 x) = true ↔ x ∈ acc := fun x => by
    rw [has_setOf _ _ _ (isKeyInts acc), List.any_map, List.any_eq_true]
    constructor
    · rintro ⟨a, ha, hs⟩
      have : a = x := by simpa [Lit.sameKey] using hs
      exact this ▸ ha
    · intro hx
      exact ⟨x, hx, by simp [Lit.sameKey]⟩
  rw [hD] at hp hh
  have nd : (intKeys (.map es)).Nodup := by
    show (es.map fun p => Go.intOf p.1).Nodup
    refine List.pairwise_map.2 (hpw.imp_of_mem fun {p q} hp' hq' hne e => hne ?_)
    obtain ⟨a, ha⟩ := hk p hp'
    obtain ⟨b, hb⟩ := hk q hq'
    rw [ha, hb] at e ⊢
    exact congrArg _ e
  refine ⟨(hp.nodup_iff).2 nd, fun x => ?_⟩
  rw [hp.mem_iff, ← hh x, has_eq, List.any_eq_true]
  show x ∈ es.map (fun p => Go.intOf p.1) ↔ _
  rw [List.mem_map]
  constructor
  · rintro ⟨p, hp', rfl⟩
    obtain ⟨a, ha⟩ := hk p hp'
    exact ⟨p, hp', by rw [ha]; simp [Lit.sameKey, Go.intOf]⟩
  · rintro ⟨p, hp', hs⟩
    obtain ⟨a, ha⟩ := hk p hp'
    rw [ha] at hs
    exact ⟨p, hp', by rw [ha]; simpa [Lit.sameKey, Go.intOf] using hs⟩
theorem asc_sort {ss : List Int} (nd : ss.Nodup) : (ss.mergeSort (fun x y => decide (x ≤ y))).Pairwise (· < ·) ∧ ∀ x, x ∈ ss.mergeSort (fun x y => decide (x ≤ y)) ↔ x ∈ ss := by
  have tr : ∀ a b c : Int, decide (a ≤ b) = true → decide (b ≤ c) = true → decide (a ≤ c) = true := fun a b c h1 h2 => by simp only [decide_eq_true_eq] at *; exact Int.le_trans h1 h2
  have tot : ∀ a b : Int, (decide (a ≤ b) || decide (b ≤ a)) = true := fun a b => by simp only [Bool.or_eq_true, decide_eq_true_eq]; exact Int.le_total a b
  have pm := List.mergeSort_perm ss (fun x y => decide (x ≤ y))
  refine ⟨?_, fun x => pm.mem_iff⟩
  have a := List.pairwise_mergeSort (le := fun x y : Int => decide (x ≤ y)) tr tot ss
  have b := (pm.nodup_iff).2 nd
  exact (a.and b).imp fun {x y} ⟨h1, h2⟩ => by
    have := of_decide_eq_true h1
    have : x ≠ y := h2
    omega

/-- A look at the map: is a number there? -/
theorem atKey_setOf (acc : List Int) (x : Int) : (setOf (H := Unit) (.lit (.bool true)) (acc.map (Lit.int .i64))).atKey (.int .i64 x) (.lit (.bool false)) = .lit (.bool (decide (x ∈ acc))) := by
  suffices h : ∀ rev : List Int, (setOf (H := Unit) (.lit (.bool true)) (rev.reverse.map (Lit.int .i64))).atKey (.int .i64 x) (.lit (.bool false)) = .lit (.bool (decide (x ∈ rev.reverse))) by
    have := h acc.reverse
    rwa [List.reverse_reverse] at this
  intro rev
  induction rev with
  | nil => rfl
  | cons a r ih =>
    rw [List.reverse_cons, List.map_append, List.map_cons, List.map_nil, setOf_snoc]
    have hm : IsMap (setOf (H := Unit) (.lit (.bool true)) (r.reverse.map (Lit.int .i64))) := (tidy_fold _ _ _ tidy_empty (isKeyInts _)).isMap
    by_cases e : a = x
    · subst e
      rw [atKey_put_same hm (show WideAt.IsKeyLit (.int .i64 a) from trivial)]
      simp
    · rw [atKey_put_other (fun g => e (litI_inj g).symm), ih]
      congr 2
      simp [Ne.symm e]
theorem zeroB (w : World) : (zeroValue 4).run Try.prog w = .ok (.bool false) w := by kernel_rfl
set_option maxRecDepth 100000 in
theorem Mp.get {w : World} {B : Nat} {acc : List Int} (h : Mp w B acc) {x : Int} (hx : W64 x) : (Instr.lookup 55 (.map (some B)) (.int .i64 x) false).run Try.prog w = .ok (.bool (decide (x ∈ acc))) w := by
  obtain ⟨v, ps, hrun, hv⟩ := World.ownsMap.lookup h lawI Try.underlying55 (zeroB w) (plainElem_bool Try.underlying4 false) (keyI hx)
  rw [atKey_setOf] at hv
  rw [hrun]
  have : v = .bool (decide (x ∈ acc)) := by
    unfold plainElem at hv
    rw [Try.underlying4] at hv
    cases v <;> simp at hv
    rw [hv.1]
  rw [this]
set_option maxRecDepth 100000 in
theorem Mp.add {w : World} {B : Nat} {acc : List Int} (h : Mp w B acc) {x : Int} (hx : W64 x) (hl : acc.length ≤ 1000000) :
    ∃ w', (Instr.mapUpdate 55 (.map (some B)) (.int .i64 x) (.bool true)).run Try.prog w = .ok () w' ∧ Mp w' B (acc ++ [x]) ∧ w.grownBy w' (some B) := by
  obtain ⟨w', hrun, hown, hg⟩ := World.ownsMap.update h lawI Try.underlying55 (by unfold maxLen; omega) (keyI hx) (plainElem_bool Try.underlying4 true)
  exact ⟨w', hrun, Mp.put hown, hg⟩
end Go.Proofs.Ytlmgjgcdfhccaaa
