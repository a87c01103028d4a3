/- Lists without a fault; known; chains, as mathematics. -/
import Derived.Test.YtlmgjgcdfhccaaaOK
import Derived.Maps.AppendAt
import Derived.OwnWalk
namespace Go.Proofs.Ytlmgjgcdfhccaaa
open Go.RowKit Go.Maps Go.Shelf

set_option maxRecDepth 100000 in
set_option maxHeartbeats 4000000 in
theorem known_ok (v : Value) (os : List Of) (id : Int) (w : World) (hw : Lw w) (hv : IsO w v os) (hn : os.length ≤ 1000) (hr : NumO os) (hid : W64 id) (hg : (ckV os).2 = 0) :
    Calls Try.prog 29 #[v, .int .i64 id] w fun e w' => ∃ b, e = .returned (.tuple #[.map (some b), .bool (ixO os id).isSome]) ∧ Ix w' b os ∧ Below w.heap.size w w' := by
  have CK := Lib.hid (Check_any v os w hw hv hn hr)
  have IN := Lib.hid (fun V hV => indexed_any v os V (hv.below hV) hn hr)
  rw [hg] at CK
  clear hw hv hn hr hg
  go_enter Try.func29, Try.ntmps29
  go_wp2_with fail
  refine CK.out.mono ?_; rintro e w1 ⟨rfl, b1⟩
  have B1 := Lib.hid b1
  have I1 := Lib.hid (IN.out w1 b1)
  clear b1 CK IN
  go_wp2_with fail
  refine I1.out.mono ?_; rintro e w2 ⟨rfl, ix, b2⟩
  have LOOK := ix.look hid
  have IX := Lib.hid ix
  have B2 := Lib.hid (B1.out.trans (b2.mono B1.out.size))
  clear b2 I1 ix
  generalize (ixO os id).getD 0 = m at *
  go_wp2_with fail
  go_ret2
  exact ⟨_, rfl, IX.out, B2.out⟩
set_option maxHeartbeats 4000000 in
theorem known_no (v : Value) (os : List Of) (id : Int) (w : World) (hw : Lw w) (hv : IsO w v os) (hn : os.length ≤ 1000) (hr : NumO os) (hg : (ckV os).2 ≠ 0) :
    Calls Try.prog 29 #[v, .int .i64 id] w fun e w' => e = .returned (.tuple #[.map none, .bool false]) ∧ Below w.heap.size w w' := by
  have CK := Lib.hid (Check_any v os w hw hv hn hr)
  generalize (ckV os).2 = E at *
  generalize (ckV os).1 = F at *
  have g1 : (E == 0) = false := by simpa using hg
  have g2 : (E != 0) = true := by simpa using hg
  clear hw hv hn hr hg
  go_enter Try.func29, Try.ntmps29
  go_wp2_with fail
  refine CK.out.mono ?_; rintro e w1 ⟨rfl, b1⟩
  have B1 := Lib.hid b1
  clear b1 CK
  go_wp2_with fail
  go_ret2
  exact ⟨rfl, B1.out⟩
/-- What holds of an office in a list without a fault. -/
structure OkO (os : List Of) (o : Of) : Prop where
  sp : spanB o.fr o.un = true
  nd : o.nx.Nodup
  ix : ∀ x ∈ o.nx, ∃ j o', ixO os x = some j ∧ os[j]? = some o' ∧ o'.id = x ∧ o'.fr = o.un
  len : o.nx.length ≤ 8
theorem ckI_all {os : List Of} : ∀ {n : Nat}, (ckI os n).2 = 0 → ∀ k, k < n → fE os k = 0
  | 0, _, k, h => by omega
  | n + 1, h, k, hk => by
    unfold ckI at h
    by_cases e : (ckI os n).2 = 0
    · rw [if_pos e] at h
      by_cases f : fE os n = 0
      · by_cases c : k = n
        · rw [c]; exact f
        · exact ckI_all e k (by omega)
      · rw [if_neg f] at h; exact absurd h f
    · rw [if_neg e] at h; exact absurd h e
theorem good_len {os : List Of} (h : (ckV os).2 = 0) : os.length ≤ 32 := by
  unfold ckV at h
  by_cases e : 32 < os.length
  · rw [if_pos e] at h; exact absurd h (by decide)
  · omega
theorem good_fE {os : List Of} (h : (ckV os).2 = 0) (k : Nat) (hk : k < os.length) : fE os k = 0 := by
  have l := good_len h
  unfold ckV at h
  rw [if_neg (by omega)] at h
  exact ckI_all h k hk
theorem good_self {os : List Of} (h : (ckV os).2 = 0) {k : Nat} {o : Of} (ho : os[k]? = some o) : selfE o = 0 := by
  have hk := (List.getElem?_eq_some_iff.1 ho).1
  have f := good_fE h k hk
  by_cases e : selfE o = 0
  · exact e
  · rw [fE_self ho e] at f; exact absurd f e
theorem good_ord {os : List Of} (h : (ckV os).2 = 0) {k : Nat} {o : Of} (ho : os[k]? = some o) : ¬ (0 < k ∧ o.id ≤ prevId os k) := fun g => by
  have hk := (List.getElem?_eq_some_iff.1 ho).1
  have f := good_fE h k hk
  rw [fE_ord ho (good_self h ho) g] at f
  exact absurd f (by decide)
theorem good_suc {os : List Of} (h : (ckV os).2 = 0) {k : Nat} {o : Of} (ho : os[k]? = some o) : sucE os o = 0 := by
  have hk := (List.getElem?_eq_some_iff.1 ho).1
  have f := good_fE h k hk
  rwa [fE_suc ho (good_self h ho) (good_ord h ho)] at f
theorem good_ok {os : List Of} (h : (ckV os).2 = 0) {k : Nat} {o : Of} (ho : os[k]? = some o) : OkO os o := by
  have s := good_self h ho
  have r : 1 ≤ o.id ∧ o.id ≤ 1073741824 ∧ spanB o.fr o.un = true ∧ o.nx.length ≤ 8 := by
    by_cases r : 1 ≤ o.id ∧ o.id ≤ 1073741824 ∧ spanB o.fr o.un = true ∧ o.nx.length ≤ 8
    · exact r
    · rw [rng_no r] at s; exact absurd s (by decide)
  have u := good_suc h ho
  unfold sucE at u
  by_cases a : ¬ o.nx.Nodup
  · rw [if_pos a] at u; exact absurd u (by decide)
  rw [if_neg a] at u
  by_cases b : ∃ x ∈ o.nx, ixO os x = none
  · rw [if_pos b] at u; exact absurd u (by decide)
  rw [if_neg b] at u
  by_cases c : ∃ x ∈ o.nx, frA os x ≠ o.un
  · rw [if_pos c] at u; exact absurd u (by decide)
  refine ⟨r.2.2.1, Decidable.not_not.1 a, fun x hx => ?_, r.2.2.2⟩
  obtain ⟨j, hj⟩ := Option.ne_none_iff_exists'.1 (fun e => b ⟨x, hx, e⟩)
  obtain ⟨o', ho', e'⟩ := ixO_at hj
  refine ⟨j, o', hj, ho', e', ?_⟩
  have := frA_at hj ho'
  rw [← this]
  by_cases e : frA os x = o.un
  · exact e
  · exact absurd ⟨x, hx, e⟩ c
/-- A chain on a day, from the office at an index. -/
inductive Ch (os : List Of) (day : Int) : Nat → List Int → Prop
  | stop {i : Nat} {o : Of} : os[i]? = some o → (hasB o.fr o.un day = true ∨ o.nx = []) → Ch os day i [o.id]
  | step {i j : Nat} {o : Of} {x : Int} {r : List Int} {L : List Int} : os[i]? = some o → hasB o.fr o.un day = false → o.nx = x :: r → ixO os x = some j → Ch os day j L → Ch os day i (o.id :: L)
theorem Ch.one {os : List Of} {day : Int} {i : Nat} {L M : List Int} (h : Ch os day i L) (g : Ch os day i M) : L = M := by
  induction h generalizing M with
  | stop ho hs =>
    cases g with
    | stop ho' _ => rw [ho] at ho'; cases ho'; rfl
    | step ho' hb hx _ _ =>
      rw [ho] at ho'; cases ho'
      rcases hs with hs | hs
      · rw [hs] at hb; cases hb
      · rw [hs] at hx; cases hx
  | step ho hb hx hj _ ih =>
    cases g with
    | stop ho' hs =>
      rw [ho] at ho'; cases ho'
      rcases hs with hs | hs
      · rw [hs] at hb; cases hb
      · rw [hs] at hx; cases hx
    | step ho' _ hx' hj' g' =>
      rw [ho] at ho'; cases ho'
      rw [hx] at hx'; cases hx'
      rw [hj] at hj'; cases hj'
      rw [ih g']
theorem Ch.pos {os : List Of} {day : Int} {i : Nat} {L : List Int} (h : Ch os day i L) : 0 < L.length := by
  cases h <;> simp
theorem Ch.mem {os : List Of} {day : Int} {i : Nat} {L : List Int} (h : Ch os day i L) : ∀ x ∈ L, ∃ (j : Nat) (o : Of), os[j]? = some o ∧ o.id = x := by
  induction h with
  | stop ho _ => exact fun x hx => ⟨_, _, ho, (List.mem_singleton.1 hx).symm⟩
  | step ho _ _ _ _ ih =>
    intro x hx
    rcases List.mem_cons.1 hx with h | h
    · exact ⟨_, _, ho, h.symm⟩
    · exact ih x h
def encZ (z : Int) : Value := .int .i64 z
theorem own_from {w : World} {K n size : Nat} {e : TypeId} {v : Value} {xs : List Value} (h : w.ownsRow K e size v n xs) : ∀ k, v.ownBlock = some k → K ≤ k := fun k hk => by
  rcases h.2 with ⟨rfl, _⟩ | ⟨g, cap, cur, rfl, hb, _⟩
  · simp [Value.ownBlock] at hk
  · simp [Value.ownBlock] at hk
    omega
theorem own_emptyZ (w : World) : (w.alloc (.cells #[] 3)).ownsRow w.heap.size 3 1 (.slice (some ⟨w.heap.size, 0, none⟩) 0 0) ([] : List Int).length (([] : List Int).map encZ) :=
  ⟨rfl, Or.inr ⟨w.heap.size, 0, #[], rfl, Nat.le_refl _, heap_alloc_new w _, Nat.le_refl _, by unfold maxLen; omega, rfl, rfl⟩⟩
theorem own_oneZ (w : World) (z : Int) (K : Nat) (hK : K ≤ w.heap.size) : (w.alloc (.cells #[.int .i64 z] 3)).ownsRow K 3 1 (.slice (some ⟨w.heap.size, 0, none⟩) 1 1) ([z] : List Int).length (([z] : List Int).map encZ) :=
  ⟨rfl, Or.inr ⟨w.heap.size, 1, #[.int .i64 z], rfl, hK, heap_alloc_new w _, Nat.le_refl _, by unfold maxLen; omega, rfl, rfl⟩⟩
theorem own_isZ {w : World} {K : Nat} {v : Value} {zs : List Int} (h : w.ownsRow K 3 1 v zs.length (zs.map encZ)) : IsZ w v zs := by
  rcases h.2 with ⟨rfl, h0⟩ | ⟨g, cap, cur, rfl, hb, hg, hc, hm, hs, ht⟩
  · exact ⟨none, 0, by rw [h0], by omega, fun g => by omega⟩
  · refine ⟨some ⟨g, 0, none⟩, cap, rfl, hc, fun _ => ⟨g, 0, rfl, (Array.getElem?_eq_some_iff.1 hg).1, fun j hj => ?_⟩⟩
    have := h.cells (g := g) rfl j (.int .i64 zs[j]) (by simp [hj, encZ])
    rw [Addr.add_lit] at this
    exact this
end Go.Proofs.Ytlmgjgcdfhccaaa
