/- A row of offices that may be written; clones. -/
import Derived.Test.YtlmgjgcdfhccaaaPI
import Derived.Test.YtlmgjgcdfhccaaaPM
namespace Go.Proofs.Ytlmgjgcdfhccaaa
open Go.RowKit Go.Maps Go.Shelf

def c5 (o : Of) : List Value := [.int .i64 o.id, .string o.nm.1, .int .i64 o.fr, .int .i64 o.un, o.nv]
def cellsO (os : List Of) : List Value := os.flatMap c5
theorem cellsO_len : ∀ os : List Of, (cellsO os).length = os.length * 5
  | [] => rfl
  | o :: t => by
    have := cellsO_len t
    unfold cellsO at this ⊢
    rw [List.flatMap_cons, List.length_append, this, List.length_cons]
    show 5 + t.length * 5 = _
    omega
theorem cellsO_get : ∀ (os : List Of) (j : Nat) (o : Of), os[j]? = some o → ∀ k, k < 5 → (cellsO os)[j * 5 + k]? = (c5 o)[k]?
  | [], j, o, h, _, _ => by simp at h
  | a :: t, 0, o, h, k, hk => by
    have : a = o := by simpa using h
    subst this
    unfold cellsO
    rw [List.flatMap_cons, List.getElem?_append_left (by show 0 * 5 + k < 5; omega)]
    rw [Nat.zero_mul, Nat.zero_add]
  | a :: t, j + 1, o, h, k, hk => by
    have := cellsO_get t j o (by simpa using h) k hk
    unfold cellsO at this ⊢
    rw [List.flatMap_cons, List.getElem?_append_right (by show 5 ≤ (j + 1) * 5 + k; omega)]
    rw [← this]
    congr 1
    show (j + 1) * 5 + k - 5 = _
    omega
theorem cellsO_one (os : List Of) : ∀ v ∈ cellsO os, v.oneCell' = true := fun v hv => by
  obtain ⟨o, _, h⟩ := List.mem_flatMap.1 hv
  simp only [c5, List.mem_cons, List.not_mem_nil, or_false] at h
  rcases h with rfl | rfl | rfl | rfl | rfl <;> first | rfl | simp [Of.nv, Value.oneCell']
theorem cellsO_inv {os : List Of} {i : Nat} {u : Value} (h : (cellsO os)[i]? = some u) : ∃ j o k, os[j]? = some o ∧ k < 5 ∧ i = j * 5 + k ∧ (c5 o)[k]? = some u := by
  have hi := (List.getElem?_eq_some_iff.1 h).1
  rw [cellsO_len] at hi
  have hj : i / 5 < os.length := by omega
  refine ⟨i / 5, os[i / 5], i % 5, List.getElem?_eq_getElem hj, by omega, by omega, ?_⟩
  rw [← cellsO_get os (i / 5) _ (List.getElem?_eq_getElem hj) (i % 5) (by omega), ← h]
  congr 1
  omega
/-- A list of numbers in memory, but not in a block. -/
def IsZg (w : World) (g : Nat) (v : Value) (zs : List Int) : Prop := ∃ p c, v = .slice p zs.length c ∧ zs.length ≤ c ∧ (0 < zs.length → ∃ b off, p = some ⟨b, off, none⟩ ∧ b < w.heap.size ∧ b ≠ g ∧ ∀ j (h : j < zs.length), w.cell? ⟨b, off + j, none⟩ = some (.int .i64 zs[j]))
theorem IsZg.isZ {w : World} {g : Nat} {v : Value} {zs : List Int} (h : IsZg w g v zs) : IsZ w v zs := by
  obtain ⟨p, c, h1, h2, h3⟩ := h
  exact ⟨p, c, h1, h2, fun h0 => by obtain ⟨b, off, e, hb, _, hc⟩ := h3 h0; exact ⟨b, off, e, hb, hc⟩⟩
theorem IsZ.isZg {w : World} {g : Nat} {v : Value} {zs : List Int} (h : IsZ w v zs) (hg : w.heap.size ≤ g) : IsZg w g v zs := by
  obtain ⟨p, c, h1, h2, h3⟩ := h
  exact ⟨p, c, h1, h2, fun h0 => by obtain ⟨b, off, e, hb, hc⟩ := h3 h0; exact ⟨b, off, e, hb, by omega, hc⟩⟩
theorem IsZg.below {w w' : World} {g : Nat} {v : Value} {zs : List Int} (h : IsZg w g v zs) (hb : Below w.heap.size w w') : IsZg w' g v zs := by
  obtain ⟨p, c, h1, h2, h3⟩ := h
  refine ⟨p, c, h1, h2, fun h0 => ?_⟩
  obtain ⟨b, off, e, hg, hne, hc⟩ := h3 h0
  exact ⟨b, off, e, Nat.lt_of_lt_of_le hg hb.size, hne, fun j hj => (hb.cell (p := ⟨b, off + j, none⟩) hg).trans (hc j hj)⟩
theorem IsZg.set {w : World} {g : Nat} {v : Value} {zs : List Int} (h : IsZg w g v zs) (i : Nat) (u : Value) : IsZg (w.setCell ⟨g, i, none⟩ u) g v zs := by
  obtain ⟨p, c, h1, h2, h3⟩ := h
  refine ⟨p, c, h1, h2, fun h0 => ?_⟩
  obtain ⟨b, off, e, hg, hne, hc⟩ := h3 h0
  refine ⟨b, off, e, by simpa [World.setCell] using hg, hne, fun j hj => ?_⟩
  rw [World.cell?_setCell_other _ _ _ _ (fun e => hne (by injection e with e1; exact e1.symm))]
  exact hc j hj
/-- A row of offices that may be written. -/
structure Rw (w : World) (g : Nat) (os : List Of) : Prop where
  lt : g < w.heap.size
  cs : ∀ (j : Nat) o, os[j]? = some o → ∀ k v, (c5 o)[k]? = some v → w.cell? ⟨g, j * 5 + k, none⟩ = some v
  nx : ∀ o ∈ os, IsZg w g o.nv o.nx
  there : w.there g 0 (os.length * 5)
theorem Rw.below {w w' : World} {g : Nat} {os : List Of} (h : Rw w g os) (hb : Below w.heap.size w w') : Rw w' g os where
  lt := Nat.lt_of_lt_of_le h.lt hb.size
  cs j o ho k v hv := (hb.cell (p := ⟨g, j * 5 + k, none⟩) h.lt).trans (h.cs j o ho k v hv)
  nx o ho := (h.nx o ho).below hb
  there j hj := by
    have := h.there j hj
    rw [hb.cell (p := ⟨g, 0 + j, none⟩) h.lt, hb.frozen (p := ⟨g, 0 + j, none⟩) h.lt]; exact this
theorem Rw.at {w : World} {g : Nat} {os : List Of} (h : Rw w g os) {j : Nat} {o : Of} (ho : os[j]? = some o) : OfAt w g (j * 5) o :=
  ⟨h.lt, h.cs j o ho 0 _ rfl, h.cs j o ho 1 _ rfl, h.cs j o ho 2 _ rfl, h.cs j o ho 3 _ rfl, h.cs j o ho 4 _ rfl, (h.nx o (List.mem_of_getElem? ho)).isZ⟩
theorem Rw.isO {w : World} {g c : Nat} {os : List Of} (h : Rw w g os) (hc : os.length ≤ c) : IsO w (.slice (some ⟨g, 0, none⟩) os.length c) os :=
  ⟨some ⟨g, 0, none⟩, c, rfl, hc, fun _ => ⟨g, 0, rfl, fun j o ho => by rw [Nat.zero_add]; exact h.at ho⟩⟩
theorem c5_lt {o : Of} {k : Nat} {v : Value} (h : (c5 o)[k]? = some v) : k < 5 := (List.getElem?_eq_some_iff.1 h).1
theorem Rw.set {w : World} {g : Nat} {os : List Of} (h : Rw w g os) {i k : Nat} {o : Of} (o' : Of) (u : Value) (ho : os[i]? = some o) (hk : (c5 o')[k]? = some u) (hs : ∀ m, m ≠ k → (c5 o')[m]? = (c5 o)[m]?) (hz : IsZg w g o'.nv o'.nx) :
    Rw (w.setCell ⟨g, i * 5 + k, none⟩ u) g (os.set i o') := by
  have k5 := c5_lt hk
  have hi := (List.getElem?_eq_some_iff.1 ho).1
  refine ⟨by simpa [World.setCell] using h.lt, fun j a ha m v hv => ?_, fun a ha => ?_, ?_⟩
  · have m5 := c5_lt hv
    by_cases e : j = i
    · subst e
      obtain rfl : o' = a := by rw [List.getElem?_set_self hi] at ha; exact Option.some.inj ha
      by_cases f : m = k
      · subst f
        have t := (h.there (j * 5 + m) (by omega)).1
        rw [Nat.zero_add] at t
        rw [World.cell?_setCell_same' _ _ _ t]
        rw [hk] at hv
        exact hv
      · rw [World.cell?_setCell_other _ _ _ _ (fun e => f (by injection e with _ e2; omega))]
        exact h.cs j o ho m v (by rw [← hs m f]; exact hv)
    · rw [List.getElem?_set_ne (fun h => e h.symm)] at ha
      rw [World.cell?_setCell_other _ _ _ _ (fun e2 => e (by injection e2 with _ e3; omega))]
      exact h.cs j a ha m v hv
  · rcases List.mem_or_eq_of_mem_set ha with h1 | rfl
    · exact (h.nx a h1).set _ _
    · exact hz.set _ _
  · rw [List.length_set]
    exact show (w.setCells g _ [u]).there g 0 _ from World.there_setCells h.there _ _ _
set_option maxRecDepth 100000 in
theorem cloneO_any (v : Value) (os : List Of) (w : World) (hv : IsO w v os) (hn : os.length ≤ 1000) (h0 : 0 < os.length) :
    Calls Try.prog 39 #[v] w fun e w' => ∃ g c, e = .returned (.slice (some ⟨g, 0, none⟩) os.length c) ∧ os.length ≤ c ∧ w.heap.size ≤ g ∧ Rw w' g os ∧ Below w.heap.size w w' := by
  obtain ⟨p, c, rfl, hc, hp⟩ := hv
  obtain ⟨g, off, rfl, hcell⟩ := hp h0
  refine (AnyE.slices_Clone Try.cloneO _ _ 5 64 rfl rfl rfl rfl (by kernel_rfl) (by omega) (fun w => by kernel_rfl) g off os.length c (cellsO os) w (cellsO_len os) (by unfold maxLen; omega) (by omega) (fun j u hj => ?_) (cellsO_one os)).mono ?_
  · obtain ⟨i, o, k, ho, hk, rfl, hu⟩ := cellsO_inv hj
    have A := hcell i o ho
    rw [← Nat.add_assoc]
    have : k = 0 ∨ k = 1 ∨ k = 2 ∨ k = 3 ∨ k = 4 := by omega
    rcases this with rfl | rfl | rfl | rfl | rfl
    · rw [← hu]; exact A.c0
    · rw [← hu]; exact A.c1
    · rw [← hu]; exact A.c2
    · rw [← hu]; exact A.c3
    · rw [← hu]; exact A.c4
  · rintro e w' ⟨v', rfl, own, -, bel⟩
    rcases own.2 with ⟨_, h1⟩ | ⟨b, cap, cur, rfl, hb, hg, hcap, hm, hs, ht⟩
    · omega
    · have hcs : ∀ j u, (cellsO os)[j]? = some u → w'.cell? ⟨b, j, none⟩ = some u := fun j u hj => by
        have := own.cells (g := b) rfl j u hj
        rwa [Addr.add_lit, Nat.zero_add] at this
      refine ⟨b, cap, rfl, hcap, hb, ⟨(Array.getElem?_eq_some_iff.1 hg).1, fun j o ho k v hv => hcs _ _ (by rw [cellsO_get os j o ho k (c5_lt hv)]; exact hv), fun o ho => ?_, fun j hj => ?_⟩, bel⟩
      · obtain ⟨j, hj⟩ := List.mem_iff_getElem?.1 ho
        exact ((hcell j o hj).nx.isZg hb).below bel
      · rw [Nat.zero_add, cell_of_row w' b j cur _ (0, 0) hg]
        exact ⟨by rw [Array.getElem?_eq_getElem (by omega)]; rfl, frozen_of_row w' b j cur _ hg⟩
theorem own_zg {w : World} {K : Nat} {v : Value} {zs : List Int} (h : w.ownsRow K 3 1 v zs.length (zs.map encZ)) : ∃ p c, v = .slice p zs.length c ∧ ∀ g, g < K → IsZg w g (.slice p zs.length c) zs := by
  rcases h.2 with ⟨rfl, h0⟩ | ⟨g, cap, cur, rfl, hb, hg, hc, hm, hs, ht⟩
  · exact ⟨none, 0, by rw [h0], fun g _ => ⟨none, 0, by rw [h0], by omega, fun g => by omega⟩⟩
  · refine ⟨some ⟨g, 0, none⟩, cap, rfl, fun k hk => ⟨some ⟨g, 0, none⟩, cap, rfl, hc, fun _ => ⟨g, 0, rfl, (Array.getElem?_eq_some_iff.1 hg).1, by omega, fun j hj => ?_⟩⟩⟩
    have := h.cells (g := g) rfl j (.int .i64 zs[j]) (by simp [hj, encZ])
    rw [Addr.add_lit] at this
    exact this
set_option maxRecDepth 100000 in
/-- Clone of numbers: the same ones elsewhere. -/
theorem cloneZ_any (v : Value) (zs : List Int) (w : World) (hv : IsZ w v zs) (hn : zs.length ≤ 1000) :
    Calls Try.prog 40 #[v] w fun e w' => ∃ p c, e = .returned (.slice p zs.length c) ∧ (∀ g, g < w.heap.size → IsZg w' g (.slice p zs.length c) zs) ∧ Below w.heap.size w w' := by
  obtain ⟨p, c, rfl, hc, hp⟩ := hv
  by_cases h0 : zs.length = 0
  · obtain rfl := List.length_eq_zero_iff.1 h0
    cases p with
    | none =>
      refine (Any.slices_Clone_int_nil Try.laysNm215 _ c w).mono ?_
      rintro e w' ⟨rfl, rfl⟩
      exact ⟨none, 0, rfl, fun g _ => ⟨none, 0, rfl, Nat.le_refl _, fun h => absurd h (by simp)⟩, Below.refl _ _⟩
    | some a =>
      refine (Any.slices_Clone_int_zero Try.laysNm215 a c w).mono ?_
      rintro e w' ⟨v', rfl, own, -, bel⟩
      obtain ⟨p, c, rfl, h⟩ := own_zg (zs := []) own
      exact ⟨p, c, rfl, h, bel⟩
  · obtain ⟨g, off, rfl, _, hcl⟩ := hp (by omega)
    refine (Any.slices_Clone_int Try.laysNm215 g off zs.length c zs w (Nat.le_refl _) (by omega) (fun j hj => ?_)).mono ?_
    · rw [hcl j hj]
      simp [List.getD, List.getElem?_eq_getElem hj]
    · rintro e w' ⟨v', rfl, own, -, bel⟩
      rw [List.take_length] at own
      obtain ⟨p, c, rfl, h⟩ := own_zg (zs := zs) own
      exact ⟨p, c, rfl, h, bel⟩
end Go.Proofs.Ytlmgjgcdfhccaaa
