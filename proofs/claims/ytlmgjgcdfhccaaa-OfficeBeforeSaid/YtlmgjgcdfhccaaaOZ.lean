/- Few; SameInts; Chain and Heir as the law says. -/
import Derived.Test.YtlmgjgcdfhccaaaOY
namespace Go.Proofs.Ytlmgjgcdfhccaaa
open Go.RowKit Go.Maps Go.Shelf

/-- An office as it comes in. -/
structure Ow where
  id : Int
  nm : ByteArray
  fr : Int
  un : Int
  nx : List Int
  p : Option Addr
  c : Nat
structure OwAt (w : World) (g off : Nat) (o : Ow) : Prop where
  lt : g < w.heap.size
  c0 : w.cell? ⟨g, off, none⟩ = some (.int .i64 o.id)
  c1 : w.cell? ⟨g, off + 1, none⟩ = some (.string o.nm)
  c2 : w.cell? ⟨g, off + 2, none⟩ = some (.int .i64 o.fr)
  c3 : w.cell? ⟨g, off + 3, none⟩ = some (.int .i64 o.un)
  c4 : w.cell? ⟨g, off + 4, none⟩ = some (.slice o.p o.nx.length o.c)
  nx : IsZ w (.slice o.p o.nx.length o.c) o.nx
  w0 : W64 o.id ∧ W64 o.fr ∧ W64 o.un ∧ ∀ x ∈ o.nx, W64 x
theorem OwAt.below {w w' : World} {g off : Nat} {o : Ow} (h : OwAt w g off o) (hb : Below w.heap.size w w') : OwAt w' g off o :=
  ⟨Nat.lt_of_lt_of_le h.lt hb.size, (hb.cell (p := ⟨g, off, none⟩) h.lt).trans h.c0, (hb.cell (p := ⟨g, off + 1, none⟩) h.lt).trans h.c1, (hb.cell (p := ⟨g, off + 2, none⟩) h.lt).trans h.c2, (hb.cell (p := ⟨g, off + 3, none⟩) h.lt).trans h.c3, (hb.cell (p := ⟨g, off + 4, none⟩) h.lt).trans h.c4, h.nx.below hb, h.w0⟩
def IsW (w : World) (q : Option Addr) (n : Nat) (S : Nat → Ow) : Prop := 0 < n → ∃ g off, q = some ⟨g, off, none⟩ ∧ ∀ j, j < n → OwAt w g (off + j * 5) (S j)
theorem IsW.below {w w' : World} {q : Option Addr} {n : Nat} {S : Nat → Ow} (h : IsW w q n S) (hb : Below w.heap.size w w') : IsW w' q n S := fun h0 => by
  obtain ⟨g, off, e, hc⟩ := h h0
  exact ⟨g, off, e, fun j hj => (hc j hj).below hb⟩
def FewP (n : Nat) (S : Nat → Ow) : Prop := ¬ (12 < n ∧ n ≤ 32) ∧ n ≤ 37 ∧ ∀ j, j < n → (S j).nx.length ≤ 10 ∧ (S j).nm.size ≤ 100
def FewR (n : Nat) (S : Nat → Ow) (w : World) (e : Ending) (w' : World) : Prop := ∃ z, e = .returned (.bool z) ∧ (z = true ↔ FewP n S) ∧ Below w.heap.size w w'
/-- A list that is small enough. -/
theorem IsW.isO {w : World} {q : Option Addr} {n c : Nat} {S : Nat → Ow} (h : IsW w q n S) (hc : n ≤ c) : ∃ os, os.length = n ∧ IsO w (.slice q n c) os ∧ NumO os := by
  have ex : ∀ j, ∃ o : Of, j < n → o.id = (S j).id ∧ o.nm.1 = (S j).nm ∧ o.fr = (S j).fr ∧ o.un = (S j).un ∧ o.nx = (S j).nx ∧ o.p = (S j).p ∧ o.c = (S j).c := fun j => by
    by_cases hj : j < n
    · exact ⟨⟨(S j).id, ⟨(S j).nm, Nat.zero_le _⟩, (S j).fr, (S j).un, (S j).nx, (S j).p, (S j).c⟩, fun _ => ⟨rfl, rfl, rfl, rfl, rfl, rfl, rfl⟩⟩
    · exact ⟨⟨0, ⟨⟨#[]⟩, by decide⟩, 0, 0, [], none, 0⟩, fun g => absurd g hj⟩
  obtain ⟨F, hF⟩ : ∃ F : Nat → Of, ∀ j, j < n → (F j).id = (S j).id ∧ (F j).nm.1 = (S j).nm ∧ (F j).fr = (S j).fr ∧ (F j).un = (S j).un ∧ (F j).nx = (S j).nx ∧ (F j).p = (S j).p ∧ (F j).c = (S j).c := ⟨fun j => Classical.choose (ex j), fun j => Classical.choose_spec (ex j)⟩
  have len : ((List.range n).map F).length = n := by simp
  have get : ∀ j o, ((List.range n).map F)[j]? = some o → j < n ∧ o = F j := fun j o hj => by
    rw [List.getElem?_map] at hj
    by_cases h : j < n
    · rw [List.getElem?_range h] at hj
      exact ⟨h, (by simpa using hj.symm)⟩
    · rw [List.getElem?_eq_none (by simp; omega)] at hj
      simp at hj
  refine ⟨(List.range n).map F, len, ⟨q, c, by rw [len], by rw [len]; exact hc, fun h0 => ?_⟩, fun o ho => ?_⟩
  · rw [len] at h0
    obtain ⟨g, off, e, hcell⟩ := h h0
    refine ⟨g, off, e, fun j o hj => ?_⟩
    obtain ⟨lj, rfl⟩ := get j o hj
    obtain ⟨e1, e2, e3, e4, e5, e6, e7⟩ := hF j lj
    have H := hcell j lj
    have nv : (F j).nv = .slice (S j).p (S j).nx.length (S j).c := by unfold Of.nv; rw [e5, e6, e7]
    exact ⟨H.lt, by rw [e1]; exact H.c0, by rw [e2]; exact H.c1, by rw [e3]; exact H.c2, by rw [e4]; exact H.c3, by rw [nv]; exact H.c4, by rw [nv, e5]; exact H.nx⟩
  · obtain ⟨j, hj⟩ := List.mem_iff_getElem?.1 ho
    obtain ⟨lj, rfl⟩ := get j o hj
    obtain ⟨e1, e2, e3, e4, e5, e6, e7⟩ := hF j lj
    obtain ⟨g, off, e, hcell⟩ := h (by omega)
    have H := (hcell j lj).w0
    rw [e1, e3, e4, e5]
    exact ⟨H.1, H.2.1, H.2.2.1, H.2.2.2, Nat.zero_le _⟩
set_option maxRecDepth 100000 in
set_option maxHeartbeats 4000000 in
theorem few_any (q : Option Addr) (n c : Nat) (S : Nat → Ow) (w : World) (hq : IsW w q n S) :
    Calls Try.prog 10 #[.slice q n c] w (FewR n S w) := by
  by_cases a : 12 < n ∧ n ≤ 32
  · have da : decide (12 < (n : Int)) = true := by simpa using (by omega : (12 : Int) < (n : Int))
    have db : decide ((n : Int) ≤ 32) = true := by simpa using (by omega : (n : Int) ≤ 32)
    have N := Lib.hid (show (false = true ↔ FewP n S) from ⟨fun h => (by cases h), fun h => absurd a h.1⟩)
    clear a hq
    go_enter Try.func10, Try.ntmps10
    go_wp2_with fail
    go_ret
    exact ⟨false, rfl, N.out, Below.refl _ _⟩
  by_cases d : 37 < n
  · have da : decide (12 < (n : Int)) = true := by simpa using (by omega : (12 : Int) < (n : Int))
    have db : decide ((n : Int) ≤ 32) = false := by simpa using (by omega : (32 : Int) < (n : Int))
    have dd : decide (37 < (n : Int)) = true := by simpa using (by omega : (37 : Int) < (n : Int))
    have N := Lib.hid (show (false = true ↔ FewP n S) from ⟨fun h => (by cases h), fun h => by have := h.2.1; omega⟩)
    clear a d hq
    go_enter Try.func10, Try.ntmps10
    go_wp2_with fail
    go_ret
    exact ⟨false, rfl, N.out, Below.refl _ _⟩
  have dd : decide (37 < (n : Int)) = false := by simpa using (by omega : (n : Int) ≤ 37)
  have n1 := Lib.hid (show ¬ (12 < n ∧ n ≤ 32) ∧ n ≤ 37 from ⟨a, by omega⟩)
  have nb : n ≤ 37 := by omega
  have HQ := Lib.hid hq
  have cse : (decide (12 < (n : Int)) = true ∧ decide ((n : Int) ≤ 32) = false) ∨ (decide (12 < (n : Int)) = false ∧ n = n) := by
    by_cases h : 12 < n
    · exact Or.inl ⟨by simpa using (by omega : (12 : Int) < (n : Int)), by simpa using (by omega : (32 : Int) < (n : Int))⟩
    · exact Or.inr ⟨by simpa using (by omega : (n : Int) ≤ 12), rfl⟩
  clear a d hq
  rcases cse with ⟨da, db⟩ | ⟨da, _⟩
  all_goals
    go_enter Try.func10, Try.ntmps10
    go_wp2_with fail
    go_loopw [3] (fun i wr => ∃ k : Nat, k ≤ n ∧ i = .int .i64 k ∧ Hid (∀ j, j < k → (S j).nx.length ≤ 10 ∧ (S j).nm.size ≤ 100) ∧ ∃ qd, wr = w.drewN qd) (fun i _ => n - (intOf i).toNat)
    case atStart => exact ⟨0, Nat.zero_le _, rfl, fun j h => by omega, 0, rfl⟩
    case round =>
      obtain ⟨k, hk, rfl, hrel, qd, rfl⟩ := hrel
      by_cases hlt : k < n
      · obtain ⟨g, off, rfl, hc⟩ := HQ.out (by omega)
        have OA := (hc k hlt).below (below_drewN w qd)
        obtain ⟨s, hs⟩ : ∃ s, s = S k := ⟨_, rfl⟩
        rw [← hs] at OA
        obtain ⟨lt0, c0, c1, c2, c3, c4, -, -⟩ := OA
        obtain ⟨m, hm⟩ : ∃ m, m = s.nx.length := ⟨_, rfl⟩
        rw [← hm] at c4
        have HM := Lib.hid hm
        have HS := Lib.hid hs
        clear hs hc hm
        by_cases h : 10 < m
        · have D : decide (10 < (m : Int)) = true := by simpa using (by omega : (10 : Int) < (m : Int))
          have D' : decide (10 < m) = true := by simpa using h
          have N := Lib.hid (show (false = true ↔ FewP n S) from ⟨fun h => (by cases h), fun g => by have := (g.2.2 k hlt).1; rw [← HS.out, ← HM.out] at this; omega⟩)
          have BB := Lib.hid (below_drewN w qd)
          clear h
          go_wp2_with fail
          go_ret
          exact ⟨false, rfl, N.out, BB.out⟩
        · have D : decide (10 < (m : Int)) = false := by simpa using (by omega : (m : Int) ≤ 10)
          have D' : decide (10 < m) = false := by simpa using (by omega : m ≤ 10)
          by_cases h2 : 100 < s.nm.size
          · have E : decide (100 < (s.nm.size : Int)) = true := by simpa using (by omega : (100 : Int) < (s.nm.size : Int))
            have E' : decide (100 < s.nm.size) = true := by simpa using h2
            have N := Lib.hid (show (false = true ↔ FewP n S) from ⟨fun h => (by cases h), fun g => by have := (g.2.2 k hlt).2; rw [← HS.out] at this; omega⟩)
            have BB := Lib.hid (below_drewN w qd)
            clear h h2
            go_wp2_with fail
            go_ret
            exact ⟨false, rfl, N.out, BB.out⟩
          · have E : decide (100 < (s.nm.size : Int)) = false := by simpa using (by omega : (s.nm.size : Int) ≤ 100)
            have E' : decide (100 < s.nm.size) = false := by simpa using (by omega : s.nm.size ≤ 100)
            have N := Lib.hid (show ∀ j, j < k + 1 → (S j).nx.length ≤ 10 ∧ (S j).nm.size ≤ 100 from fun j hj => by
              by_cases e : j = k
              · rw [e, ← HS.out, ← HM.out]; omega
              · exact hrel.out j (by omega))
            clear h h2 hrel
            go_wp2_with fail
            go_roundw
            case rel => exact ⟨k + 1, by omega, by go_num, N.out, _, rfl⟩
            case measure => simp [intOf]; omega
      · obtain rfl : k = n := by omega
        have N := Lib.hid (show FewP k S from ⟨n1.out.1, n1.out.2, hrel.out⟩)
        have BB := Lib.hid (below_drewN w qd)
        clear hrel
        go_wp2_with fail
        go_ret
        exact ⟨true, rfl, ⟨fun _ => N.out, fun _ => rfl⟩, BB.out⟩
set_option maxHeartbeats 4000000 in
theorem sameInts_any (v u : Value) (zs : List Int) (w : World) (hv : IsZ w v zs) (hu : IsZ w u zs) (hn : zs.length ≤ 1048577) :
    Calls Try.prog 13 #[v, u] w fun e w' => e = .returned (.bool true) ∧ Below w.heap.size w w' := by
  obtain ⟨p, c, rfl, hc, hp⟩ := hv
  obtain ⟨q, d, rfl, hd, hq⟩ := hu
  obtain ⟨n, hnn⟩ : ∃ n, n = zs.length := ⟨_, rfl⟩
  rw [← hnn] at hc hd hn ⊢
  have HN := Lib.hid hnn
  have HP := Lib.hid hp
  have HQ := Lib.hid hq
  clear hp hq hnn
  go_enter Try.func13, Try.ntmps13
  go_wp2_with fail
  go_loopw [5] (fun si wr => ∃ k : Nat, k ≤ n ∧ si = .int .i64 k ∧ ∃ qd, wr = w.drewN qd) (fun si _ => n - (intOf si).toNat)
  case atStart => exact ⟨0, Nat.zero_le _, rfl, 0, rfl⟩
  case round =>
    obtain ⟨k, hk, rfl, qd, rfl⟩ := hrel
    by_cases hlt : k < n
    · have hlt' : k < zs.length := by rw [← HN.out]; exact hlt
      obtain ⟨g, off, rfl, _, hc1⟩ := HP.out (by omega)
      obtain ⟨g2, off2, rfl, _, hc2⟩ := HQ.out (by omega)
      obtain ⟨z, hz⟩ : ∃ z, z = zs[k] := ⟨_, rfl⟩
      have cz : ∀ m, (w.drewN m).cell? ⟨g, off + k, none⟩ = some (.int .i64 z) := fun m => by rw [hz]; exact hc1 k hlt'
      have cy : ∀ m, (w.drewN m).cell? ⟨g2, off2 + k, none⟩ = some (.int .i64 z) := fun m => by rw [hz]; exact hc2 k hlt'
      clear hz hc1 hc2 hlt'
      go_wp2_with fail
      go_quiet (fail)
      go_wp2_with fail
      go_roundw
      case rel => exact ⟨k + 1, by omega, by go_num, _, rfl⟩
      case measure => show n - ((k : Int) + 1).toNat < n - (k : Int).toNat; omega
    · obtain rfl : k = n := by omega
      have BB := Lib.hid (below_drewN w qd)
      go_wp2_with fail
      go_ret
      exact ⟨rfl, BB.out⟩
end Go.Proofs.Ytlmgjgcdfhccaaa
