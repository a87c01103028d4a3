/- Few, Contains. -/
import Derived.Test.YtnjnjcgbdhiigaaGreatDoorDD
import Derived.Test.YtnjnjcgbdhiigaaGreatDoorDE
namespace Go.Proofs.YtnjnjcgbdhiigaaGreatDoor
open Go.RowKit Go.Shelf

/-- A list of strings in memory, of whatever length. -/
def IsS (w : World) (q : Option Addr) (n : Nat) (S : Nat → ByteArray) : Prop := 0 < n → ∃ g off, q = some ⟨g, off, none⟩ ∧ g < w.heap.size ∧ ∀ j, j < n → w.cell? ⟨g, off + j, none⟩ = some (.string (S j))
theorem IsS.below {w w' : World} {q : Option Addr} {n : Nat} {S : Nat → ByteArray} (h : IsS w q n S) (hb : Below w.heap.size w w') : IsS w' q n S := fun h0 => by
  obtain ⟨g, off, e, hg, hc⟩ := h h0
  exact ⟨g, off, e, Nat.lt_of_lt_of_le hg hb.size, fun j hj => (hb.cell (p := ⟨g, off + j, none⟩) hg).trans (hc j hj)⟩
def FewP (n : Nat) (S : Nat → ByteArray) : Prop := ¬ (30 < n ∧ n ≤ 1024) ∧ n ≤ 1034 ∧ ∀ j, j < n → (S j).size ≤ 100
def FewR (n : Nat) (S : Nat → ByteArray) (w : World) (e : Ending) (w' : World) : Prop := ∃ z, e = .returned (.bool z) ∧ (z = true ↔ FewP n S) ∧ w = w'
set_option maxHeartbeats 4000000 in
theorem few_any (q : Option Addr) (n c : Nat) (S : Nat → ByteArray) (w : World) (hq : IsS w q n S) :
    Calls Tryz.prog 15 #[.slice q n c] w (FewR n S w) := by
  by_cases a : 30 < n ∧ n ≤ 1024
  · have da : decide (30 < (n : Int)) = true := by simpa using (by omega : (30 : Int) < (n : Int))
    have db : decide ((n : Int) ≤ 1024) = true := by simpa using (by omega : (n : Int) ≤ 1024)
    have N := Lib.hid (show (false = true ↔ FewP n S) from ⟨fun h => (by cases h), fun h => absurd a h.1⟩)
    clear a hq
    go_enter Tryz.func15, Tryz.ntmps15
    go_wp2_with fail
    go_ret
    exact ⟨false, rfl, N.out, rfl⟩
  by_cases d : 1034 < n
  · have da : decide (30 < (n : Int)) = true := by simpa using (by omega : (30 : Int) < (n : Int))
    have db : decide ((n : Int) ≤ 1024) = false := by simpa using (by omega : (1024 : Int) < (n : Int))
    have dd : decide (1034 < (n : Int)) = true := by simpa using (by omega : (1034 : Int) < (n : Int))
    have N := Lib.hid (show (false = true ↔ FewP n S) from ⟨fun h => (by cases h), fun h => by have := h.2.1; omega⟩)
    clear a d hq
    go_enter Tryz.func15, Tryz.ntmps15
    go_wp2_with fail
    go_ret
    exact ⟨false, rfl, N.out, rfl⟩
  have dd : decide (1034 < (n : Int)) = false := by simpa using (by omega : (n : Int) ≤ 1034)
  have n1 := Lib.hid (show ¬ (30 < n ∧ n ≤ 1024) ∧ n ≤ 1034 from ⟨a, by omega⟩)
  have nb : n ≤ 1034 := by omega
  have HQ := Lib.hid hq
  have cse : (decide (30 < (n : Int)) = true ∧ decide ((n : Int) ≤ 1024) = false) ∨ (decide (30 < (n : Int)) = false ∧ n = n) := by
    by_cases h : 30 < n
    · exact Or.inl ⟨by simpa using (by omega : (30 : Int) < (n : Int)), by simpa using (by omega : (1024 : Int) < (n : Int))⟩
    · exact Or.inr ⟨by simpa using (by omega : (n : Int) ≤ 30), rfl⟩
  clear a d hq
  rcases cse with ⟨da, db⟩ | ⟨da, _⟩
  all_goals
    go_enter Tryz.func15, Tryz.ntmps15
    go_wp2_with fail
    go_loop [3] (fun i => ∃ k : Nat, k ≤ n ∧ i = .int .i64 k ∧ Hid (∀ j, j < k → (S j).size ≤ 100)) (fun i => n - (intOf i).toNat)
    case atStart => exact ⟨0, Nat.zero_le _, rfl, fun j h => by omega⟩
    case round =>
      obtain ⟨k, hk, rfl, hrel⟩ := hrel
      by_cases hlt : k < n
      · obtain ⟨g, off, rfl, _, hc⟩ := HQ.out (by omega)
        have cx := hc k hlt
        obtain ⟨s, hs⟩ : ∃ s, s = S k := ⟨_, rfl⟩
        rw [← hs] at cx
        have HS := Lib.hid hs
        clear hs hc
        by_cases h : 100 < s.size
        · have D : decide (100 < (s.size : Int)) = true := by simpa using (by omega : (100 : Int) < (s.size : Int))
          have N := Lib.hid (show (false = true ↔ FewP n S) from ⟨fun h => (by cases h), fun g => by have := g.2.2 k hlt; rw [← HS.out] at this; omega⟩)
          clear h
          go_wp2
          go_ret
          exact ⟨false, rfl, N.out, rfl⟩
        · have D : decide (100 < (s.size : Int)) = false := by simpa using (by omega : (s.size : Int) ≤ 100)
          have N := Lib.hid (show ∀ j, j < k + 1 → (S j).size ≤ 100 from fun j hj => by
            by_cases e : j = k
            · rw [e, ← HS.out]; omega
            · exact hrel.out j (by omega))
          clear h hrel
          go_wp2
          go_round
          case rel => exact ⟨k + 1, by omega, by go_num, N.out⟩
          case measure => simp [intOf]; omega
      · obtain rfl : k = n := by omega
        have N := Lib.hid (show FewP k S from ⟨n1.out.1, n1.out.2, hrel.out⟩)
        clear hrel
        go_wp2
        go_ret
        exact ⟨true, rfl, ⟨fun _ => N.out, fun _ => rfl⟩, rfl⟩
end Go.Proofs.YtnjnjcgbdhiigaaGreatDoor
