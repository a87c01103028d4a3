/- Free: the parent's numbers, the search. -/
import Derived.Test.YtnjnjcgbdhiigaaGreatDoorCT
namespace Go.Proofs.YtnjnjcgbdhiigaaGreatDoor
open Go.RowKit Go.Shelf

/-- The numbers above: none, or those of a code. -/
def Abv (l : List UInt8) (ns : List Nat) : Prop := (l = [] ∧ ns = []) ∨ PR l ns
/-- What parseAbove returns. -/
def TopR (l : List UInt8) (w : World) (e : Ending) (w' : World) : Prop :=
  ((∃ v, ∃ ns : List Nat, Abv l ns ∧ e = .returned (.tuple #[v, .int .i64 0]) ∧ w'.ownsRow (w.heap.size + 6) 3 1 v ns.length (ns.map encN)) ∨ ((∀ ns, ¬ Abv l ns) ∧ e = .returned (.tuple #[.slice none 0 0, .int .i64 3]))) ∧ Below w.heap.size w w'
set_option maxHeartbeats 2000000 in
theorem above_any (s : Txt) (w : World) (hw : Lw w) : Calls Tryz.prog 41 #[.string s.1] w (TopR (bts s) w) := by
  obtain ⟨s, hs⟩ := s
  show Calls Tryz.prog 41 #[.string s] w (TopR s.data.toList w)
  by_cases h0 : s.size = 0
  · have e1 := empt h0
    have e2 : s.toList.isEmpty = true := by rw [e1]; rfl
    have N := Lib.hid ((nil_sz s).2 h0)
    clear hw hs h0
    go_enter Tryz.func41, Tryz.ntmps41
    go_wp2_with fail
    go_ret2
    exact ⟨Or.inl ⟨_, [], Or.inl ⟨N.out, rfl⟩, rfl, World.ownsRow_nil _ _ _ _⟩, Below.refl _ _⟩
  · have c1 := nempty (by omega : 0 < s.size)
    have c2 : (!s.toList.isEmpty) = true := by simpa using c1
    have c2' : s.toList.isEmpty = false := by simpa using c1
    have N := Lib.hid (show ¬ s.data.toList = [] from fun h => h0 ((nil_sz s).1 h))
    have PA := Lib.hid (Parse_any ⟨s, hs⟩ w hw)
    clear h0 hw
    go_enter Tryz.func41, Tryz.ntmps41
    go_wp2_with fail
    refine PA.out.mono ?_; rintro e w1 ⟨⟨v, ns, p, rfl, ow⟩ | ⟨p, rfl⟩, b1⟩
    · have P := Lib.hid p
      have O := Lib.hid ow
      have B := Lib.hid b1
      clear p ow b1
      go_wp2_with fail
      go_ret2
      exact ⟨Or.inl ⟨v, ns, Or.inr P.out, rfl, O.out⟩, B.out⟩
    · have P := Lib.hid (show ∀ ns, ¬ Abv s.data.toList ns from fun ns h => h.elim (fun h => N.out h.1) (p ns))
      have B := Lib.hid b1
      clear p b1
      go_wp2_with fail
      go_ret2
      exact ⟨Or.inr ⟨P.out, rfl⟩, B.out⟩

/-- What the search finds among the marks u. -/
def IxR (m : Nat) (u : Nat → Bool) (r : Int) : Prop := (r = -1 ∧ ∀ k, 1 ≤ k → k ≤ m → u k = true) ∨ ∃ i : Nat, 1 ≤ i ∧ i ≤ m ∧ r = (i : Int) - 1 ∧ u i = false ∧ ∀ k, 1 ≤ k → k < i → u k = true
set_option maxHeartbeats 2000000 in
theorem index_any (m : Nat) (hm : m ≤ 2000) (u : Nat → Bool) (g : Nat) (w : World) (hc : ∀ j, j < m + 1 → w.cell? ⟨g, j, none⟩ = some (.bool (u j))) :
    Calls Tryz.prog 43 #[.slice (some ⟨g, 1, none⟩) m m, .bool false] w fun e w' => ∃ r, e = .returned (.int .i64 r) ∧ IxR m u r ∧ Below w.heap.size w w' := by
  have HC := Lib.hid hc
  clear hc
  go_enter Tryz.func43, Tryz.ntmps43
  go_wp2_with fail
  go_loop [8] (fun i => ∃ k : Nat, k ≤ m ∧ i = .int .i64 k ∧ Hid (∀ j, 1 ≤ j → j < k + 1 → u j = true)) (fun i => m - (intOf i).toNat)
  case atStart => exact ⟨0, by omega, rfl, fun j h1 h2 => by omega⟩
  case round =>
    obtain ⟨k, hk, rfl, hrel⟩ := hrel
    by_cases hlt : k < m
    · have c := HC.out (1 + k) (by omega)
      cases hu : u (1 + k) with
      | true =>
        rw [hu] at c
        have NX := Lib.hid (show ∀ j, 1 ≤ j → j < k + 1 + 1 → u j = true from fun j h1 h2 => by
          by_cases e : j = 1 + k
          · rw [e]; exact hu
          · exact hrel.out j h1 (by omega))
        clear hu hrel
        go_wp2
        go_round
        case rel => exact ⟨k + 1, by omega, by go_num, NX.out⟩
        case measure => simp [intOf]; omega
      | false =>
        rw [hu] at c
        have FN := Lib.hid (show IxR m u (k : Int) from Or.inr ⟨1 + k, by omega, by omega, by omega, hu, fun j h1 h2 => hrel.out j h1 (by omega)⟩)
        clear hu hrel
        go_wp2
        go_ret
        exact ⟨_, rfl, FN.out, Below.refl _ _⟩
    · obtain rfl : k = m := by omega
      have FN := Lib.hid (show IxR k u (-1) from Or.inl ⟨rfl, fun j h1 h2 => hrel.out j h1 (by omega)⟩)
      clear hrel
      go_wp2
      go_ret
      exact ⟨_, rfl, FN.out, Below.refl _ _⟩
end Go.Proofs.YtnjnjcgbdhiigaaGreatDoor
