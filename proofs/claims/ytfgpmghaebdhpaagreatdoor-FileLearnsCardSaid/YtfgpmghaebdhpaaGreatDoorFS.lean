/- The reference's Few of one file. -/
import Derived.Test.YtfgpmghaebdhpaaGreatDoorFR
namespace Go.Proofs.YtfgpmghaebdhpaaGreatDoor
open Go.RowKit Go.Maps Go.Shelf

/-- A file in memory, at the beginning of a block. -/
structure FAt (w : World) (G : Nat) (x : Fl) : Prop where
  lt : G < w.heap.size
  c0 : w.cell? ⟨G, 0, none⟩ = some (.int .i64 x.id)
  c1 : w.cell? ⟨G, 1, none⟩ = some (.int .i64 x.of)
  c2 : w.cell? ⟨G, 2, none⟩ = some (.int .i64 x.op)
  c3 : w.cell? ⟨G, 3, none⟩ = some (.int .i64 x.cl)
  c4 : w.cell? ⟨G, 4, none⟩ = some (.string x.cs)
  c5 : w.cell? ⟨G, 5, none⟩ = some (.string x.ti)
  c6 : w.cell? ⟨G, 6, none⟩ = some (.int .i64 x.pt)
  c7 : w.cell? ⟨G, 7, none⟩ = some x.nv
theorem FAt.below {w w' : World} {G : Nat} {x : Fl} (h : FAt w G x) (hb : Below w.heap.size w w') : FAt w' G x :=
  ⟨Nat.lt_of_lt_of_le h.lt hb.size, (hb.cell (p := ⟨G, 0, none⟩) h.lt).trans h.c0, (hb.cell (p := ⟨G, 1, none⟩) h.lt).trans h.c1, (hb.cell (p := ⟨G, 2, none⟩) h.lt).trans h.c2, (hb.cell (p := ⟨G, 3, none⟩) h.lt).trans h.c3, (hb.cell (p := ⟨G, 4, none⟩) h.lt).trans h.c4, (hb.cell (p := ⟨G, 5, none⟩) h.lt).trans h.c5, (hb.cell (p := ⟨G, 6, none⟩) h.lt).trans h.c6, (hb.cell (p := ⟨G, 7, none⟩) h.lt).trans h.c7⟩
def fVal (x : Fl) : Value := .agg #[.int .i64 x.id, .int .i64 x.of, .int .i64 x.op, .int .i64 x.cl, .string x.cs, .string x.ti, .int .i64 x.pt, .slice x.p x.ns.length x.c]
theorem FAt.new (w : World) (x : Fl) : FAt (w.alloc (.cells #[.int .i64 x.id, .int .i64 x.of, .int .i64 x.op, .int .i64 x.cl, .string x.cs, .string x.ti, .int .i64 x.pt, x.nv] 24)) w.heap.size x := by
  have C := nCell w #[.int .i64 x.id, .int .i64 x.of, .int .i64 x.op, .int .i64 x.cl, .string x.cs, .string x.ti, .int .i64 x.pt, x.nv] 24
  exact ⟨nLt (C 0), C 0, C 1, C 2, C 3, C 4, C 5, C 6, C 7⟩
def FewZ (n : Nat) (w : World) (e : Ending) (w' : World) : Prop := ∃ z, e = .returned (.bool z) ∧ (z = true → n ≤ 20) ∧ Below w.heap.size w w'
set_option maxRecDepth 100000 in
set_option maxHeartbeats 8000000 in
theorem few1_any (x : Fl) (G : Nat) (w : World) (hf : FAt w G x) (hv : IsNt w x.nv x.ns) :
    Calls Tryz.prog 7 #[.slice (some ⟨G, 0, none⟩) 1 1] w (FewZ x.ns.length w) := by
  obtain ⟨id, of, op, cl, cs, ti, pt, ns, p, c⟩ := x
  obtain ⟨_, c0, c1, c2, c3, c4, c5, c6, c7⟩ := hf
  replace c7 : w.cell? ⟨G, 7, none⟩ = some (.slice p ns.length c) := c7
  replace c4 : w.cell? ⟨G, 4, none⟩ = some (.string cs) := c4
  replace c5 : w.cell? ⟨G, 5, none⟩ = some (.string ti) := c5
  obtain ⟨p', c', e', hc, hp⟩ := hv
  obtain ⟨rfl, -, rfl⟩ := Value.slice.inj (show Value.slice p ns.length c = .slice p' ns.length c' from e')
  replace hp : 0 < ns.length → ∃ g off, p = some ⟨g, off, none⟩ ∧ ∀ (j : Nat) x, ns[j]? = some x → NtAt w g (off + j * 4) x := hp
  show Calls Tryz.prog 7 #[.slice (some ⟨G, 0, none⟩) 1 1] w (FewZ ns.length w)
  obtain ⟨n, hnn⟩ : ∃ n, n = ns.length := ⟨_, rfl⟩
  rw [← hnn] at c7 hc ⊢
  have HN := Lib.hid hnn
  have HP := Lib.hid hp
  clear hp hnn e' c0 c1 c2 c3 c6
  by_cases h : 20 < n
  · have D : decide (20 < (n : Int)) = true := by simpa using (by omega : (20 : Int) < (n : Int))
    have D' : decide (20 < n) = true := by simpa using h
    clear h
    go_enter Tryz.func7, Tryz.ntmps7
    go_wp2_with fail
    go_loop [3] (fun i => i = .int .i64 0) (fun _ => 0)
    case atStart => rfl
    case round =>
      subst hrel
      go_wp2_with fail
      go_ret
      exact ⟨false, rfl, fun h => (by cases h), Below.refl _ _⟩
  have hn : n ≤ 20 := by omega
  have D : decide (20 < (n : Int)) = false := by simpa using (by omega : (n : Int) ≤ 20)
  have D' : decide (20 < n) = false := by simpa using hn
  by_cases h2 : 100 < ti.size
  · have E : decide (100 < (ti.size : Int)) = true := by simpa using (by omega : (100 : Int) < (ti.size : Int))
    have E' : decide (100 < ti.size) = true := by simpa using h2
    clear h h2
    go_enter Tryz.func7, Tryz.ntmps7
    go_wp2_with fail
    go_loop [3] (fun i => i = .int .i64 0) (fun _ => 0)
    case atStart => rfl
    case round =>
      subst hrel
      go_wp2_with fail
      go_ret
      exact ⟨false, rfl, fun h => (by cases h), Below.refl _ _⟩
  have E : decide (100 < (ti.size : Int)) = false := by simpa using (by omega : (ti.size : Int) ≤ 100)
  have E' : decide (100 < ti.size) = false := by simpa using (by omega : ti.size ≤ 100)
  by_cases h3 : 100 < cs.size
  · have F : decide (100 < (cs.size : Int)) = true := by simpa using (by omega : (100 : Int) < (cs.size : Int))
    have F' : decide (100 < cs.size) = true := by simpa using h3
    clear h h2 h3
    go_enter Tryz.func7, Tryz.ntmps7
    go_wp2_with fail
    go_loop [3] (fun i => i = .int .i64 0) (fun _ => 0)
    case atStart => rfl
    case round =>
      subst hrel
      go_wp2_with fail
      go_ret
      exact ⟨false, rfl, fun h => (by cases h), Below.refl _ _⟩
  have F : decide (100 < (cs.size : Int)) = false := by simpa using (by omega : (cs.size : Int) ≤ 100)
  have F' : decide (100 < cs.size) = false := by simpa using (by omega : cs.size ≤ 100)
  clear h h2 h3
  go_enter Tryz.func7, Tryz.ntmps7
  go_wp2_with fail
  go_loop [3, 4] (fun i _ => i = .int .i64 0 ∨ i = .int .i64 1) (fun i _ => 1 - (intOf i).toNat)
  case atStart => exact Or.inl rfl
  case round =>
    rcases hrel with rfl | rfl
    · go_wp2_with fail
      go_loop [4] (fun i => ∃ k : Nat, k ≤ n ∧ i = .int .i64 k) (fun i => n - (intOf i).toNat)
      case atStart => exact ⟨0, Nat.zero_le _, rfl⟩
      case round =>
        obtain ⟨k, hk, rfl⟩ := hrel
        by_cases hlt : k < n
        · obtain ⟨x, hx⟩ : ∃ x, ns[k]? = some x := ⟨_, List.getElem?_eq_getElem (by rw [← HN.out]; exact hlt)⟩
          obtain ⟨g, off, rfl, hcell⟩ := HP.out (by rw [← HN.out]; omega)
          obtain ⟨-, a0, -, -, -⟩ := hcell k x hx
          obtain ⟨nm, f, l, r⟩ := x
          replace a0 : w.cell? ⟨g, off + k * 4, none⟩ = some (.string nm) := a0
          clear hcell hx
          by_cases h4 : 100 < nm.size
          · have G1 : decide (100 < (nm.size : Int)) = true := by simpa using (by omega : (100 : Int) < (nm.size : Int))
            have G1' : decide (100 < nm.size) = true := by simpa using h4
            clear h4
            go_wp2_with fail
            go_ret
            exact ⟨false, rfl, fun h => (by cases h), Below.refl _ _⟩
          · have G1 : decide (100 < (nm.size : Int)) = false := by simpa using (by omega : (nm.size : Int) ≤ 100)
            have G1' : decide (100 < nm.size) = false := by simpa using (by omega : nm.size ≤ 100)
            clear h4
            go_wp2_with fail
            go_round
            case rel => exact ⟨k + 1, by omega, by go_num⟩
            case measure => simp [intOf]; omega
        · obtain rfl : k = n := by omega
          go_wp2_with fail
          go_round
          case rel => exact Or.inr (by go_num)
          case measure => simp [intOf]
    · go_wp2_with fail
      go_ret
      exact ⟨true, rfl, fun _ => hn, Below.refl _ _⟩
end Go.Proofs.YtfgpmghaebdhpaaGreatDoor
