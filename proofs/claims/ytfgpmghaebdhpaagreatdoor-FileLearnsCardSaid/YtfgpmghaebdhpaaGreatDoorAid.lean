/- Opening arguments: a file with its notes. -/
import Derived.Test.YtfgpmghaebdhpaaGreatDoorFS
import Derived.WalkKit
import Derived.ProofKit
import Derived.OpenShut
import Derived.ChangeSlices
import Derived.Deep.Strs
import Derived.Deep.SlicePairs
import Derived.Lib.SmallJoins
namespace Go.Proofs.YtfgpmghaebdhpaaGreatDoor.Aid
open Go Go.ChangeShapes Go.WideShapes Go.ChangeAt Go.RowKit Go.Deep

theorem spot_none {W : World} {a : Addr} {v : Value} (h : W.cell? (a.add 0) = some v) : a.spot = none := by
  obtain ⟨b, off, spot⟩ := a
  have hs := World.cell?_spot h
  simpa [Addr.add] using hs
set_option maxRecDepth 100000 in
theorem open_dating {H : Type} {enc : TypeId × Value → H} {W : World} {base fuel : Nat} {sp : Nat → Bool} {held : Bool} {v0 v1 : Value} {x : DataW H × List MemPlace}
    (h : DataW.trod enc Tryz.prog W base sp held fuel 29 [v0, v1] = some x) : ∃ f u : Int, v0 = .int .i64 f ∧ v1 = .int .i64 u := by
  obtain ⟨xs, k, _, _, _, hxl, hf⟩ := DataW.trod_struct Tryz.underlying29 h
  match xs, hxl with
  | [y0, y1], _ =>
    have g0 := hf 0 _ rfl
    have g1 := hf 1 _ rfl
    have c0 : Tryz.prog.cellsOf 3 = 1 := by kernel_rfl
    simp [c0] at g0 g1
    obtain ⟨f, hf0, _, _⟩ := DataW.trod_int Tryz.underlying3 g0
    obtain ⟨u, hu0, _, _⟩ := DataW.trod_int Tryz.underlying3 g1
    injection hf0 with hf0 _
    injection hu0 with hu0 _
    exact ⟨f, u, hf0, hu0⟩
set_option maxRecDepth 100000 in
theorem open_note {H : Type} {enc : TypeId × Value → H} {W : World} {base fuel : Nat} {sp : Nat → Bool} {held : Bool} {v0 v1 v2 v3 : Value} {x : DataW H × List MemPlace}
    (h : DataW.trod enc Tryz.prog W base sp held fuel 39 [v0, v1, v2, v3] = some x) :
    ∃ o : Nt, v0 = .string o.nm ∧ v1 = .int .i64 o.f ∧ v2 = .int .i64 o.l ∧ v3 = .int .i64 o.r := by
  obtain ⟨xs, k, _, _, _, hxl, hf⟩ := DataW.trod_struct Tryz.underlying39 h
  match xs, hxl with
  | [y0, y1, y2], _ =>
    have g0 := hf 0 _ rfl
    have g1 := hf 1 _ rfl
    have g2 := hf 2 _ rfl
    have c0 : Tryz.prog.cellsOf 3 = 1 := by kernel_rfl
    have c1 : Tryz.prog.cellsOf 9 = 1 := by kernel_rfl
    have c2 : Tryz.prog.cellsOf 29 = 2 := by kernel_rfl
    simp [c0, c1, c2] at g0 g1 g2
    obtain ⟨s, hs, _, _⟩ := DataW.trod_string Tryz.underlying9 g0
    obtain ⟨f, u, h2, h3⟩ := open_dating g1
    obtain ⟨i, hi, _, _⟩ := DataW.trod_int Tryz.underlying3 g2
    injection hi with hi _
    injection hs with hs _
    exact ⟨⟨s, f, u, i⟩, hs, h2, h3, hi⟩
set_option maxRecDepth 100000 in
theorem open_notes {H : Type} {enc : TypeId × Value → H} {W : World} {base fuel : Nat} {sp : Nat → Bool} {held : Bool} {v : Value} {x : DataW H × List MemPlace}
    (hf : DataW.trod enc Tryz.prog W base sp held fuel 22 [v] = some x) :
    ∃ (ns : List Nt) (p : Option Addr) (c : Nat), v = .slice p ns.length c ∧ IsNt W (.slice p ns.length c) ns := by
  rcases open_slice Tryz.underlying22 hf with ⟨hc, _⟩ | ⟨a, len, cap, m, k, D, Pl, hc, _, hl, hm, hmm, _, hx⟩
  · have hc : v = .slice none 0 0 := by simpa using hc
    subst hc
    exact ⟨[], none, 0, rfl, none, 0, rfl, Nat.le_refl _, fun h => absurd h (by simp)⟩
  · have hc : v = .slice (some a) len cap := by simpa using hc
    subst hc
    have hnm : len ≤ m := by rw [hmm]; split <;> omega
    have ce : Tryz.prog.cellsOf 39 = 4 := by kernel_rfl
    have each : ∀ i, i < len → ∃ o : Nt, W.cell? (a.add (i * 4)) = some (.string o.nm) ∧ W.cell? (a.add (i * 4 + 1)) = some (.int .i64 o.f) ∧ W.cell? (a.add (i * 4 + 2)) = some (.int .i64 o.l) ∧ W.cell? (a.add (i * 4 + 3)) = some (.int .i64 o.r) := by
      intro i hi
      obtain ⟨cs', e1, e2⟩ := hx i (by omega)
      rw [ce] at e1
      obtain ⟨_, hlen, hcell⟩ := World.cells?_some e1
      match cs', hlen with
      | [v0, v1, v2, v3], _ =>
        obtain ⟨o, rfl, rfl, rfl, rfl⟩ := open_note e2
        have k0 := hcell 0 (by omega)
        have k1 := hcell 1 (by omega)
        have k2 := hcell 2 (by omega)
        have k3 := hcell 3 (by omega)
        rw [add_add] at k0 k1 k2 k3
        exact ⟨o, by simpa using k0, by simpa using k1, by simpa using k2, by simpa using k3⟩
    haveI : Inhabited Nt := ⟨n0⟩
    obtain ⟨P, hP⟩ := choose_lt each
    have ln : ((List.range len).map P).length = len := by simp
    refine ⟨(List.range len).map P, some a, cap, by rw [ln], some a, cap, rfl, by rw [ln]; exact hl, fun h0 => ?_⟩
    rw [ln] at h0
    have c0 := (hP 0 h0).1
    have hs := spot_none (by simpa using c0)
    obtain ⟨b, off, spot⟩ := a
    simp only at hs
    subst hs
    refine ⟨b, off, rfl, fun j y hj => ?_⟩
    have lj : j < len := by
      have := (List.getElem?_eq_some_iff.1 hj).1
      omega
    rw [List.getElem?_map, List.getElem?_range lj] at hj
    obtain rfl : P j = y := by simpa using hj
    obtain ⟨k0, k1, k2, k3⟩ := hP j lj
    rw [Addr.add_lit] at k0 k1 k2 k3
    exact ⟨nLt k0, k0, by simpa [Nat.add_assoc] using k1, by simpa [Nat.add_assoc] using k2, by simpa [Nat.add_assoc] using k3⟩
set_option maxRecDepth 100000 in
theorem open_file {H : Type} {enc : TypeId × Value → H} {W : World} {r : Reach} {b0 base : Nat} {sp : Nat → Bool} {held : Bool} {v : Value} {d : DataW H} {p : List MemPlace}
    (hv : Value.okWide Tryz.prog W r b0 24 v) (h : DataW.Trod enc Tryz.prog W base sp held 24 v d p) :
    ∃ x : Fl, v = fVal x ∧ IsNt W x.nv x.ns := by
  obtain ⟨cs, rfl, hsz⟩ := okWide_struct Tryz.underlying24 hv
  have c8 : Tryz.prog.cellsOf 24 = 8 := by kernel_rfl
  rw [c8] at hsz
  obtain ⟨l⟩ := cs
  obtain ⟨fuel, hf⟩ := h
  match l, hsz with
  | [v0, v1, v2, v3, v4, v5, v6, v7], _ =>
    obtain ⟨xs, k, _, _, _, hxl, hf⟩ := DataW.trod_struct Tryz.underlying24 hf
    match xs, hxl with
    | [y0, y1, y2, y3, y4, y5, y6, y7], _ =>
      have g0 := hf 0 _ rfl
      have g1 := hf 1 _ rfl
      have g2 := hf 2 _ rfl
      have g3 := hf 3 _ rfl
      have g4 := hf 4 _ rfl
      have g5 := hf 5 _ rfl
      have g6 := hf 6 _ rfl
      have g7 := hf 7 _ rfl
      have c0 : Tryz.prog.cellsOf 3 = 1 := by kernel_rfl
      have c1 : Tryz.prog.cellsOf 9 = 1 := by kernel_rfl
      have c2 : Tryz.prog.cellsOf 22 = 1 := by kernel_rfl
      simp [c0, c1, c2, Value.cells] at g0 g1 g2 g3 g4 g5 g6 g7
      obtain ⟨i0, e0, _, _⟩ := DataW.trod_int Tryz.underlying3 g0
      obtain ⟨i1, e1, _, _⟩ := DataW.trod_int Tryz.underlying3 g1
      obtain ⟨i2, e2, _, _⟩ := DataW.trod_int Tryz.underlying3 g2
      obtain ⟨i3, e3, _, _⟩ := DataW.trod_int Tryz.underlying3 g3
      obtain ⟨s4, e4, _, _⟩ := DataW.trod_string Tryz.underlying9 g4
      obtain ⟨s5, e5, _, _⟩ := DataW.trod_string Tryz.underlying9 g5
      obtain ⟨i6, e6, _, _⟩ := DataW.trod_int Tryz.underlying3 g6
      obtain ⟨ns, q, c, e7, hn⟩ := open_notes g7
      injection e0 with e0 _
      injection e1 with e1 _
      injection e2 with e2 _
      injection e3 with e3 _
      injection e4 with e4 _
      injection e5 with e5 _
      injection e6 with e6 _
      subst e0 e1 e2 e3 e4 e5 e6 e7
      exact ⟨⟨i0, i1, i2, i3, s4, s5, i6, ns, q, c⟩, rfl, hn⟩
end Go.Proofs.YtfgpmghaebdhpaaGreatDoor.Aid
