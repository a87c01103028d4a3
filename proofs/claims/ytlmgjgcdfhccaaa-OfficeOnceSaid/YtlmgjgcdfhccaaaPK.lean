/- OfficeOnce: what it calls. -/
import Derived.Test.YtlmgjgcdfhccaaaPI
import Derived.Test.YtlmgjgcdfhccaaaPJ
namespace Go.Proofs.Ytlmgjgcdfhccaaa
open Go.RowKit Go.Maps Go.Shelf

theorem isSorted_any (v : Value) (zs : List Int) (w : World) (hp : zs.Pairwise (· < ·)) (h : IsZ w v zs) (hn : zs.length ≤ 1000000) :
    Calls Try.prog 25 #[v] w fun e w' => e = .returned (.bool true) ∧ ∃ q, w' = w.drewN q := by
  obtain ⟨p, c, rfl, hc, hcell⟩ := h
  by_cases h0 : zs.length = 0
  · rw [h0]
    exact (AnyO.slices_IsSorted_int_none Try.issorted p c w).mono fun e w' ⟨h1, h2⟩ => ⟨h1, 0, by rw [h2]; rfl⟩
  · obtain ⟨g, off, rfl, hg, hcl⟩ := hcell (by omega)
    have H := AnyO.slices_IsSorted_int Try.issorted g off c zs.toArray w (fun i hi => by
      have hi' : i < zs.length := by simpa using hi
      rw [hcl i hi']
      simp [hi']) (by simp; omega)
    have D : Lib.downOK (fun x y => decide (x < y)) zs.toArray (zs.toArray.size - 1) = true := by
      rw [Lib.downOK_iff]
      intro i hi
      have h1 : i + 1 < zs.length := by simp at hi; omega
      have h2 := List.pairwise_iff_getElem.1 hp i (i + 1) (by omega) h1 (by omega)
      simp [h1, show i < zs.length by omega]
      omega
    rw [D] at H
    rw [show zs.toArray.size = zs.length by simp] at H
    exact H
set_option maxRecDepth 100000 in
theorem Check_big (q : Option Addr) (n c : Nat) (w : World) (h : 32 < n) :
    Calls Try.prog 23 #[.slice q n c] w fun e w' => e = .returned (.tuple #[.int .i64 (-1), .int .i64 8]) ∧ Below w.heap.size w w' := by
  have d : decide (32 < (n : Int)) = true := by simp; omega
  go_enter Try.func23, Try.ntmps23
  go_wp2_with fail
  go_ret2
  exact ⟨rfl, Below.refl _ _⟩
theorem Hd.ne {w : World} {b nn : Nat} {F : Int → Int} (h : Hd w b nn F) {g o : Nat} {v : Value} (c : w.cell? ⟨g, o, none⟩ = some v) : g ≠ b := by
  rintro rfl
  obtain ⟨D, ⟨es, clock, hb, _⟩, _⟩ := h
  simp [World.cell?, hb] at c
theorem grown_cell {w w' : World} {B g o : Nat} (h : w.grownBy w' (some B)) (hne : g ≠ B) (hlt : g < w.heap.size) : w'.cell? ⟨g, o, none⟩ = w.cell? ⟨g, o, none⟩ := by
  have := h.block g hlt (by simpa using hne)
  simp [World.cell?, this]
end Go.Proofs.Ytlmgjgcdfhccaaa
