/- The example; awake. -/
import Derived.Test.YtfgpmghaebdhpaaGreatDoorFP
namespace Go.Proofs.YtfgpmghaebdhpaaGreatDoor
open Go.RowKit Go.Maps Go.Shelf

def bA : ByteArray := ⟨#[97, 117, 100, 105, 116, 101, 100]⟩
def n1 : Nt := ⟨bA, 20, 25, 26⟩
def n2 : Nt := ⟨bA, 22, 22, 40⟩
def exF (p : Option Addr) : Fl := ⟨1, 1, 5, 30, ⟨#[49]⟩, ⟨#[84]⟩, 0, [n1, n2], p, 2⟩
theorem isNt_ex (w : World) : IsNt (w.alloc (.cells #[.string bA, .int .i64 20, .int .i64 25, .int .i64 26, .string bA, .int .i64 22, .int .i64 22, .int .i64 40] 39)) (.slice (some ⟨w.heap.size, 0, none⟩) 2 2) [n1, n2] := by
  have C := nCell w #[.string bA, .int .i64 20, .int .i64 25, .int .i64 26, .string bA, .int .i64 22, .int .i64 22, .int .i64 40] 39
  have lt := nLt (C 0)
  refine ⟨_, 2, rfl, Nat.le_refl _, fun _ => ⟨_, _, rfl, fun j x hj => ?_⟩⟩
  match j, hj with
  | 0, hj => cases hj; exact ⟨lt, C 0, C 1, C 2, C 3⟩
  | 1, hj => cases hj; exact ⟨lt, C 4, C 5, C 6, C 7⟩
theorem szFile (a b c d e f g h : Value) : (Tryz.prog.info? 24).map (·.size) = some (#[a, b, c, d, e, f, g, h] : Array Value).size := (show (Tryz.prog.info? 24).map (·.size) = some 8 by kernel_rfl)
theorem size8 (a b c d e f g h a' b' c' d' e' f' g' h' : Value) : (#[a, b, c, d, e, f, g, h] : Array Value).size = (#[a', b', c', d', e', f', g', h'] : Array Value).size := by simp
set_option maxRecDepth 100000 in
set_option maxHeartbeats 4000000 in
theorem example_any (w : World) : Calls Tryz.prog 18 #[] w fun e w' => ∃ p, e = .returned (exF p).val ∧ IsNt w' (exF p).nv [n1, n2] ∧ Below w.heap.size w w' := by
  obtain ⟨w1, hw1⟩ : ∃ w1, w1 = w.alloc (.cells #[.int .i64 0, .int .i64 0, .int .i64 0, .int .i64 0, .string ⟨#[]⟩, .string ⟨#[]⟩, .int .i64 0, .slice none 0 0] 24) := ⟨_, rfl⟩
  have B1 : Below w.heap.size w w1 := by rw [hw1]; exact (Below.refl _ w).alloc (Nat.le_refl _) _
  have K1 : w1.heap[w.heap.size]? = some (.cells #[.int .i64 0, .int .i64 0, .int .i64 0, .int .i64 0, .string ⟨#[]⟩, .string ⟨#[]⟩, .int .i64 0, .slice none 0 0] 24 (0, 0)) := by rw [hw1]; exact heap_alloc_new w _
  have lt1 : w.heap.size < w1.heap.size := by rw [hw1]; simp
  have A2 := (Below.refl w1.heap.size w1).alloc (Nat.le_refl _) (.cells #[.string bA, .int .i64 20, .int .i64 25, .int .i64 26, .string bA, .int .i64 22, .int .i64 22, .int .i64 40] 39)
  have N2 := isNt_ex w1
  obtain ⟨w2, hw2⟩ : ∃ w2, w2 = w1.alloc (.cells #[.string bA, .int .i64 20, .int .i64 25, .int .i64 26, .string bA, .int .i64 22, .int .i64 22, .int .i64 40] 39) := ⟨_, rfl⟩
  rw [← hw2] at A2 N2
  have K2 := Lib.hid ((A2.block w.heap.size lt1).trans K1)
  have s1 : w1.heap.size = w.heap.size + 1 := by rw [hw1]; simp
  have B2 := B1.trans (A2.mono B1.size)
  rw [s1] at N2
  obtain ⟨w3, hw3⟩ : ∃ w3, w3 = w2.setRow w.heap.size #[.int .i64 1, .int .i64 1, .int .i64 5, .int .i64 30, .string ⟨#[49]⟩, .string ⟨#[84]⟩, .int .i64 0, .slice (some ⟨w.heap.size + 1, 0, none⟩) 2 2] := ⟨_, rfl⟩
  have H3 : w3.heap[w.heap.size]? = some (.cells #[.int .i64 1, .int .i64 1, .int .i64 5, .int .i64 30, .string ⟨#[49]⟩, .string ⟨#[84]⟩, .int .i64 0, .slice (some ⟨w.heap.size + 1, 0, none⟩) 2 2] 24 (0, 0)) := by rw [hw3]; exact setRow_heap _ _ _ _ _ _ K2.out
  have B3 : Below w.heap.size w w3 := by rw [hw3]; exact setRow_bel B2 (Nat.le_refl _) _
  have G3 : w2.grownBy w3 (some w.heap.size) := by rw [hw3]; exact grown_set (grown_refl _ _) _
  have N3 : IsNt w3 (.slice (some ⟨w.heap.size + 1, 0, none⟩) 2 2) [n1, n2] := by
    obtain ⟨p, c, e, hc, h⟩ := N2
    obtain ⟨g, off, rfl, hcell⟩ := h (by simp)
    refine ⟨_, c, e, hc, fun _ => ⟨g, off, rfl, fun j x hj => (hcell j x hj).grown G3 ?_⟩⟩
    injection e with e1 _ _
    injection e1 with e1
    injection e1 with e1 _ _
    omega
  have C3 := fun i => show w3.cell? ⟨w.heap.size, i, none⟩ = #[.int .i64 1, .int .i64 1, .int .i64 5, .int .i64 30, .string ⟨#[49]⟩, .string ⟨#[84]⟩, .int .i64 0, .slice (some ⟨w.heap.size + 1, 0, none⟩) 2 2][i]? by simp [World.cell?, H3]
  have r0 := C3 0
  have r1 := C3 1
  have r2 := C3 2
  have r3 := C3 3
  have r4 := C3 4
  have r5 := C3 5
  have r6 := C3 6
  have r7 := C3 7
  have RR := Lib.hid (And.intro r0 (And.intro r1 (And.intro r2 (And.intro r3 (And.intro r4 (And.intro r5 (And.intro r6 r7)))))))
  have NN := Lib.hid N3
  have BB := Lib.hid B3
  have HW := Lib.hid (show w2 = (w.alloc (.cells #[.int .i64 0, .int .i64 0, .int .i64 0, .int .i64 0, .string ⟨#[]⟩, .string ⟨#[]⟩, .int .i64 0, .slice none 0 0] 24)).alloc (.cells #[.string bA, .int .i64 20, .int .i64 25, .int .i64 26, .string bA, .int .i64 22, .int .i64 22, .int .i64 40] 39) by rw [hw2, hw1])
  have HW3 := Lib.hid hw3
  have KB : Hid (((w.alloc (.cells #[.int .i64 0, .int .i64 0, .int .i64 0, .int .i64 0, .string ⟨#[]⟩, .string ⟨#[]⟩, .int .i64 0, .slice none 0 0] 24)).alloc (.cells #[.string ⟨#[97, 117, 100, 105, 116, 101, 100]⟩, .int .i64 20, .int .i64 25, .int .i64 26, .string ⟨#[97, 117, 100, 105, 116, 101, 100]⟩, .int .i64 22, .int .i64 22, .int .i64 40] 39)).heap[w.heap.size]? = some (.cells #[.int .i64 0, .int .i64 0, .int .i64 0, .int .i64 0, .string ⟨#[]⟩, .string ⟨#[]⟩, .int .i64 0, .slice none 0 0] 24 (0, 0))) := by
    have := K2.out
    rw [HW.out] at this
    exact this
  clear r0 r1 r2 r3 r4 r5 r6 r7 C3 N3 B3 G3 H3 hw3 N2 B2 A2 hw2 hw1 K1 B1 lt1 s1
  go_enter Tryz.func18, Tryz.ntmps18
  go_wp2_with (refine wpList_store_row rfl 24 _ _ rfl _ _ rfl rfl _ _ KB.out (szFile _ _ _ _ _ _ _ _) (size8 _ _ _ _ _ _ _ _ _ _ _ _ _ _ _ _) (by simp [Value.oneCell']) ?_)
  have hw3 := HW3.out
  have hw2 := HW.out
  rw [hw2] at hw3
  unfold bA at hw3
  rw [← hw3]
  obtain ⟨r0, r1, r2, r3, r4, r5, r6, r7⟩ := RR.out
  exact bodyPost_ret (v := .agg #[.int .i64 1, .int .i64 1, .int .i64 5, .int .i64 30, .string ⟨#[49]⟩, .string ⟨#[84]⟩, .int .i64 0, .slice (some ⟨w.heap.size + 1, 0, none⟩) 2 2]) (by simp [results, Tryz.results18, go_sem, r0, r1, r2, r3, r4, r5, r6, r7]) rfl ⟨some ⟨w.heap.size + 1, 0, none⟩, rfl, NN.out, BB.out⟩
end Go.Proofs.YtfgpmghaebdhpaaGreatDoor
