/- The example's list of versions: fault, Check, checkWay, Has, way, Follow. -/
import Derived.Test.YtfgpmghaebdhpaaGreatDoorFM
namespace Go.Proofs.YtfgpmghaebdhpaaGreatDoor
open Go.RowKit Go.Maps Go.Shelf

/-- The example's list of versions in memory. -/
structure P1 (w : World) (G : Nat) (p : Option Addr) : Prop where
  lt : G < w.heap.size
  c0 : w.cell? ⟨G, 0, none⟩ = some (.int .i64 1)
  c1 : w.cell? ⟨G, 1, none⟩ = some (.int .i64 0)
  c2 : w.cell? ⟨G, 2, none⟩ = some (.int .i64 50)
  c3 : w.cell? ⟨G, 3, none⟩ = some (.slice p 1 1)
  c4 : w.cell? ⟨G, 4, none⟩ = some (.slice none 0 0)
  cl : IsCl w (.slice p 1 1) [cEx]
theorem P1.below {w w' : World} {G : Nat} {p : Option Addr} (h : P1 w G p) (hb : Below w.heap.size w w') : P1 w' G p :=
  ⟨Nat.lt_of_lt_of_le h.lt hb.size, (hb.cell (p := ⟨G, 0, none⟩) h.lt).trans h.c0, (hb.cell (p := ⟨G, 1, none⟩) h.lt).trans h.c1, (hb.cell (p := ⟨G, 2, none⟩) h.lt).trans h.c2, (hb.cell (p := ⟨G, 3, none⟩) h.lt).trans h.c3, (hb.cell (p := ⟨G, 4, none⟩) h.lt).trans h.c4, h.cl.below hb⟩
set_option maxHeartbeats 1000000 in
theorem isSpan_ex (w : World) : Calls Tryz.prog 50 #[.agg #[.int .i64 0, .int .i64 50]] w fun e w' => e = .returned (.bool true) ∧ Below w.heap.size w w' := by
  go_enter Tryz.func50, Tryz.ntmps50
  go_wp2_with fail
  go_ret
  exact ⟨rfl, (Below.refl _ w).alloc (Nat.le_refl _) _⟩
set_option maxRecDepth 100000 in
set_option maxHeartbeats 8000000 in
theorem fault_ex (G : Nat) (p : Option Addr) (w : World) (hw : Lw w) (hv : P1 w G p) :
    Calls Tryz.prog 45 #[.slice (some ⟨G, 0, none⟩) 1 1, .int .i64 0] w fun e w' => e = .returned (.int .i64 0) ∧ Below w.heap.size w w' := by
  have B1 := (Below.refl w.heap.size w).alloc (Nat.le_refl _) (.cells #[.int .i64 1, .int .i64 0, .int .i64 50, .slice p 1 1, .slice none 0 0] 54)
  have C1 := nCell w #[.int .i64 1, .int .i64 0, .int .i64 50, .slice p 1 1, .slice none 0 0] 54
  have V1 := hv.below B1
  have L1 := hw.below B1 hw.n0
  obtain ⟨_, c0, c1, c2, c3, c4, _⟩ := hv
  obtain ⟨w1, hw1⟩ : ∃ w1, w1 = w.alloc (.cells #[.int .i64 1, .int .i64 0, .int .i64 50, .slice p 1 1, .slice none 0 0] 54) := ⟨_, rfl⟩
  rw [← hw1] at B1 C1 V1 L1
  have lt1 := nLt (C1 3)
  have HC := Lib.hid (fun (V : World) (hV : Below w1.heap.size w1 V) (i : Nat) => (hV.cell (p := ⟨w.heap.size, i, none⟩) lt1).trans (C1 i))
  have HL := Lib.hid (fun (V : World) (hV : Below w1.heap.size w1 V) => L1.below hV L1.n0)
  have HP := Lib.hid (fun (V : World) (hV : Below w1.heap.size w1 V) => V1.below hV)
  have BA := Lib.hid B1
  have HW := Lib.hid hw1
  have d0 := C1 0
  have d1 := C1 1
  have d2 := C1 2
  have IS := Lib.hid (isSpan_ex w1)
  have D0 := Lib.hid (And.intro d0 (And.intro d1 d2))
  clear V1 L1 hw B1 C1 lt1 hw1 d0 d1 d2
  go_enter Tryz.func45, Tryz.ntmps45
  go_upto_region 2 with (fail)
  have hw := HW.out
  obtain ⟨d0, d1, d2⟩ := D0.out
  rw [← hw]
  clear hw HW D0 c0 c1 c2 c3 c4
  go_wp2_with fail
  refine IS.out.mono ?_
  rintro e w2 ⟨rfl, b2⟩
  have A2 := Lib.hid b2
  clear IS b2 d0 d1 d2
  go_upto_region 4 with (fail)
  go_quiet (fail)
  have A3 := Lib.hid (A2.out.trans ((nDrew w2 nq).mono A2.out.size))
  have e0 := HC.out _ A3.out 0
  have e1 := HC.out _ A3.out 1
  have e2 := HC.out _ A3.out 2
  have e3 := HC.out _ A3.out 3
  have e4 := HC.out _ A3.out 4
  have CF := Lib.hid (classFault_ex p 1 _ (HL.out _ A3.out) (HP.out _ A3.out).cl)
  replace CF : Hid (Calls Tryz.prog 51 #[.agg #[.int .i64 1, .int .i64 0, .int .i64 50, .slice p 1 1, .slice none 0 0]] (w2.drewN nq) fun e w' => e = .returned (.int .i64 0) ∧ Below (w2.drewN nq).heap.size (w2.drewN nq) w') := CF
  go_wp2_with fail
  refine CF.out.mono ?_
  rintro e w4 ⟨rfl, b4⟩
  have A4 := Lib.hid (A3.out.trans (b4.mono A3.out.size))
  have f4 := HC.out _ A4.out 4
  clear CF b4 e0 e1 e2 e3 e4
  go_wp2_with fail
  go_ret
  exact ⟨rfl, BA.out.trans (A4.out.mono BA.out.size)⟩
end Go.Proofs.YtfgpmghaebdhpaaGreatDoor
