/- The example's version: classFault. -/
import Derived.Test.YtfgpmghaebdhpaaGreatDoorFL
import Derived.Laws.EntriesVeiled
namespace Go.Proofs.YtfgpmghaebdhpaaGreatDoor
open Go.RowKit Go.Maps Go.Shelf

def t1 : Txt := ⟨⟨#[49]⟩, by decide⟩
def tT : Txt := ⟨⟨#[84]⟩, by decide⟩
def cEx : Cl := ⟨t1, tT⟩
theorem pr1 : PR (bts t1) [1] := ⟨by decide, by decide, by show [dec 1] = _; rw [dec1 (by decide)]; decide⟩
theorem pr1_one : ∀ ns, PR (bts t1) ns → ns.length = 1 := fun ns h => by rw [h.one pr1]; rfl
theorem nmT : nmL (bts tT) = true := by decide
theorem any1 {f : Cl → Bool} (h : f cEx = false) : [cEx].any f = false := by simp [h]
theorem any2 {f : Cl → Bool} (h : f cEx = true) : [cEx].any f = true := by simp [h]
def pVal (p : Option Addr) (c : Nat) : Value := .agg #[.int .i64 1, .int .i64 0, .int .i64 50, .slice p 1 c, .slice none 0 0]
set_option maxRecDepth 100000 in
set_option maxHeartbeats 8000000 in
theorem classFault_ex (p : Option Addr) (c : Nat) (w : World) (hw : Lw w) (hv : IsCl w (.slice p 1 c) [cEx]) :
    Calls Tryz.prog 51 #[pVal p c] w fun e w' => e = .returned (.int .i64 0) ∧ Below w.heap.size w w' := by
  show Calls Tryz.prog 51 #[.agg #[.int .i64 1, .int .i64 0, .int .i64 50, .slice p 1 c, .slice none 0 0]] w fun e w' => e = .returned (.int .i64 0) ∧ Below w.heap.size w w'
  have B1 := (Below.refl w.heap.size w).alloc (Nat.le_refl _) (.cells #[.int .i64 1, .int .i64 0, .int .i64 50, .slice p 1 c, .slice none 0 0] 54)
  have C1 := nCell w #[.int .i64 1, .int .i64 0, .int .i64 50, .slice p 1 c, .slice none 0 0] 54
  obtain ⟨w1, hw1⟩ : ∃ w1, w1 = w.alloc (.cells #[.int .i64 1, .int .i64 0, .int .i64 50, .slice p 1 c, .slice none 0 0] 54) := ⟨_, rfl⟩
  rw [← hw1] at B1 C1
  have lt1 := nLt (C1 3)
  have HC := Lib.hid (fun (V : World) (hV : Below w1.heap.size w1 V) => (hV.cell (p := ⟨w.heap.size, 3, none⟩) lt1).trans (C1 3))
  have HV := Lib.hid (fun (V : World) (hV : Below w1.heap.size w1 V) => (hv.below B1).below hV)
  have HL := Lib.hid (fun (V : World) (hV : Below w1.heap.size w1 V) => (hw.below B1 hw.n0).below hV (Nat.le_trans hw.n0 B1.size))
  have BA := Lib.hid B1
  have FD := Lib.hid (finder_any ⟨1, 0, 50, [cEx], p, c, .slice none 0 0⟩ w1 (hv.below B1) (by simp) none 0 0 rfl)
  replace FD : Hid (Calls Tryz.prog 47 #[.agg #[.int .i64 1, .int .i64 0, .int .i64 50, .slice p 1 c, .slice none 0 0]] w1 fun e w' => ∃ B b, e = .returned (.func (.func 53) #[] #[.pointer (some ⟨B, 0, none⟩)]) ∧ w'.cell? ⟨B, 0, none⟩ = some (.map (some b)) ∧ Ms w' b ([cEx].map (·.co)) ∧ Below w1.heap.size w1 w') := FD
  have HW := Lib.hid hw1
  have D0 := Lib.hid (And.intro (C1 0) (And.intro (C1 1) (And.intro (C1 2) (And.intro (C1 3) (C1 4)))))
  clear hv hw B1 C1 lt1 hw1
  go_enter Tryz.func51, Tryz.ntmps51
  go_upto_region 1 with (fail)
  have hw := HW.out
  obtain ⟨d0, d1, d2, d3, d4⟩ := D0.out
  rw [← hw]
  clear hw HW D0
  go_wp2_with fail
  refine FD.out.mono ?_
  rintro e w2 ⟨B, b, rfl, _, _, b2⟩
  have B2 := Lib.hid b2
  have A3 := Lib.hid (b2.alloc b2.size (.cells #[.func (.func 53) #[] #[.pointer (some ⟨B, 0, none⟩)]] 85))
  have e3 : (w2.alloc (.cells #[.func (.func 53) #[] #[.pointer (some ⟨B, 0, none⟩)]] 85)).cell? ⟨w.heap.size, 3, none⟩ = some (.slice p 1 c) := HC.out _ A3.out
  have K1 := Lib.hid (containsC_any 56 #[] (enters_of Tryz.func56 (by kernel_rfl) rfl) (fun x => !isCd (bts x.co)) (.slice p 1 c) [cEx] (w2.alloc (.cells #[.func (.func 53) #[] #[.pointer (some ⟨B, 0, none⟩)]] 85)) (HV.out _ A3.out) (by simp) (fun V x _ hV => cf1_any x V (HL.out V (A3.out.trans (hV.mono A3.out.size)))))
  rw [any1 (by show (!isCd (bts t1)) = false; rw [isCd_yes pr1]; rfl)] at K1
  clear b2 d0 d1 d2 d3 d4
  go_wp2_with fail
  refine K1.out.mono ?_
  rintro e w4 ⟨rfl, b4⟩
  have A4 := Lib.hid (A3.out.trans (b4.mono A3.out.size))
  have e4 := HC.out _ A4.out
  have K2 := Lib.hid (containsC_any 58 #[] (enters_of Tryz.func58 (by kernel_rfl) rfl) (fun x => !nmL (bts x.ti)) (.slice p 1 c) [cEx] w4 (HV.out _ A4.out) (by simp) (fun V x _ hV => cf2_any x V (HL.out V (A4.out.trans (hV.mono A4.out.size)))))
  rw [any1 (by show (!nmL (bts tT)) = false; rw [nmT]; rfl)] at K2
  clear b4 e3 K1
  go_wp2_with fail
  refine K2.out.mono ?_
  rintro e w5 ⟨rfl, b5⟩
  have A5 := Lib.hid (A4.out.trans (b5.mono A4.out.size))
  have e5 := HC.out _ A5.out
  have K3 := Lib.hid (fun q => increase_one q w5)
  clear b5 e4 K2
  go_wp2_with fail
  refine (K3.out _).mono ?_
  rintro e w6 ⟨rfl, rfl⟩
  have K4 := Lib.hid (containsC_any 62 #[.pointer (some ⟨w2.heap.size, 0, none⟩)] (enters_of Tryz.func62 (by kernel_rfl) rfl) (fun _ => false) (.slice p 1 c) [cEx] w6 (HV.out _ A5.out) (by simp) (fun V x hx hV => by
    obtain rfl : x = cEx := by simpa using hx
    exact cf4_one cEx _ V (HL.out V (A5.out.trans (hV.mono A5.out.size))) pr1_one))
  rw [any1 rfl] at K4
  clear K3
  go_wp2_with fail
  refine K4.out.mono ?_
  rintro e w7 ⟨rfl, b7⟩
  have A7 := Lib.hid (BA.out.trans ((A5.out.trans (b7.mono A5.out.size)).mono BA.out.size))
  clear b7 e5 K4
  go_wp2_with fail
  go_ret
  exact ⟨rfl, A7.out⟩
end Go.Proofs.YtfgpmghaebdhpaaGreatDoor
