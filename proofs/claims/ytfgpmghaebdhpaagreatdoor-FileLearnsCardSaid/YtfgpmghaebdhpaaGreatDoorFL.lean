/- A version with one class, whose code has one number: classFault. -/
import Derived.Test.YtfgpmghaebdhpaaGreatDoorFK
namespace Go.Proofs.YtfgpmghaebdhpaaGreatDoor
open Go.RowKit Go.Maps Go.Shelf

open Classical in
noncomputable def isCd (l : List UInt8) : Bool := decide (∃ ns, PR l ns)
open Classical in
theorem isCd_yes {l : List UInt8} {ns : List Nat} (h : PR l ns) : isCd l = true := by unfold isCd; exact decide_eq_true ⟨ns, h⟩
open Classical in
theorem isCd_no {l : List UInt8} (h : ∀ ns, ¬ PR l ns) : isCd l = false := by unfold isCd; exact decide_eq_false (fun ⟨ns, g⟩ => h ns g)
set_option maxHeartbeats 2000000 in
theorem isCode_any (s : Txt) (w : World) (hw : Lw w) : Calls Tryz.prog 57 #[.string s.1] w fun e w' => e = .returned (.bool (isCd (bts s))) ∧ Below w.heap.size w w' := by
  have PA := Lib.hid (Parse_any s w hw)
  clear hw
  go_enter Tryz.func57, Tryz.ntmps57
  go_wp2_with fail
  refine PA.out.mono ?_
  rintro e w1 ⟨h, b1⟩
  have B1 := Lib.hid b1
  rcases h with ⟨v, ns, hp, rfl, _⟩ | ⟨hp, rfl⟩
  · have R := Lib.hid (isCd_yes hp)
    clear hp b1 PA
    go_wp2_with fail
    go_ret
    exact ⟨by rw [R.out]; rfl, B1.out⟩
  · have R := Lib.hid (isCd_no hp)
    clear hp b1 PA
    go_wp2_with fail
    go_ret
    exact ⟨by rw [R.out]; rfl, B1.out⟩
set_option maxHeartbeats 2000000 in
theorem parent_one (s : Txt) (w : World) (hw : Lw w) (h1 : ∀ ns, PR (bts s) ns → ns.length = 1) : Calls Tryz.prog 63 #[.string s.1] w fun e w' => e = .returned (.string ⟨#[]⟩) ∧ Below w.heap.size w w' := by
  have PA := Lib.hid (Parent_any s w hw)
  clear hw
  go_enter Tryz.func63, Tryz.ntmps63
  go_wp2_with fail
  refine PA.out.mono ?_
  rintro e w1 ⟨h, b1⟩
  have B1 := Lib.hid b1
  rcases h with ⟨ns, p, hp, h2, _⟩ | ⟨hp, rfl⟩
  · have := h1 ns hp; omega
  · clear hp b1 PA h1
    go_wp2_with fail
    go_ret
    exact ⟨rfl, B1.out⟩
set_option maxHeartbeats 2000000 in
theorem cf1_any (x : Cl) (w : World) (hw : Lw w) : Calls Tryz.prog 56 #[x.val] w fun e w' => e = .returned (.bool (!isCd (bts x.co))) ∧ Below w.heap.size w w' := by
  obtain ⟨co, ti⟩ := x
  show Calls Tryz.prog 56 #[.agg #[.string co.1, .string ti.1]] w fun e w' => e = .returned (.bool (!isCd (bts co))) ∧ Below w.heap.size w w'
  have B0 := Lib.hid ((Below.refl w.heap.size w).alloc (Nat.le_refl _) (.cells #[.string co.1, .string ti.1] 50))
  have PA := Lib.hid (isCode_any co _ (hw.below B0.out hw.n0))
  clear hw
  go_enter Tryz.func56, Tryz.ntmps56
  go_wp2_with fail
  refine PA.out.mono ?_
  rintro e w1 ⟨rfl, b1⟩
  have B1 := Lib.hid (B0.out.trans (b1.mono B0.out.size))
  clear b1 PA
  go_wp2_with fail
  go_ret
  exact ⟨rfl, B1.out⟩
set_option maxHeartbeats 2000000 in
theorem cf2_any (x : Cl) (w : World) (hw : Lw w) : Calls Tryz.prog 58 #[x.val] w fun e w' => e = .returned (.bool (!nmL (bts x.ti))) ∧ Below w.heap.size w w' := by
  obtain ⟨co, ti⟩ := x
  show Calls Tryz.prog 58 #[.agg #[.string co.1, .string ti.1]] w fun e w' => e = .returned (.bool (!nmL (bts ti))) ∧ Below w.heap.size w w'
  have B0 := Lib.hid ((Below.refl w.heap.size w).alloc (Nat.le_refl _) (.cells #[.string co.1, .string ti.1] 50))
  have PA := Lib.hid (Name_any ti _ (hw.below B0.out hw.n0))
  clear hw
  go_enter Tryz.func58, Tryz.ntmps58
  go_wp2_with fail
  refine PA.out.mono ?_
  rintro e w1 ⟨rfl, b1⟩
  have B1 := Lib.hid (B0.out.trans (b1.mono B0.out.size))
  clear b1 PA
  go_wp2_with fail
  go_ret
  exact ⟨rfl, B1.out⟩
set_option maxHeartbeats 2000000 in
theorem cf4_one (x : Cl) (q : Value) (w : World) (hw : Lw w) (h1 : ∀ ns, PR (bts x.co) ns → ns.length = 1) : Calls Tryz.prog 62 #[x.val, q] w fun e w' => e = .returned (.bool false) ∧ Below w.heap.size w w' := by
  obtain ⟨co, ti⟩ := x
  show Calls Tryz.prog 62 #[.agg #[.string co.1, .string ti.1], q] w fun e w' => e = .returned (.bool false) ∧ Below w.heap.size w w'
  have B0 := Lib.hid ((Below.refl w.heap.size w).alloc (Nat.le_refl _) (.cells #[.string co.1, .string ti.1] 50))
  have PA := Lib.hid (parent_one co _ (hw.below B0.out hw.n0) h1)
  clear hw h1
  go_enter Tryz.func62, Tryz.ntmps62
  go_wp2_with fail
  refine PA.out.mono ?_
  rintro e w1 ⟨rfl, b1⟩
  have B1 := Lib.hid (B0.out.trans (b1.mono B0.out.size))
  clear b1 PA
  go_wp2_with fail
  go_ret
  exact ⟨rfl, B1.out⟩
set_option maxHeartbeats 2000000 in
theorem has1_any (x : Cl) (s : Txt) (b : Nat) (w : World) (hb : w.cell? ⟨b, 0, none⟩ = some (.string s.1)) : Calls Tryz.prog 42 #[x.val, .pointer (some ⟨b, 0, none⟩)] w fun e w' => e = .returned (.bool (x.co.1.toList == s.1.toList)) ∧ Below w.heap.size w w' := by
  obtain ⟨co, ti⟩ := x
  show Calls Tryz.prog 42 #[.agg #[.string co.1, .string ti.1], .pointer (some ⟨b, 0, none⟩)] w fun e w' => e = .returned (.bool (co.1.toList == s.1.toList)) ∧ Below w.heap.size w w'
  have B0 := Lib.hid ((Below.refl w.heap.size w).alloc (Nat.le_refl _) (.cells #[.string co.1, .string ti.1] 50))
  have lt := nLt hb
  go_enter Tryz.func42, Tryz.ntmps42
  go_wp2_with fail
  go_ret
  exact ⟨rfl, B0.out⟩
set_option maxHeartbeats 1000000 in
theorem increase_one (q : Value) (w : World) : Calls Tryz.prog 60 #[.int .i64 1, q] w fun e w' => e = .returned (.bool true) ∧ w' = w := by
  go_enter Tryz.func60, Tryz.ntmps60
  go_wp2_with fail
  go_loop [5] (fun i => i = .int .i64 1) (fun _ => 0)
  case atStart => rfl
  case round =>
    subst hrel
    go_wp2_with fail
    go_ret
    exact ⟨rfl, rfl⟩
end Go.Proofs.YtfgpmghaebdhpaaGreatDoor
