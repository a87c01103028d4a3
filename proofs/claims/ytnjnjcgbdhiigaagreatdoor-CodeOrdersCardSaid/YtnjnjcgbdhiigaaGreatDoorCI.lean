/- begins and Within. -/
import Derived.Test.YtnjnjcgbdhiigaaGreatDoorCH
namespace Go.Proofs.YtnjnjcgbdhiigaaGreatDoor
open Go.RowKit Go.Shelf

/-- The numbers of a code begin with those of another one. -/
def wiL (ns ms : List Nat) : Bool := decide (ms.length ≤ ns.length ∧ ns.take ms.length = ms)
def ints (ns : List Nat) : List Int := ns.map Int.ofNat
theorem ints_inj {ns ms : List Nat} : ints ns = ints ms ↔ ns = ms := by
  constructor
  · intro h
    have := congrArg (List.map Int.toNat) h
    have f : ∀ l : List Nat, (ints l).map Int.toNat = l := fun l => by
      induction l with
      | nil => rfl
      | cons a l ih => show Int.toNat (Int.ofNat a) :: (ints l).map Int.toNat = a :: l; rw [ih]; rfl
    rwa [f, f] at this
  · rintro rfl; rfl
theorem ints_cells {w : World} {g off : Nat} {ns : List Nat} (h : ∀ j (hj : j < ns.length), w.cell? ⟨g, off + j, none⟩ = some (.int .i64 (ns[j] : Nat))) : ∀ j, j < (ints ns).length → w.cell? ⟨g, off + j, none⟩ = some (.int .i64 ((ints ns).getD j 0)) := fun j hj => by
  have hj' : j < ns.length := by simpa [ints] using hj
  rw [h j hj']
  simp [ints, hj']

theorem below_drewN (w : World) (q : Nat) : Below w.heap.size w (w.drewN q) := ⟨rfl, rfl, rfl, Nat.le_refl _, fun _ _ => rfl⟩

set_option maxHeartbeats 2000000 in
theorem begins_any (v u : Value) (ns ms : List Nat) (w : World) (hm : ms.length ≤ 1000) (h1 : IsN w v ns) (h2 : IsN w u ms) :
    Calls Tryz.prog 42 #[v, u] w fun e w' => e = .returned (.bool (wiL ns ms)) ∧ Below w.heap.size w w' := by
  obtain ⟨g, off, c, rfl, _, hc, c1⟩ := h1
  obtain ⟨g2, off2, c2, rfl, _, hc2, c3⟩ := h2
  by_cases hle : ms.length ≤ ns.length
  · have EQ := Lib.hid (Any.slices_Equal_int Tryz.lays111 g off ms.length c g2 off2 ms.length c2 (ints ns) (ints ms) w (by simp [ints]; omega) (by simp [ints]) (by omega) (by omega) (ints_cells c1) (ints_cells c3))
    have WE := Lib.hid (show ((ints ns).take ms.length == (ints ms).take ms.length) = wiL ns ms by
      unfold wiL
      rw [show (ints ns).take ms.length = ints (ns.take ms.length) by simp [ints], show (ints ms).take ms.length = ints ms by rw [List.take_of_length_le (by simp [ints])]]
      by_cases q : ns.take ms.length = ms
      · rw [decide_eq_true ⟨hle, q⟩, beq_iff_eq.2 (ints_inj.2 q)]
      · rw [decide_eq_false (fun h => q h.2), beq_eq_false_iff_ne]; exact fun h => q (ints_inj.1 h))
    rw [WE.out] at EQ
    have z0 : (ms.length : Int) ≤ (ns.length : Int) := by omega
    have z1 : (ms.length : Int) ≤ (c : Int) := by omega
    have z2 : (0 : Int) ≤ (ms.length : Int) := by omega
    clear c1 c3 WE
    generalize wiL ns ms = b at *
    generalize ms.length = m at *
    generalize ns.length = n at *
    go_enter Tryz.func42, Tryz.ntmps42
    go_wp2_with fail
    refine EQ.out.mono ?_; rintro e w1 ⟨rfl, q, rfl⟩
    have B1 := Lib.hid (below_drewN w q)
    go_wp2_with fail
    go_ret
    exact ⟨rfl, B1.out⟩
  · have WE := Lib.hid (show wiL ns ms = false from decide_eq_false (fun h => hle h.1))
    have z0 : ¬ (ms.length : Int) ≤ (ns.length : Int) := by omega
    go_enter Tryz.func42, Tryz.ntmps42
    go_wp2_with fail
    go_ret
    exact ⟨by rw [WE.out]; rfl, Below.refl _ _⟩

/-- What Within returns. -/
def WiR (a b : List UInt8) (w : World) (e : Ending) (w' : World) : Prop :=
  (∃ z, e = .returned (.bool z) ∧ (z = true ↔ ∃ ns ms, PR a ns ∧ PR b ms ∧ wiL ns ms = true)) ∧ Below w.heap.size w w'
set_option maxHeartbeats 2000000 in
theorem Within_any (a b : Txt) (w : World) (hw : Lw w) : Calls Tryz.prog 20 #[.string a.1, .string b.1] w (WiR (bts a) (bts b) w) := by
  have HW := Lib.hid hw
  rcases Parse_two a w hw with ⟨ns, ha, ca⟩ | ⟨ha, ca⟩
  · have CA := Lib.hid ca
    have HA := Lib.hid ha
    clear ha ca hw
    go_enter Tryz.func20, Tryz.ntmps20
    go_wp2_with fail
    refine CA.out.mono ?_; rintro e w1 ⟨v1, rfl, i1, b1⟩
    have I1 := Lib.hid i1
    have B1 := Lib.hid b1
    have W1 := HW.out.below b1 HW.out.n0
    clear i1 b1 CA
    rcases Parse_two b w1 W1 with ⟨ms, hb, cb⟩ | ⟨hb, cb⟩
    · have CB := Lib.hid cb
      have HB := Lib.hid hb
      clear hb cb W1
      go_wp2_with fail
      refine CB.out.mono ?_; rintro e w2 ⟨v2, rfl, i2, b2⟩
      have SC := Lib.hid (begins_any v1 v2 ns ms w2 (by have := HB.out.len; omega) (I1.out.below b2) i2)
      have B2 := Lib.hid (B1.out.trans (b2.mono B1.out.size))
      have ZZ := Lib.hid (show wiL ns ms = true ↔ ∃ ns ms, PR (bts a) ns ∧ PR (bts b) ms ∧ wiL ns ms = true from ⟨fun h => ⟨ns, ms, HA.out, HB.out, h⟩, fun ⟨x, y, hx, hy, h⟩ => by rw [HA.out.one hx, HB.out.one hy]; exact h⟩)
      clear i2 b2 CB
      generalize wiL ns ms = z at *
      go_wp2_with fail
      refine SC.out.mono ?_; rintro e w3 ⟨rfl, b3⟩
      have B3 := Lib.hid (B2.out.trans (b3.mono B2.out.size))
      clear b3
      go_wp2_with fail
      go_ret
      exact ⟨⟨z, rfl, ZZ.out⟩, B3.out⟩
    · have CB := Lib.hid cb
      have HB := Lib.hid hb
      clear hb cb W1
      go_wp2_with fail
      refine CB.out.mono ?_; rintro e w2 ⟨rfl, b2⟩
      have B2 := Lib.hid (B1.out.trans (b2.mono B1.out.size))
      clear b2 CB
      go_wp2_with fail
      go_ret
      exact ⟨⟨false, rfl, ⟨fun h => (by cases h), fun ⟨_, y, _, hy, _⟩ => absurd hy (HB.out y)⟩⟩, B2.out⟩
  · have CA := Lib.hid ca
    have HA := Lib.hid ha
    clear ha ca hw
    go_enter Tryz.func20, Tryz.ntmps20
    go_wp2_with fail
    refine CA.out.mono ?_; rintro e w1 ⟨rfl, b1⟩
    have B1 := Lib.hid b1
    have W1 := HW.out.below b1 HW.out.n0
    clear b1 CA
    have cb : Calls Tryz.prog 8 #[.string b.1] w1 fun e w' => (∃ v k, e = .returned (.tuple #[v, .int .i64 k])) ∧ Below w1.heap.size w1 w' := by
      rcases Parse_two b w1 W1 with ⟨ms, _, cb⟩ | ⟨_, cb⟩
      · exact cb.mono fun e w' ⟨v, h, _, hb⟩ => ⟨⟨v, 0, h⟩, hb⟩
      · exact cb.mono fun e w' ⟨h, hb⟩ => ⟨⟨_, 3, h⟩, hb⟩
    have CB := Lib.hid cb
    clear cb W1
    go_wp2_with fail
    refine CB.out.mono ?_; rintro e w2 ⟨⟨v2, k2, rfl⟩, b2⟩
    have B2 := Lib.hid (B1.out.trans (b2.mono B1.out.size))
    clear b2 CB
    go_wp2_with fail
    go_ret
    exact ⟨⟨false, rfl, ⟨fun h => (by cases h), fun ⟨x, _, hx, _⟩ => absurd hx (HA.out x)⟩⟩, B2.out⟩
end Go.Proofs.YtnjnjcgbdhiigaaGreatDoor
