/- Compare and Within. -/
import Derived.Test.YtfgpmghaebdhpaaGreatDoorCG
namespace Go.Proofs.YtfgpmghaebdhpaaGreatDoor
open Go.RowKit Go.Shelf

/-- Parse, once more: the numbers, or none. -/
theorem Parse_two (s : Txt) (w : World) (hw : Lw w) :
    (∃ ns, PR (bts s) ns ∧ Calls Tryz.prog 54 #[.string s.1] w fun e w' => ∃ v, e = .returned (.tuple #[v, .int .i64 0]) ∧ IsN w' v ns ∧ Below w.heap.size w w') ∨
      ((∀ ns, ¬ PR (bts s) ns) ∧ Calls Tryz.prog 54 #[.string s.1] w fun e w' => e = .returned (.tuple #[.slice none 0 0, .int .i64 3]) ∧ Below w.heap.size w w') := by
  by_cases h : ∃ ns, PR (bts s) ns
  · obtain ⟨ns, hp⟩ := h
    refine Or.inl ⟨ns, hp, (Parse_any s w hw).mono ?_⟩
    rintro e w' ⟨⟨v, ms, hm, rfl, ho⟩ | ⟨hno, _⟩, hb⟩
    · obtain rfl := hp.one hm
      exact ⟨v, rfl, own_isN ho hp.pos, hb⟩
    · exact absurd hp (hno ns)
  · refine Or.inr ⟨fun ns hn => h ⟨ns, hn⟩, (Parse_any s w hw).mono ?_⟩
    rintro e w' ⟨⟨v, ms, hm, _⟩ | ⟨_, rfl⟩, hb⟩
    · exact absurd ⟨ms, hm⟩ h
    · exact ⟨rfl, hb⟩
/-- What Compare returns. -/
def CmpR (a b : List UInt8) (w : World) (e : Ending) (w' : World) : Prop :=
  ((∃ ns ms, PR a ns ∧ PR b ms ∧ e = .returned (.tuple #[.int .i64 (cmpL ns ms), .int .i64 0])) ∨ (((∀ ns, ¬ PR a ns) ∨ (∀ ms, ¬ PR b ms)) ∧ e = .returned (.tuple #[.int .i64 0, .int .i64 3]))) ∧ Below w.heap.size w w'
set_option maxHeartbeats 2000000 in
theorem Compare_any (a b : Txt) (w : World) (hw : Lw w) : Calls Tryz.prog 73 #[.string a.1, .string b.1] w (CmpR (bts a) (bts b) w) := by
  have HW := Lib.hid hw
  rcases Parse_two a w hw with ⟨ns, ha, ca⟩ | ⟨ha, ca⟩
  · have CA := Lib.hid ca
    have HA := Lib.hid ha
    clear ha ca hw
    go_enter Tryz.func73, Tryz.ntmps73
    go_wp2_with fail
    refine CA.out.mono ?_; rintro e w1 ⟨v1, rfl, i1, b1⟩
    have I1 := Lib.hid i1
    have B1 := Lib.hid b1
    have W1 := HW.out.below b1 HW.out.n0
    clear i1 b1 CA
    rcases Parse_two b w1 W1 with ⟨ms, hb, cb⟩ | ⟨hb, cb⟩
    · have CB := Lib.hid cb
      have HB := Lib.hid hb
      clear hb cb W1
      go_wp2_with fail
      refine CB.out.mono ?_; rintro e w2 ⟨v2, rfl, i2, b2⟩
      have SC := Lib.hid (sCompare_any v1 v2 ns ms w2 (by have := HA.out.len; omega) (by have := HB.out.len; omega) (I1.out.below b2) i2)
      have B2 := Lib.hid (B1.out.trans (b2.mono B1.out.size))
      clear i2 b2 CB
      go_wp2_with fail
      refine SC.out.mono ?_; rintro e w3 ⟨rfl, rfl⟩
      go_wp2_with fail
      go_ret2
      exact ⟨Or.inl ⟨ns, ms, HA.out, HB.out, rfl⟩, B2.out⟩
    · have CB := Lib.hid cb
      have HB := Lib.hid hb
      clear hb cb W1
      go_wp2_with fail
      refine CB.out.mono ?_; rintro e w2 ⟨rfl, b2⟩
      have B2 := Lib.hid (B1.out.trans (b2.mono B1.out.size))
      clear b2 CB
      go_wp2_with fail
      go_ret2
      exact ⟨Or.inr ⟨Or.inr HB.out, rfl⟩, B2.out⟩
  · have CA := Lib.hid ca
    have HA := Lib.hid ha
    clear ha ca hw
    go_enter Tryz.func73, Tryz.ntmps73
    go_wp2_with fail
    refine CA.out.mono ?_; rintro e w1 ⟨rfl, b1⟩
    have B1 := Lib.hid b1
    have W1 := HW.out.below b1 HW.out.n0
    clear b1 CA
    have cb : Calls Tryz.prog 54 #[.string b.1] w1 fun e w' => (∃ v k, e = .returned (.tuple #[v, .int .i64 k])) ∧ Below w1.heap.size w1 w' := by
      rcases Parse_two b w1 W1 with ⟨ms, _, cb⟩ | ⟨_, cb⟩
      · exact cb.mono fun e w' ⟨v, h, _, hb⟩ => ⟨⟨v, 0, h⟩, hb⟩
      · exact cb.mono fun e w' ⟨h, hb⟩ => ⟨⟨_, 3, h⟩, hb⟩
    have CB := Lib.hid cb
    clear cb W1
    go_wp2_with fail
    refine CB.out.mono ?_; rintro e w2 ⟨⟨v2, k2, rfl⟩, b2⟩
    have B2 := Lib.hid (B1.out.trans (b2.mono B1.out.size))
    clear b2 CB
    go_wp2_with fail
    go_ret2
    exact ⟨Or.inr ⟨Or.inl HA.out, rfl⟩, B2.out⟩
end Go.Proofs.YtfgpmghaebdhpaaGreatDoor
