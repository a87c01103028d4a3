/- Parent. -/
import Derived.Test.YtfgpmghaebdhpaaGreatDoorCI
namespace Go.Proofs.YtfgpmghaebdhpaaGreatDoor
open Go.RowKit Go.Shelf

/-- The parts, with dots between them. -/
def jn : List (List UInt8) → List UInt8
  | [] => []
  | [p] => p
  | p :: q :: r => p ++ 46 :: jn (q :: r)
theorem jn_cons (c : UInt8) : ∀ (p : List UInt8) (r : List (List UInt8)), jn ((c :: p) :: r) = c :: jn (p :: r)
  | _, [] => rfl
  | _, _ :: _ => rfl
theorem jn_sp : ∀ l, jn (sp l) = l
  | [] => rfl
  | c :: r => by
    have ih := jn_sp r
    unfold sp
    split
    · rename_i h
      cases hs : sp r with
      | nil => exact absurd hs (sp_ne r)
      | cons p ps =>
        rw [hs] at ih
        show [] ++ 46 :: jn (p :: ps) = c :: r
        rw [ih, h]; rfl
    · split
      · rename_i h; exact absurd h (sp_ne r)
      · rename_i p ps h
        rw [jn_cons, ← h, ih]
theorem PR.text {l m : List UInt8} {ns : List Nat} (h : PR l ns) (g : PR m ns) : l = m := by rw [← jn_sp l, ← h.txt, g.txt, jn_sp]
theorem sp_last : ∀ (l : List UInt8) (i : Nat), l[i]? = some 46 → (46 : UInt8) ∉ l.drop (i + 1) → sp l = sp (l.take i) ++ [l.drop (i + 1)]
  | [], i, h, _ => by simp at h
  | c :: r, 0, h, g => by
    simp at h
    have g' : (46 : UInt8) ∉ r := by simpa using g
    conv => lhs; unfold sp
    rw [if_pos h, sp_none r g']; rfl
  | c :: r, i + 1, h, g => by
    have ih := sp_last r i (by simpa using h) (by simpa using g)
    conv => lhs; unfold sp
    rw [List.take_succ_cons, List.drop_succ_cons]
    by_cases hc : c = 46
    · rw [if_pos hc, ih]
      conv => rhs; unfold sp
      rw [if_pos hc]; rfl
    · rw [if_neg hc, ih]
      conv => rhs; unfold sp
      rw [if_neg hc]
      cases hs : sp (r.take i) with
      | nil => exact absurd hs (sp_ne _)
      | cons p ps => rfl
theorem PR.cut {l : List UInt8} {ns : List Nat} {i : Nat} (h : PR l ns) (h1 : l[i]? = some 46) (h2 : (46 : UInt8) ∉ l.drop (i + 1)) : PR (l.take i) ns.dropLast where
  rng n hn := h.rng n ((List.dropLast_sublist ns).mem hn)
  len := by rw [List.length_dropLast]; have := h.len; omega
  txt := by rw [List.map_dropLast, h.txt, sp_last l i h1 h2, List.dropLast_concat]
theorem byte_at {a : Txt} {j : Nat} {c : UInt8} (h : (bts a)[j]? = some c) : j < a.1.size ∧ a.1.data[j]! = c := by
  have h : a.1.data.toList[j]? = some c := h
  obtain ⟨h1, h2⟩ := List.getElem?_eq_some_iff.1 h
  have h1' : j < a.1.data.size := by simpa using h1
  refine ⟨h1', ?_⟩
  rw [getElem!_pos a.1.data j h1']
  simpa using h2
/-- What Parent returns. -/
def PaR (a : List UInt8) (w : World) (e : Ending) (w' : World) : Prop :=
  ((∃ ns, ∃ p : Txt, PR a ns ∧ 2 ≤ ns.length ∧ PR (bts p) ns.dropLast ∧ p.1.size ≤ a.length ∧ e = .returned (.tuple #[.string p.1, .bool true])) ∨ ((∀ ns, PR a ns → ns.length = 1) ∧ e = .returned (.tuple #[.string ⟨#[]⟩, .bool false]))) ∧ Below w.heap.size w w'

set_option maxHeartbeats 2000000 in
theorem Parent_any (a : Txt) (w : World) (hw : Lw w) : Calls Tryz.prog 49 #[.string a.1] w (PaR (bts a) w) := by
  rcases Parse_two a w hw with ⟨ns, ha, ca⟩ | ⟨ha, ca⟩
  · have CA := Lib.hid ca
    have HA := Lib.hid ha
    clear ca hw
    by_cases h1 : ns.length = 1
    · have NO := Lib.hid (show ∀ ms, PR (bts a) ms → ms.length = 1 from fun ms hm => by rw [← ha.one hm]; exact h1)
      clear ha
      go_enter Tryz.func49, Tryz.ntmps49
      go_wp2_with fail
      refine CA.out.mono ?_; rintro e w1 ⟨v1, rfl, ⟨g, off, c, rfl, _, _, _⟩, b1⟩
      have B1 := Lib.hid b1
      rw [h1]
      clear b1 CA
      go_wp2_with fail
      go_ret2
      exact ⟨Or.inr ⟨NO.out, rfl⟩, B1.out⟩
    · have hp := ha.pos
      have LI := Any.strings_LastIndex_one Tryz.lays148 a.1 ⟨#[46]⟩ rfl (by have := a.2; omega)
      have sp2 : ∃ i : Nat, Lib.lastIndexByte a.1 46 = i ∧ i < a.1.size ∧ (bts a)[i]? = some 46 ∧ (46 : UInt8) ∉ (bts a).drop (i + 1) := by
        rcases Lib.lastIndexByte_spec a.1 46 with ⟨_, hn⟩ | ⟨i, hi, e, hc, hj⟩
        · exfalso
          have no : (46 : UInt8) ∉ bts a := fun hm => by
            obtain ⟨j, hj⟩ := List.mem_iff_getElem?.1 hm
            obtain ⟨h2, h3⟩ := byte_at hj
            exact hn j h2 (by rw [h3]; rfl)
          have := congrArg List.length ha.txt
          rw [sp_none _ no, List.length_map] at this
          exact h1 this
        · refine ⟨i, e, hi, ?_, fun hm => ?_⟩
          · have hx : a.1.data[i]! = 46 := UInt8.toNat_inj.1 (by have : ((a.1.data[i]!).toNat : Int) = 46 := hc; show (a.1.data[i]!).toNat = 46; omega)
            show a.1.data.toList[i]? = some 46
            have hi' : i < a.1.data.size := hi
            rw [getElem!_pos a.1.data i hi'] at hx
            rw [Array.getElem?_toList, Array.getElem?_eq_getElem hi', hx]
          · obtain ⟨k, hk⟩ := List.mem_iff_getElem?.1 hm
            rw [List.getElem?_drop] at hk
            obtain ⟨h2, h3⟩ := byte_at hk
            exact hj (i + 1 + k) (by omega) h2 (by rw [h3]; rfl)
      obtain ⟨i, e1, e2, e3, e4⟩ := sp2
      have PC := Lib.hid (ha.cut e3 e4)
      have z0 : (0 : Int) ≤ (i : Int) := by omega
      have z1 : (i : Int) ≤ (a.1.size : Int) := by omega
      have z2 : ¬ ((ns.length : Int) = 1) := by omega
      have z3 : ((ns.length : Int) == 1) = false := by simpa using z2
      have LI : ∀ V, Calls Tryz.prog 55 #[.string a.1, .string ⟨#[46]⟩] V fun e V' => e = .returned (.int .i64 (i : Int)) ∧ V' = V := fun V => by rw [← e1]; exact LI V
      have LI := Lib.hid LI
      clear ha e1
      go_enter Tryz.func49, Tryz.ntmps49
      go_wp2_with fail
      refine CA.out.mono ?_; rintro e w1 ⟨v1, rfl, ⟨g, off, c, rfl, _, _, _⟩, b1⟩
      have B1 := Lib.hid b1
      clear b1 CA
      go_wp2_with fail
      refine (LI.out _).mono ?_; rintro e w2 ⟨rfl, rfl⟩
      go_wp2_with fail
      go_ret2
      refine ⟨Or.inl ⟨ns, ⟨a.1.extract 0 i, by rw [ByteArray.size_extract]; have := a.2; omega⟩, HA.out, by omega, ?_, ?_, rfl⟩, B1.out⟩
      · show PR (a.1.extract 0 i).data.toList _
        rw [ex_take]; exact PC.out
      · show (a.1.extract 0 i).size ≤ (bts a).length
        rw [ByteArray.size_extract]; show _ ≤ a.1.data.toList.length; simp; omega
  · have CA := Lib.hid ca
    have NO := Lib.hid (show ∀ ms, PR (bts a) ms → ms.length = 1 from fun ms hm => absurd hm (ha ms))
    clear ha ca hw
    go_enter Tryz.func49, Tryz.ntmps49
    go_wp2_with fail
    refine CA.out.mono ?_; rintro e w1 ⟨rfl, b1⟩
    have B1 := Lib.hid b1
    clear b1 CA
    go_wp2_with fail
    go_ret2
    exact ⟨Or.inr ⟨NO.out, rfl⟩, B1.out⟩
end Go.Proofs.YtfgpmghaebdhpaaGreatDoor
