/- Classes; slices.ContainsFunc over them. -/
import Derived.Test.YtfgpmghaebdhpaaGreatDoorFI
import Derived.Test.YtfgpmghaebdhpaaGreatDoorCK
namespace Go.Proofs.YtfgpmghaebdhpaaGreatDoor
open Go.RowKit Go.Shelf

/-- A class. -/
structure Cl where
  co : Txt
  ti : Txt
def Cl.val (x : Cl) : Value := .agg #[.string x.co.1, .string x.ti.1]
structure ClAt (w : World) (g off : Nat) (x : Cl) : Prop where
  lt : g < w.heap.size
  c0 : w.cell? ⟨g, off, none⟩ = some (.string x.co.1)
  c1 : w.cell? ⟨g, off + 1, none⟩ = some (.string x.ti.1)
theorem ClAt.below {w w' : World} {g off : Nat} {x : Cl} (h : ClAt w g off x) (hb : Below w.heap.size w w') : ClAt w' g off x :=
  ⟨Nat.lt_of_lt_of_le h.lt hb.size, (hb.cell (p := ⟨g, off, none⟩) h.lt).trans h.c0, (hb.cell (p := ⟨g, off + 1, none⟩) h.lt).trans h.c1⟩
/-- A list of classes in memory. -/
def IsCl (w : World) (v : Value) (cs : List Cl) : Prop := ∃ p c, v = .slice p cs.length c ∧ cs.length ≤ c ∧ (0 < cs.length → ∃ g off, p = some ⟨g, off, none⟩ ∧ ∀ (j : Nat) x, cs[j]? = some x → ClAt w g (off + j * 2) x)
theorem IsCl.below {w w' : World} {v : Value} {cs : List Cl} (h : IsCl w v cs) (hb : Below w.heap.size w w') : IsCl w' v cs := by
  obtain ⟨p, c, h1, h2, h3⟩ := h
  refine ⟨p, c, h1, h2, fun h0 => ?_⟩
  obtain ⟨g, off, e, hc⟩ := h3 h0
  exact ⟨g, off, e, fun j x hj => (hc j x hj).below hb⟩
/-- The index of the first that fits. -/
def ixF {α : Type} (l : List α) (f : α → Bool) : Int := match l.findIdx? f with | some k => k | none => -1
theorem ixF_hit {α : Type} {l : List α} {f : α → Bool} {k : Nat} {x : α} (hx : l[k]? = some x) (hf : f x = true) (hn : ∀ y ∈ l.take k, f y = false) : ixF l f = (k : Int) := by
  have : l.findIdx? f = some k := by
    rw [List.findIdx?_eq_some_iff_getElem]
    obtain ⟨h1, h2⟩ := List.getElem?_eq_some_iff.1 hx
    refine ⟨h1, by rw [h2]; exact hf, fun j hj => ?_⟩
    have := hn (l[j]'(by omega)) (by rw [List.mem_take_iff_getElem]; exact ⟨j, by omega, rfl⟩)
    simpa using this
  unfold ixF
  rw [this]
theorem ixF_miss {α : Type} {l : List α} {f : α → Bool} (hn : ∀ y ∈ l, f y = false) : ixF l f = -1 := by
  have : l.findIdx? f = none := by
    rw [List.findIdx?_eq_none_iff]
    exact hn
  unfold ixF
  rw [this]
theorem ixF_any {α : Type} (l : List α) (f : α → Bool) : decide (0 ≤ ixF l f) = l.any f := by
  unfold ixF
  cases h : l.findIdx? f with
  | none =>
    have := List.findIdx?_eq_none_iff.1 h
    have e : l.any f = false := by
      rw [List.any_eq_false]
      intro x hx
      rw [this x hx]; simp
    rw [e]; simp
  | some k =>
    rw [List.findIdx?_eq_some_iff_getElem] at h
    obtain ⟨h1, h2, _⟩ := h
    have e : l.any f = true := List.any_eq_true.2 ⟨_, List.getElem_mem h1, h2⟩
    rw [e]; simp
theorem take_snoc {α : Type} {l : List α} {k : Nat} {x : α} {P : α → Prop} (hx : l[k]? = some x) (hn : ∀ y ∈ l.take k, P y) (h : P x) : ∀ y ∈ l.take (k + 1), P y := fun y hy => by
  rw [List.take_add_one, hx] at hy
  rcases List.mem_append.1 hy with g | g
  · exact hn y g
  · obtain rfl : y = x := by simpa using g
    exact h
set_option maxRecDepth 100000 in
set_option maxHeartbeats 4000000 in
theorem idxC_any (k0 : FuncId) (caps : Array Value) (eg : ∀ args w, (callFunc k0 args).run Tryz.prog w = .ok (.enter k0 args) w) (f : Cl → Bool) (v : Value) (cs : List Cl) (w : World) (hv : IsCl w v cs) (hn : cs.length ≤ 1000)
    (hq : ∀ V x, x ∈ cs → Below w.heap.size w V → Calls Tryz.prog k0 (#[x.val] ++ caps) V fun e V' => e = .returned (.bool (f x)) ∧ Below V.heap.size V V') :
    Calls Tryz.prog 46 #[v, .func (.func k0) #[] caps] w fun e w' => e = .returned (.int .i64 (ixF cs f)) ∧ Below w.heap.size w w' := by
  have HQ := Lib.hid hq
  obtain ⟨p, c, rfl, hc, hp⟩ := hv
  obtain ⟨n, hnn⟩ : ∃ n, n = cs.length := ⟨_, rfl⟩
  rw [← hnn] at hn hc ⊢
  have HN := Lib.hid hnn
  have HP := Lib.hid hp
  obtain ⟨R, hR⟩ : ∃ R, R = ixF cs f := ⟨_, rfl⟩
  rw [← hR]
  have HR := Lib.hid hR
  clear hp hnn hq hR
  go_enter Tryz.func46, Tryz.ntmps46
  go_wp2_with fail
  go_loopw [5, 8] (fun _ si wr => ∃ k : Nat, k ≤ n ∧ si = .int .i64 k ∧ Hid (Below w.heap.size w wr ∧ ∀ y ∈ cs.take k, f y = false)) (fun _ si _ => n - (intOf si).toNat)
  case atStart => exact ⟨0, Nat.zero_le _, rfl, Below.refl _ _, fun y h => by simp at h⟩
  case round =>
    obtain ⟨k, hk, rfl, hrel⟩ := hrel
    have BL := Lib.hid hrel.out.1
    have NO := Lib.hid hrel.out.2
    clear hrel
    by_cases hlt : k < n
    · obtain ⟨x, hx⟩ : ∃ x, cs[k]? = some x := ⟨_, List.getElem?_eq_getElem (by rw [← HN.out]; exact hlt)⟩
      obtain ⟨g, off, rfl, hcell⟩ := HP.out (by rw [← HN.out]; omega)
      obtain ⟨lt0, c0, c1⟩ := (hcell k x hx).below BL.out
      have F1 := Lib.hid (HQ.out wr x (List.mem_of_getElem? hx) BL.out)
      have FOUND := Lib.hid (fun h : f x = true => HR.out.trans (ixF_hit hx h NO.out))
      have NEXT := Lib.hid (fun h : f x = false => take_snoc hx NO.out h)
      clear hcell hx
      replace F1 : Hid (Calls Tryz.prog k0 (#[.agg #[.string x.co.1, .string x.ti.1]] ++ caps) wr fun e V' => e = .returned (.bool (f x)) ∧ Below wr.heap.size wr V') := F1
      cases hf : f x with
      | true =>
        have R1 := Lib.hid (FOUND.out hf)
        rw [hf] at F1
        clear hf FOUND NEXT NO
        go_wp2_with (go_at_fn k0; refine F1.out.mono ?_; rintro e w2 ⟨rfl, b2⟩; replace b2 := Lib.hid b2)
        have BB := Lib.hid (BL.out.trans (b2.out.mono BL.out.size))
        go_ret
        exact ⟨by rw [R1.out]; rfl, BB.out⟩
      | false =>
        have N1 := Lib.hid (NEXT.out hf)
        rw [hf] at F1
        clear hf FOUND NEXT NO
        go_wp2_with (go_at_fn k0; refine F1.out.mono ?_; rintro e w2 ⟨rfl, b2⟩; replace b2 := Lib.hid b2)
        have BB := Lib.hid (BL.out.trans (b2.out.mono BL.out.size))
        go_roundw
        case rel => exact ⟨k + 1, by omega, by go_num, BB.out, N1.out⟩
        case measure => simp [intOf]; omega
    · obtain rfl : k = n := by omega
      have R1 := Lib.hid (show R = -1 from HR.out.trans (ixF_miss (by have := NO.out; rwa [List.take_of_length_le (by rw [← HN.out]; exact Nat.le_refl _)] at this)))
      clear NO
      go_wp2_with fail
      go_ret
      exact ⟨by rw [R1.out]; rfl, BL.out⟩
set_option maxHeartbeats 2000000 in
theorem containsC_any (k0 : FuncId) (caps : Array Value) (eg : ∀ args w, (callFunc k0 args).run Tryz.prog w = .ok (.enter k0 args) w) (f : Cl → Bool) (v : Value) (cs : List Cl) (w : World) (hv : IsCl w v cs) (hn : cs.length ≤ 1000)
    (hq : ∀ V x, x ∈ cs → Below w.heap.size w V → Calls Tryz.prog k0 (#[x.val] ++ caps) V fun e V' => e = .returned (.bool (f x)) ∧ Below V.heap.size V V') :
    Calls Tryz.prog 41 #[v, .func (.func k0) #[] caps] w fun e w' => e = .returned (.bool (cs.any f)) ∧ Below w.heap.size w w' := by
  have IX := Lib.hid (idxC_any k0 caps eg f v cs w hv hn hq)
  obtain ⟨i, hi⟩ : ∃ i, i = ixF cs f := ⟨_, rfl⟩
  have R := ixF_any cs f
  rw [← hi] at IX R
  rw [← R]
  clear hi R hv hq hn
  by_cases h : 0 ≤ i
  · have D : decide (0 ≤ i) = true := decide_eq_true h
    go_enter Tryz.func41, Tryz.ntmps41
    go_wp2_with fail
    refine IX.out.mono ?_; rintro e w1 ⟨rfl, b1⟩
    have B1 := Lib.hid b1
    clear b1 IX
    go_wp2_with fail
    go_ret
    exact ⟨by rw [D]; rfl, B1.out⟩
  · have D : decide (0 ≤ i) = false := decide_eq_false h
    go_enter Tryz.func41, Tryz.ntmps41
    go_wp2_with fail
    refine IX.out.mono ?_; rintro e w1 ⟨rfl, b1⟩
    have B1 := Lib.hid b1
    clear b1 IX
    go_wp2_with fail
    go_ret
    exact ⟨by rw [D]; rfl, B1.out⟩
end Go.Proofs.YtfgpmghaebdhpaaGreatDoor
