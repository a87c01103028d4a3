/- slices.Contains, IndexFunc and ContainsFunc over notes; the closure of FileLearns. -/
import Derived.Test.YtfgpmghaebdhpaaGreatDoorFX
namespace Go.Proofs.YtfgpmghaebdhpaaGreatDoor
open Go.RowKit Go.Maps Go.Shelf

def HasZ (x : Nt) (l : List Nt) (w : World) (e : Ending) (w' : World) : Prop := ∃ z : Bool, e = .returned (.bool z) ∧ (x ∈ l → z = true) ∧ Below w.heap.size w w'
set_option maxRecDepth 100000 in
set_option maxHeartbeats 2000000 in
theorem containsN_any (x : Nt) (v : Value) (ns : List Nt) (w : World) (hv : IsNt w v ns) (hn : ns.length ≤ 1000) :
    Calls Tryz.prog 17 #[v, .agg #[.string x.nm, .int .i64 x.f, .int .i64 x.l, .int .i64 x.r]] w (HasZ x ns w) := by
  have B0 := Lib.hid ((Below.refl w.heap.size w).alloc (Nat.le_refl _) (.cells #[.string x.nm, .int .i64 x.f, .int .i64 x.l, .int .i64 x.r] 39))
  have IX := Lib.hid (indexN_any x v ns _ (hv.below B0.out) hn)
  clear hv hn
  go_enter Tryz.func17, Tryz.ntmps17
  go_wp2_with fail
  refine IX.out.mono ?_
  rintro e w1 ⟨i, rfl, hi, b1⟩
  have B1 := Lib.hid (B0.out.trans (b1.mono B0.out.size))
  have HI := Lib.hid hi
  clear hi b1 IX
  by_cases h : 0 ≤ i
  · have D : decide (0 ≤ i) = true := decide_eq_true h
    go_wp2_with fail
    go_ret
    exact ⟨true, rfl, fun _ => rfl, B1.out⟩
  · have D : decide (0 ≤ i) = false := decide_eq_false h
    have NH := Lib.hid h
    clear h
    go_wp2_with fail
    go_ret
    exact ⟨false, rfl, fun g => by have := HI.out g; have := NH.out; omega, B1.out⟩
set_option maxRecDepth 100000 in
set_option maxHeartbeats 2000000 in
theorem learns1_any (x : Nt) (b : Nat) (v : Value) (ns : List Nt) (w : World) (hb : w.cell? ⟨b, 0, none⟩ = some v) (hv : IsNt w v ns) (hn : ns.length ≤ 1000) (hx : x ∈ ns) :
    Calls Tryz.prog 16 #[x.val, .pointer (some ⟨b, 0, none⟩)] w fun e w' => e = .returned (.bool false) ∧ Below w.heap.size w w' := by
  obtain ⟨nm, f, l, r⟩ := x
  show Calls Tryz.prog 16 #[.agg #[.string nm, .int .i64 f, .int .i64 l, .int .i64 r], .pointer (some ⟨b, 0, none⟩)] w fun e w' => e = .returned (.bool false) ∧ Below w.heap.size w w'
  have B0 := Lib.hid ((Below.refl w.heap.size w).alloc (Nat.le_refl _) (.cells #[.string nm, .int .i64 f, .int .i64 l, .int .i64 r] 39))
  have lt := nLt hb
  have CN := Lib.hid (containsN_any ⟨nm, f, l, r⟩ v ns _ (hv.below B0.out) hn)
  have HX := Lib.hid hx
  obtain ⟨p, c, rfl, -, -⟩ := hv
  clear hn hx
  go_enter Tryz.func16, Tryz.ntmps16
  go_wp2_with fail
  refine CN.out.mono ?_
  rintro e w1 ⟨z, rfl, hz, b1⟩
  obtain rfl := hz HX.out
  have B1 := Lib.hid (B0.out.trans (b1.mono B0.out.size))
  clear b1 CN
  go_wp2_with fail
  go_ret
  exact ⟨rfl, B1.out⟩
set_option maxRecDepth 100000 in
set_option maxHeartbeats 4000000 in
theorem idxN_any (k0 : FuncId) (caps : Array Value) (eg : ∀ args w, (callFunc k0 args).run Tryz.prog w = .ok (.enter k0 args) w) (f : Nt → Bool) (v : Value) (ns : List Nt) (w : World) (hv : IsNt w v ns) (hn : ns.length ≤ 1000)
    (hq : ∀ V x, x ∈ ns → Below w.heap.size w V → Calls Tryz.prog k0 (#[x.val] ++ caps) V fun e V' => e = .returned (.bool (f x)) ∧ Below V.heap.size V V') :
    Calls Tryz.prog 29 #[v, .func (.func k0) #[] caps] w fun e w' => e = .returned (.int .i64 (ixF ns f)) ∧ Below w.heap.size w w' := by
  have HQ := Lib.hid hq
  obtain ⟨p, c, rfl, hc, hp⟩ := hv
  obtain ⟨n, hnn⟩ : ∃ n, n = ns.length := ⟨_, rfl⟩
  rw [← hnn] at hn hc ⊢
  have HN := Lib.hid hnn
  have HP := Lib.hid hp
  obtain ⟨R, hR⟩ : ∃ R, R = ixF ns f := ⟨_, rfl⟩
  rw [← hR]
  have HR := Lib.hid hR
  clear hp hnn hq hR
  go_enter Tryz.func29, Tryz.ntmps29
  go_wp2_with fail
  go_loopw [5, 8] (fun _ si wr => ∃ k : Nat, k ≤ n ∧ si = .int .i64 k ∧ Hid (Below w.heap.size w wr ∧ ∀ y ∈ ns.take k, f y = false)) (fun _ si _ => n - (intOf si).toNat)
  case atStart => exact ⟨0, Nat.zero_le _, rfl, Below.refl _ _, fun y h => by simp at h⟩
  case round =>
    obtain ⟨k, hk, rfl, hrel⟩ := hrel
    have BL := Lib.hid hrel.out.1
    have NO := Lib.hid hrel.out.2
    clear hrel
    by_cases hlt : k < n
    · obtain ⟨x, hx⟩ : ∃ x, ns[k]? = some x := ⟨_, List.getElem?_eq_getElem (by rw [← HN.out]; exact hlt)⟩
      obtain ⟨g, off, rfl, hcell⟩ := HP.out (by rw [← HN.out]; omega)
      obtain ⟨lt0, c0, c1, c2, c3⟩ := (hcell k x hx).below BL.out
      have F1 := Lib.hid (HQ.out wr x (List.mem_of_getElem? hx) BL.out)
      have FOUND := Lib.hid (fun h : f x = true => HR.out.trans (ixF_hit hx h NO.out))
      have NEXT := Lib.hid (fun h : f x = false => take_snoc hx NO.out h)
      clear hcell hx
      replace F1 : Hid (Calls Tryz.prog k0 (#[.agg #[.string x.nm, .int .i64 x.f, .int .i64 x.l, .int .i64 x.r]] ++ caps) wr fun e V' => e = .returned (.bool (f x)) ∧ Below wr.heap.size wr V') := F1
      cases hf : f x with
      | true =>
        have R1 := Lib.hid (FOUND.out hf)
        rw [hf] at F1
        clear hf FOUND NEXT NO
        go_wp2_with (go_at_fn k0; refine F1.out.mono ?_; rintro e w2 ⟨rfl, b2⟩; replace b2 := Lib.hid b2)
        have BB := Lib.hid (BL.out.trans (b2.out.mono BL.out.size))
        go_ret
        exact ⟨by rw [R1.out]; rfl, BB.out⟩
      | false =>
        have N1 := Lib.hid (NEXT.out hf)
        rw [hf] at F1
        clear hf FOUND NEXT NO
        go_wp2_with (go_at_fn k0; refine F1.out.mono ?_; rintro e w2 ⟨rfl, b2⟩; replace b2 := Lib.hid b2)
        have BB := Lib.hid (BL.out.trans (b2.out.mono BL.out.size))
        go_roundw
        case rel => exact ⟨k + 1, by omega, by go_num, BB.out, N1.out⟩
        case measure => simp [intOf]; omega
    · obtain rfl : k = n := by omega
      have R1 := Lib.hid (show R = -1 from HR.out.trans (ixF_miss (by have := NO.out; rwa [List.take_of_length_le (by rw [← HN.out]; exact Nat.le_refl _)] at this)))
      clear NO
      go_wp2_with fail
      go_ret
      exact ⟨by rw [R1.out]; rfl, BL.out⟩
set_option maxHeartbeats 2000000 in
theorem containsNF_any (k0 : FuncId) (caps : Array Value) (eg : ∀ args w, (callFunc k0 args).run Tryz.prog w = .ok (.enter k0 args) w) (f : Nt → Bool) (v : Value) (ns : List Nt) (w : World) (hv : IsNt w v ns) (hn : ns.length ≤ 1000)
    (hq : ∀ V x, x ∈ ns → Below w.heap.size w V → Calls Tryz.prog k0 (#[x.val] ++ caps) V fun e V' => e = .returned (.bool (f x)) ∧ Below V.heap.size V V') :
    Calls Tryz.prog 15 #[v, .func (.func k0) #[] caps] w fun e w' => e = .returned (.bool (ns.any f)) ∧ Below w.heap.size w w' := by
  have IX := Lib.hid (idxN_any k0 caps eg f v ns w hv hn hq)
  obtain ⟨i, hi⟩ : ∃ i, i = ixF ns f := ⟨_, rfl⟩
  have R := ixF_any ns f
  rw [← hi] at IX R
  rw [← R]
  clear hi R hv hq hn
  by_cases h : 0 ≤ i
  · have D : decide (0 ≤ i) = true := decide_eq_true h
    go_enter Tryz.func15, Tryz.ntmps15
    go_wp2_with fail
    refine IX.out.mono ?_; rintro e w1 ⟨rfl, b1⟩
    have B1 := Lib.hid b1
    clear b1 IX
    go_wp2_with fail
    go_ret
    exact ⟨by rw [D]; rfl, B1.out⟩
  · have D : decide (0 ≤ i) = false := decide_eq_false h
    go_enter Tryz.func15, Tryz.ntmps15
    go_wp2_with fail
    refine IX.out.mono ?_; rintro e w1 ⟨rfl, b1⟩
    have B1 := Lib.hid b1
    clear b1 IX
    go_wp2_with fail
    go_ret
    exact ⟨by rw [D]; rfl, B1.out⟩
end Go.Proofs.YtfgpmghaebdhpaaGreatDoor
