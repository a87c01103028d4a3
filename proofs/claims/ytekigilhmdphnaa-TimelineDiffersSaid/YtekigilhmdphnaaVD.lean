/- find; what two lists say of a day. -/
import Derived.Test.YtekigilhmdphnaaVC
namespace Go.Proofs.Ytekigilhmdphnaa
open Go.RowKit Go.Shelf

/-- What a list says of a day. -/
def atF (L : List Pc) (d : Int) : Int × Bool := match L.find? (fun p => hasB p d) with
  | some p => (p.v, true)
  | none => (0, false)
theorem atF_val (L : List Pc) (d : Int) : AtV L d (atF L d).1 (atF L d).2 := by
  unfold atF
  cases h : L.find? (fun p => hasB p d) with
  | none => exact Or.inr ⟨rfl, rfl, fun v ⟨p, hp, hb, _⟩ => List.find?_eq_none.1 h p hp hb⟩
  | some p => exact Or.inl ⟨rfl, p, List.mem_of_find?_eq_some h, List.find?_some (p := fun p => hasB p d) h, rfl⟩
theorem AtV.eq {L : List Pc} {d x : Int} {y : Bool} (h : AtV L d x y) (g : Gd L) : x = (atF L d).1 ∧ y = (atF L d).2 := h.same (atF_val L d) (fun _ => Iff.rfl) g
theorem turn_none {P : Nat → Pc} {n r : Nat} {d : Int} (ho : Ord P n) (hr : r ≤ n) (q0 : 0 < r → (P (r - 1)).u ≤ d) (q1 : r < n → d < (P r).u ∧ hasB (P r) d = false) : ∀ v, ¬ hv (toL P n) d v := fun v h => by
  obtain ⟨k, hk, ⟨h1, h2⟩, _⟩ := hv_toL.1 h
  rcases Nat.lt_trichotomy k r with a | rfl | a
  · have := q0 (by omega)
    rcases Nat.lt_or_ge k (r - 1) with b | b
    · have := ho.le k (r - 1) b (by omega)
      have := (ho.sp (r - 1) (by omega)).2.1
      omega
    · obtain rfl : k = r - 1 := by omega
      omega
  · have := (q1 hk).2
    unfold hasB at this
    exact of_decide_eq_false this ⟨h1, h2⟩
  · have := (q1 (by omega)).1
    have := ho.le r k a hk
    omega
def FndR (L : List Pc) (d : Int) (w : World) (e : Ending) (w' : World) : Prop := e = .returned (.tuple #[.int .i64 (atF L d).1, .bool (atF L d).2]) ∧ Below w.heap.size w w'
theorem FndR.of {L : List Pc} {d x : Int} {y : Bool} {w w' : World} (g : Gd L) (h : AtV L d x y) (hb : Below w.heap.size w w') : FndR L d w (.returned (.tuple #[.int .i64 x, .bool y])) w' := by
  obtain ⟨rfl, rfl⟩ := h.eq g
  exact ⟨rfl, hb⟩

set_option maxHeartbeats 2000000 in
theorem find_any (p : Option Addr) (n c : Nat) (P : Nat → Pc) (d : Int) (w : World) (h : IsP w p n c P) (hg : Gd (toL P n)) (hn : n ≤ 1000) :
    Calls Try.prog 43 #[.slice p n c, .int .i64 d] w (FndR (toL P n) d w) := by
  have OR := Lib.hid (ord_of_gd P n hg)
  have EA := Lib.hid (ended_any p n c P d w (by omega) h)
  have HG := Lib.hid hg
  have HI := Lib.hid h
  clear hg h
  go_enter Try.func43, Try.ntmps43
  go_wp2_with fail
  refine EA.out.mono ?_; rintro e w1 ⟨r, hr, q0, q1, rfl, b1⟩
  have E1 := Lib.hid (HI.out.below b1)
  have B1 := Lib.hid b1
  have Q0 := Lib.hid (fun h0 => Int.not_lt.1 (of_decide_eq_false (q0 h0)))
  have Q1 := Lib.hid (fun h0 => of_decide_eq_true (q1 h0))
  clear b1 HI EA q0 q1
  by_cases hlt : r < n
  · have hltz : (r : Int) < (n : Int) := by omega
    have hz0 : (0 : Int) ≤ (r : Int) := by omega
    obtain ⟨b, off, rfl, hp⟩ := E1.out.row (by omega)
    obtain ⟨k0, k1, k2⟩ := hp.2 r hlt
    have HC := Lib.hid (fun V => has_any (P r) d V)
    have HP := Lib.hid hp
    clear hp E1
    cases hb : hasB (P r) d with
    | true =>
      have AV := Lib.hid (show AtV (toL P n) d (P r).v true from Or.inl ⟨rfl, P r, mem_toL.2 ⟨r, hlt, rfl⟩, hb, rfl⟩)
      rw [hb] at HC
      clear hb
      go_wp2_with fail
      refine (HC.out _).mono ?_; rintro e w2 ⟨rfl, b2⟩
      obtain ⟨k0, k1, k2⟩ := (HP.out.below b2).2 r hlt
      have B2 := Lib.hid (B1.out.trans (b2.mono B1.out.size))
      clear b2
      go_wp2_with fail
      go_ret2
      exact FndR.of HG.out AV.out B2.out
    | false =>
      have AV := Lib.hid (show AtV (toL P n) d 0 false from Or.inr ⟨rfl, rfl, turn_none OR.out hr Q0.out (fun h0 => ⟨Q1.out h0, hb⟩)⟩)
      rw [hb] at HC
      clear hb
      go_wp2_with fail
      refine (HC.out _).mono ?_; rintro e w2 ⟨rfl, b2⟩
      have B2 := Lib.hid (B1.out.trans (b2.mono B1.out.size))
      clear b2
      go_wp2_with fail
      go_ret2
      exact FndR.of HG.out AV.out B2.out
  · have hltz : ¬ (r : Int) < (n : Int) := by omega
    have AV := Lib.hid (show AtV (toL P n) d 0 false from Or.inr ⟨rfl, rfl, turn_none OR.out hr Q0.out (fun h0 => absurd h0 hlt)⟩)
    go_wp2_with fail
    go_ret2
    exact FndR.of HG.out AV.out B1.out

/-- What Changes and Over ask of a day. -/
def chF (A B : List Pc) (d : Int) : Int × Bool := (0, ((atF A d).2 != (atF B d).2) || ((atF A d).1 != (atF B d).1))
def ovF (A B : List Pc) (d : Int) : Int × Bool := if (atF B d).2 = true then ((atF B d).1, true) else atF A d
/-- A list lies in a box. -/
def BoxL (w : World) (b : Nat) (p : Option Addr) (n c : Nat) (P : Nat → Pc) : Prop := b < w.heap.size ∧ w.cell? ⟨b, 0, none⟩ = some (.slice p n c) ∧ IsP w p n c P
theorem BoxL.below {w w' : World} {b : Nat} {p : Option Addr} {n c : Nat} {P : Nat → Pc} (h : BoxL w b p n c P) (hb : Below w.heap.size w w') : BoxL w' b p n c P :=
  ⟨Nat.lt_of_lt_of_le h.1 hb.size, (hb.cell (p := ⟨b, 0, none⟩) h.1).trans h.2.1, h.2.2.below hb⟩
def ClR (v : Int × Bool) (w : World) (e : Ending) (w' : World) : Prop := e = .returned (.tuple #[.int .i64 v.1, .bool v.2]) ∧ Below w.heap.size w w'

set_option maxHeartbeats 2000000 in
theorem chFn_any (a b : Nat) (p q : Option Addr) (n c m c2 : Nat) (P Q : Nat → Pc) (d : Int) (w : World) (hA : BoxL w a p n c P) (hB : BoxL w b q m c2 Q) (gA : Gd (toL P n)) (gB : Gd (toL Q m)) (hn : n ≤ 1000) (hm : m ≤ 1000) :
    Calls Try.prog 42 #[.int .i64 d, .pointer (some ⟨a, 0, none⟩), .pointer (some ⟨b, 0, none⟩)] w (ClR (chF (toL P n) (toL Q m) d) w) := by
  have FA := Lib.hid (fun V hV => find_any p n c P d V hV gA hn)
  have FB := Lib.hid (fun V hV => find_any q m c2 Q d V hV gB hm)
  have HA := Lib.hid hA
  have HB := Lib.hid hB
  obtain ⟨_, l0, _⟩ := hA
  obtain ⟨_, m0, _⟩ := hB
  clear gA gB
  unfold chF
  generalize toL P n = A at *
  generalize toL Q m = B at *
  unfold FndR at FA FB
  generalize (atF A d).1 = xa at *
  generalize (atF A d).2 = ya at *
  generalize (atF B d).1 = xb at *
  generalize (atF B d).2 = yb at *
  go_enter Try.func42, Try.ntmps42
  go_wp2_with fail
  refine (FA.out w HA.out.2.2).mono ?_; rintro e w1 ⟨rfl, b1⟩
  have HB1 := Lib.hid (HB.out.below b1)
  have B1 := Lib.hid b1
  obtain ⟨_, m0, _⟩ := HB1.out
  clear b1 FA HA HB l0
  go_wp2_with fail
  refine (FB.out w1 HB1.out.2.2).mono ?_; rintro e w2 ⟨rfl, b2⟩
  have B2 := Lib.hid (B1.out.trans (b2.mono B1.out.size))
  clear b2 m0 FB
  by_cases c : xa = xb
  · subst c
    cases ya <;> cases yb <;> (go_wp2_with fail; go_ret2; exact ⟨by simp, B2.out⟩)
  · have c' : (xa == xb) = false := by simpa using c
    cases ya <;> cases yb <;> (go_wp2_with fail; go_ret2; exact ⟨by simp [bne, c'], B2.out⟩)
set_option maxHeartbeats 2000000 in
theorem ovFn_any (a b : Nat) (p q : Option Addr) (n c m c2 : Nat) (P Q : Nat → Pc) (d : Int) (w : World) (hA : BoxL w a p n c P) (hB : BoxL w b q m c2 Q) (gA : Gd (toL P n)) (gB : Gd (toL Q m)) (hn : n ≤ 1000) (hm : m ≤ 1000) :
    Calls Try.prog 46 #[.int .i64 d, .pointer (some ⟨b, 0, none⟩), .pointer (some ⟨a, 0, none⟩)] w (ClR (ovF (toL P n) (toL Q m) d) w) := by
  have FA := Lib.hid (fun V hV => find_any p n c P d V hV gA hn)
  have FB := Lib.hid (fun V hV => find_any q m c2 Q d V hV gB hm)
  have HA := Lib.hid hA
  have HB := Lib.hid hB
  obtain ⟨_, l0, _⟩ := hA
  obtain ⟨_, m0, _⟩ := hB
  clear gA gB
  obtain ⟨V, hV⟩ : ∃ V, V = ovF (toL P n) (toL Q m) d := ⟨_, rfl⟩
  rw [← hV]
  unfold ovF at hV
  generalize toL P n = A at *
  generalize toL Q m = B at *
  unfold FndR at FA FB
  generalize atF A d = va at *
  generalize (atF B d).1 = xb at *
  generalize (atF B d).2 = yb at *
  have HV := Lib.hid hV
  clear hV
  go_enter Try.func46, Try.ntmps46
  go_wp2_with fail
  refine (FB.out w HB.out.2.2).mono ?_; rintro e w1 ⟨rfl, b1⟩
  have HA1 := Lib.hid (HA.out.below b1)
  have B1 := Lib.hid b1
  obtain ⟨_, l0, _⟩ := HA1.out
  clear b1 FB HA HB m0
  cases yb with
  | true =>
    go_wp2_with fail
    go_ret2
    exact ⟨by rw [HV.out]; rfl, B1.out⟩
  | false =>
    go_wp2_with fail
    refine (FA.out w1 HA1.out.2.2).mono ?_; rintro e w2 ⟨rfl, b2⟩
    have B2 := Lib.hid (B1.out.trans (b2.mono B1.out.size))
    clear b2 l0 FA
    go_wp2_with fail
    go_ret2
    exact ⟨by rw [HV.out]; rfl, B2.out⟩
end Go.Proofs.Ytekigilhmdphnaa
