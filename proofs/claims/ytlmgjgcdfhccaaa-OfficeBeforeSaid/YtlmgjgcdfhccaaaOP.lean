/- Chain, Heir. -/
import Derived.Test.YtlmgjgcdfhccaaaOO
namespace Go.Proofs.Ytlmgjgcdfhccaaa
open Go.RowKit Go.Maps Go.Shelf

/-- What Chain returns. -/
def CV (os : List Of) (id day : Int) (L : List Int) : Prop :=
  ((ckV os).2 = 0 ∧ ∃ i0, ixO os id = some i0 ∧ Ch os day i0 L) ∨ (((ckV os).2 ≠ 0 ∨ ixO os id = none) ∧ L = [])
theorem cv_ex (os : List Of) (id day : Int) : ∃ L, CV os id day L := by
  by_cases g : (ckV os).2 = 0
  · cases h : ixO os id with
    | none => exact ⟨[], Or.inr ⟨Or.inr h, rfl⟩⟩
    | some i =>
      obtain ⟨o, ho, _⟩ := ixO_at h
      obtain ⟨L, hL⟩ := ch_ex g day _ i o ho (Nat.le_refl _)
      exact ⟨L, Or.inl ⟨g, i, h, hL⟩⟩
  · exact ⟨[], Or.inr ⟨Or.inl g, rfl⟩⟩
def hrT (os : List Of) (day : Int) (L : List Int) : Int × Bool := if L = [] then (0, false) else hrV os day L
set_option maxRecDepth 100000 in
set_option maxHeartbeats 8000000 in
theorem Chain_any (v : Value) (os : List Of) (id day : Int) (w : World) (hw : Lw w) (hv : IsO w v os) (hn : os.length ≤ 1000) (hr : NumO os) (hid : W64 id) {L : List Int} (hL : CV os id day L) :
    Calls Try.prog 14 #[v, .int .i64 id, .int .i64 day] w fun e w' => ∃ u, e = .returned u ∧ IsZ w' u L ∧ Below w.heap.size w w' := by
  by_cases g : (ckV os).2 = 0
  · have KN := Lib.hid (known_ok v os id w hw hv hn hr hid g)
    cases h : ixO os id with
    | none =>
      have hl : L = [] := by
        rcases hL with ⟨_, i, hi, _⟩ | ⟨_, e⟩
        · rw [h] at hi; cases hi
        · exact e
      subst hl
      rw [h] at KN
      clear hw hv hn hr hL g
      go_enter Try.func14, Try.ntmps14
      go_wp2_with fail
      refine KN.out.mono ?_; rintro e w1 ⟨b, rfl, ix, b1⟩
      have B1 := Lib.hid b1
      clear b1 ix KN
      go_wp2_with fail
      go_ret
      exact ⟨_, rfl, isZ_nil _, B1.out⟩
    | some i =>
      have hc : Ch os day i L := by
        rcases hL with ⟨_, j, hj, hc⟩ | ⟨e | e, _⟩
        · rw [h] at hj; cases hj; exact hc
        · exact absurd g e
        · rw [h] at e; cases e
      have HC := Lib.hid hc
      have CN := Lib.hid (fun (b : Nat) (V : World) (hb : Below w.heap.size w V) (ix : Ix V b os) => chain_any v os b i id day V (hv.below hb) hn hr g ix hid h)
      rw [h] at KN
      clear hw hv hn hr hL g hc
      go_enter Try.func14, Try.ntmps14
      go_wp2_with fail
      refine KN.out.mono ?_; rintro e w1 ⟨b, rfl, ix, b1⟩
      have B1 := Lib.hid b1
      have C1 := Lib.hid (CN.out b w1 b1 ix)
      clear b1 ix KN CN
      go_wp2_with fail
      refine C1.out.mono ?_; rintro e w2 ⟨L', u, hL', rfl, ow, b2⟩
      obtain rfl := hL'.one HC.out
      have B2 := Lib.hid (B1.out.trans (b2.mono B1.out.size))
      have Z := Lib.hid (own_isZ ow)
      clear b2 ow hL' C1
      go_wp2_with fail
      go_ret
      exact ⟨_, rfl, Z.out, B2.out⟩
  · have KN := Lib.hid (known_no v os id w hw hv hn hr g)
    have hl : L = [] := by
      rcases hL with ⟨e, _⟩ | ⟨_, e⟩
      · exact absurd e g
      · exact e
    subst hl
    clear hw hv hn hr hL g
    go_enter Try.func14, Try.ntmps14
    go_wp2_with fail
    refine KN.out.mono ?_; rintro e w1 ⟨rfl, b1⟩
    have B1 := Lib.hid b1
    clear b1 KN
    go_wp2_with fail
    go_ret
    exact ⟨_, rfl, isZ_nil _, B1.out⟩
set_option maxRecDepth 100000 in
set_option maxHeartbeats 8000000 in
theorem Heir_any (v : Value) (os : List Of) (id day : Int) (w : World) (hw : Lw w) (hv : IsO w v os) (hn : os.length ≤ 1000) (hr : NumO os) (hid : W64 id) {L : List Int} (hL : CV os id day L) :
    Calls Try.prog 11 #[v, .int .i64 id, .int .i64 day] w fun e w' => e = .returned (.tuple #[.int .i64 (hrT os day L).1, .bool (hrT os day L).2]) ∧ Below w.heap.size w w' := by
  by_cases g : (ckV os).2 = 0
  · have KN := Lib.hid (known_ok v os id w hw hv hn hr hid g)
    cases h : ixO os id with
    | none =>
      have hl : L = [] := by
        rcases hL with ⟨_, i, hi, _⟩ | ⟨_, e⟩
        · rw [h] at hi; cases hi
        · exact e
      subst hl
      rw [h] at KN
      clear hw hv hn hr hL g
      go_enter Try.func11, Try.ntmps11
      go_wp2_with fail
      refine KN.out.mono ?_; rintro e w1 ⟨b, rfl, ix, b1⟩
      have B1 := Lib.hid b1
      clear b1 ix KN
      go_wp2_with fail
      go_ret2
      exact ⟨rfl, B1.out⟩
    | some i =>
      have hc : Ch os day i L := by
        rcases hL with ⟨_, j, hj, hc⟩ | ⟨e | e, _⟩
        · rw [h] at hj; cases hj; exact hc
        · exact absurd g e
        · rw [h] at e; cases e
      have HT := Lib.hid (show hrT os day L = hrV os day L from if_neg (fun e => by have := hc.pos; rw [e] at this; simp at this))
      have CN := Lib.hid (fun (b : Nat) (V : World) (hb : Below w.heap.size w V) (ix : Ix V b os) => heir_any v os b i id day V (hv.below hb) hn hr g ix hid h hc)
      rw [HT.out]
      rw [h] at KN
      clear hw hv hn hr hL g hc
      go_enter Try.func11, Try.ntmps11
      go_wp2_with fail
      refine KN.out.mono ?_; rintro e w1 ⟨b, rfl, ix, b1⟩
      have B1 := Lib.hid b1
      have C1 := Lib.hid (CN.out b w1 b1 ix)
      clear b1 ix KN CN
      go_wp2_with fail
      refine C1.out.mono ?_; rintro e w2 ⟨rfl, b2⟩
      have B2 := Lib.hid (B1.out.trans (b2.mono B1.out.size))
      clear b2 C1
      go_wp2_with fail
      go_ret2
      exact ⟨rfl, B2.out⟩
  · have KN := Lib.hid (known_no v os id w hw hv hn hr g)
    have hl : L = [] := by
      rcases hL with ⟨e, _⟩ | ⟨_, e⟩
      · exact absurd e g
      · exact e
    subst hl
    clear hw hv hn hr hL g
    go_enter Try.func11, Try.ntmps11
    go_wp2_with fail
    refine KN.out.mono ?_; rintro e w1 ⟨rfl, b1⟩
    have B1 := Lib.hid b1
    clear b1 KN
    go_wp2_with fail
    go_ret2
    exact ⟨rfl, B1.out⟩
end Go.Proofs.Ytlmgjgcdfhccaaa
