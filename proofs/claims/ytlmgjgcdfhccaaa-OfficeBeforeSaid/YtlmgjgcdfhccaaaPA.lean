/- OfficeChains. -/
import Derived.Test.YtlmgjgcdfhccaaaOZ
namespace Go.Proofs.Ytlmgjgcdfhccaaa
open Go.RowKit Go.Maps Go.Shelf

theorem CV.len {os : List Of} {id day : Int} {L : List Int} (h : CV os id day L) : L.length ≤ 1048577 := by
  rcases h with ⟨g, i, _, hc⟩ | ⟨_, rfl⟩
  · exact hc.len' g
  · simp
set_option maxRecDepth 100000 in
set_option maxHeartbeats 4000000 in
theorem law_chains (q : Option Addr) (n c : Nat) (S : Nat → Ow) (id day : Int) (w : World) (hw : Lw w) (hS : IsW w q n S) (hnc : n ≤ c) (hid : W64 id) :
    Calls Try.prog 3 #[.slice q n c, .int .i64 id, .int .i64 day] w fun e w' => e = .returned (.bool true) ∧ Below w.heap.size w w' := by
  have HW := Lib.hid hw
  have AW := Lib.hid (awake_any w hw)
  have HS := Lib.hid hS
  clear hw hS
  go_enter Try.func3, Try.ntmps3
  go_wp2_with fail
  refine AW.out.mono ?_; rintro e w1 ⟨rfl, b1⟩
  have B1 := Lib.hid b1
  have FW := Lib.hid (few_any q n c S w1 (HS.out.below b1))
  clear b1 AW
  go_wp2_with fail
  refine FW.out.mono ?_; rintro e w2 ⟨z, rfl, hz, b2⟩
  have B2 := Lib.hid (B1.out.trans (b2.mono B1.out.size))
  clear b2 FW B1
  cases z with
  | false =>
    clear hz
    go_wp2_with fail
    go_ret
    exact ⟨rfl, B2.out⟩
  | true =>
    have f := hz.1 rfl
    obtain ⟨os, hl, hO, hr⟩ := HS.out.isO hnc
    have hn : os.length ≤ 1000 := by have := f.2.1; omega
    obtain ⟨L, hL⟩ := cv_ex os id day
    have LL := hL.len
    have H1 := Lib.hid (fun V (hV : Below w.heap.size w V) => Heir_any (.slice q n c) os id day V (HW.out.below hV) (hO.below hV) hn hr hid hL)
    have H2 := Lib.hid (fun V (hV : Below w.heap.size w V) => rHeir_any (.slice q n c) os id day V (hO.below hV) hn hr hL)
    have H3 := Lib.hid (fun V (hV : Below w.heap.size w V) => Chain_any (.slice q n c) os id day V (HW.out.below hV) (hO.below hV) hn hr hid hL)
    have H4 := Lib.hid (fun V (hV : Below w.heap.size w V) => rChain_any (.slice q n c) os id day V (hO.below hV) hn hr hL)
    have HLn := Lib.hid LL
    generalize hrT os day L = x at H1 H2
    obtain ⟨a, o⟩ := x
    replace H1 : Hid (∀ V, Below w.heap.size w V → Calls Try.prog 11 #[.slice q n c, .int .i64 id, .int .i64 day] V fun e w' => e = .returned (.tuple #[.int .i64 a, .bool o]) ∧ Below V.heap.size V w') := H1
    replace H2 : Hid (∀ V, Below w.heap.size w V → Calls Try.prog 12 #[.slice q n c, .int .i64 id, .int .i64 day] V fun e w' => e = .returned (.tuple #[.int .i64 a, .bool o]) ∧ Below V.heap.size V w') := H2
    clear hz f hl hO hr hn hL LL
    have K1 := Lib.hid (H1.out w2 B2.out)
    go_wp2_with fail
    refine K1.out.mono ?_; rintro e w3 ⟨rfl, b3⟩
    have B3 := Lib.hid (B2.out.trans (b3.mono B2.out.size))
    have K2 := Lib.hid (H2.out w3 B3.out)
    clear b3 K1 B2
    go_wp2_with fail
    refine K2.out.mono ?_; rintro e w4 ⟨rfl, b4⟩
    have B4 := Lib.hid (B3.out.trans (b4.mono B3.out.size))
    have K3 := Lib.hid (H3.out w4 B4.out)
    clear b4 K2 B3
    go_wp2_with fail
    refine K3.out.mono ?_; rintro e w5 ⟨u, rfl, zu, b5⟩
    have B5 := Lib.hid (B4.out.trans (b5.mono B4.out.size))
    have ZU := Lib.hid zu
    have K4 := Lib.hid (H4.out w5 B5.out)
    clear b5 K3 B4 zu
    go_wp2_with fail
    refine K4.out.mono ?_; rintro e w6 ⟨t, rfl, zt, b6⟩
    have B6 := Lib.hid (B5.out.trans (b6.mono B5.out.size))
    have K5 := Lib.hid (sameInts_any u t L w6 (ZU.out.below b6) zt HLn.out)
    clear b6 K4 B5 zt ZU
    go_wp2_with fail
    refine K5.out.mono ?_; rintro e w7 ⟨rfl, b7⟩
    have B7 := Lib.hid (B6.out.trans (b7.mono B6.out.size))
    clear b7 K5 B6
    cases o
    all_goals
      go_wp2_with fail
      go_ret
      exact ⟨rfl, B7.out⟩
end Go.Proofs.Ytlmgjgcdfhccaaa
