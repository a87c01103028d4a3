/- The walk of DigestSums. -/
import Derived.Test.YtfjbchmneojgaaaDoorAwake
import Derived.Test.YtfjbchmneojgaaaDoorRefSum
namespace Go.Proofs.YtfjbchmneojgaaaDoor
open Go.RowKit
set_option maxRecDepth 100000 in
set_option maxHeartbeats 1000000 in
theorem law_sums (s : ByteArray) (w : World) (hT : Tabs w) :
    Calls Tryd.prog 4 #[.string s] w fun e w' => e = .returned (.bool true) ∧ Below w.heap.size w w' := by
  by_cases hs : s.size ≤ 700
  · have i1 : decide ((700 : Int) < (s.size : Int)) = false := by simp; omega
    have HS := Lib.hid hs
    clear hs
    go_enter Tryd.func4, Tryd.ntmps4
    go_wp2_with fail
    refine (awake_any w hT).mono ?_; rintro e w0 ⟨rfl, b0⟩
    go_wp2_with fail
    refine (Sum_any s w0 (hT.below b0) (by have := HS.out; omega)).mono ?_; rintro e w1 ⟨rfl, b1⟩
    go_wp2_with fail
    refine (refSum_any s w1 (by have := HS.out; omega)).mono ?_; rintro e w2 ⟨rfl, b2⟩
    generalize dgS s.data.toList = D
    go_wp2_with fail
    go_ret
    exact ⟨by first | rfl | simp, b0.trans ((b1.trans (b2.mono b1.size)).mono b0.size)⟩
  · have i1 : decide ((700 : Int) < (s.size : Int)) = true := by simp; omega
    clear hs
    go_enter Tryd.func4, Tryd.ntmps4
    go_wp2_with fail
    refine (awake_any w hT).mono ?_; rintro e w0 ⟨rfl, b0⟩
    go_wp2_with fail
    go_ret
    exact ⟨rfl, b0⟩
end Go.Proofs.YtfjbchmneojgaaaDoor
