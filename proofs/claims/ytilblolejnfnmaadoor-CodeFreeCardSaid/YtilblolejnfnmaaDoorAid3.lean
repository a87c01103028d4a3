/- Opening an argument of kind uint16. -/
import Derived.Test.YtilblolejnfnmaaDoorDG
import Derived.Test.YtilblolejnfnmaaDoorAid2
namespace Go.Proofs.YtilblolejnfnmaaDoor.Aid3
open Go Go.ChangeShapes Go.WideShapes Go.ChangeAt Go.RowKit Go.Deep
theorem bounds_u16 {z : Int} (h : (Lit.int .u16 z).wf = true) : 0 ≤ z ∧ z ≤ 65535 := by
  have e1 : IntKind.u16.min = 0 := rfl
  have e2 : IntKind.u16.max = 65535 := rfl
  simp [Lit.wf, e1, e2] at h
  exact h
end Go.Proofs.YtilblolejnfnmaaDoor.Aid3
