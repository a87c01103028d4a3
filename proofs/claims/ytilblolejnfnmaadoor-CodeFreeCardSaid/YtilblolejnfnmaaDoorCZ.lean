/- What a row's list gives: the library's variables. -/
import Derived.Test.YtilblolejnfnmaaDoorCY
import Derived.Test.YtilblolejnfnmaaDoorRows
import Derived.Stop.LaidErr
import Derived.Lib.LaidTab
namespace Go.Proofs.YtilblolejnfnmaaDoor
open Go.RowKit Go.Shelf

theorem gER : Tryd.prog.globalNamed "strconv.ErrRange" = some 4 := by kernel_rfl
theorem gERType : (Tryd.prog.globals[4]?).map (·.type) = some 63 := by kernel_rfl
theorem gES : Tryd.prog.globalNamed "strconv.ErrSyntax" = some 3 := by kernel_rfl
theorem gESType : (Tryd.prog.globals[3]?).map (·.type) = some 63 := by kernel_rfl
theorem gPT : Tryd.prog.globalNamed "internal/strconv.uint64pow10" = some 5 := by kernel_rfl
theorem gPTType : (Tryd.prog.globals[5]?).map (·.type) = some 117 := by kernel_rfl
theorem star : "*" ++ "errors.errorString" = "*errors.errorString" := by decide
theorem rowES (u : TypeId) (h : Tryd.prog.typeName? 3 u = some "*errors.errorString") : u = 128 :=
  typeName_ptr_named (nm := "errors.errorString") (by rw [star]; kernel_rfl) (by kernel_rfl) (by decide) u (by rw [star]; exact h)
theorem lw_of {W : World} (hL : laidMetH Tryd.prog Rows.codeTotalRow.laid W) (hsh : W.ShapedOpen Tryd.prog) : Lw W := by
  have h : laidMet Tryd.prog Rows.codeTotalRow.laid W := hL
  have t2 := h.tail.tail
  have PT : Lib.TabIs Tryd.prog W "internal/strconv.uint64pow10" .u64 Lib.pow10Tab := Lib.tabIs_of_head gPT gPTType Tryd.underlying117 Tryd.underlying94 (by kernel_rfl) (by kernel_rfl) t2
  have t4 := t2.tail.tail
  obtain ⟨a0, s0, hv0, -, -, -⟩ := laid_sentinel t4 gER gERType Tryd.underlying63 rowES Tryd.underlying128 Tryd.underlying130 rfl rfl Tryd.underlying9 (by kernel_rfl) (by kernel_rfl)
  obtain ⟨a1, s1, hv1, -, -, -⟩ := laid_sentinel t4.tail gES gESType Tryd.underlying63 rowES Tryd.underlying128 Tryd.underlying130 rfl rfl Tryd.underlying9 (by kernel_rfl) (by kernel_rfl)
  have c0 := World.var?_cell gER hv0 0
  have c1 := World.var?_cell gES hv1 0
  have cp := PT.cell gPT 0 (by decide)
  refine ⟨Tryd.laysM143.s1_3 W hsh, ⟨_, _, by simpa using c1⟩, ⟨_, _, by simpa using c0⟩, PT, ?_⟩
  rcases Nat.lt_or_ge 5 W.heap.size with h | h
  · exact h
  · simp [World.cell?, Array.getElem?_eq_none (show W.heap.size ≤ 5 from h)] at cp
end Go.Proofs.YtilblolejnfnmaaDoor
