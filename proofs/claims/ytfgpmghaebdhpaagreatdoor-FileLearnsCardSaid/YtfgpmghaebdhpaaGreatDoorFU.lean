/- What a row's list gives: the library's variables. -/
import Derived.Test.YtfgpmghaebdhpaaGreatDoorFT
import Derived.Test.YtfgpmghaebdhpaaGreatDoorRows
import Derived.Stop.LaidErr
import Derived.Lib.LaidTab
namespace Go.Proofs.YtfgpmghaebdhpaaGreatDoor
open Go.RowKit Go.Shelf

theorem gER : Tryz.prog.globalNamed "strconv.ErrRange" = some 4 := by kernel_rfl
theorem gERType : (Tryz.prog.globals[4]?).map (·.type) = some 113 := by kernel_rfl
theorem gES : Tryz.prog.globalNamed "strconv.ErrSyntax" = some 3 := by kernel_rfl
theorem gESType : (Tryz.prog.globals[3]?).map (·.type) = some 113 := by kernel_rfl
theorem gPT : Tryz.prog.globalNamed "internal/strconv.uint64pow10" = some 5 := by kernel_rfl
theorem gPTType : (Tryz.prog.globals[5]?).map (·.type) = some 153 := by kernel_rfl
theorem star : "*" ++ "errors.errorString" = "*errors.errorString" := by decide
theorem rowES (u : TypeId) (h : Tryz.prog.typeName? 3 u = some "*errors.errorString") : u = 149 :=
  typeName_ptr_named (nm := "errors.errorString") (by rw [star]; kernel_rfl) (by kernel_rfl) (by decide) u (by rw [star]; exact h)
theorem lw_of {W : World} (hL : laidMetH Tryz.prog Rows.fileLatestRow.laid W) (hsh : W.ShapedOpen Tryz.prog) : Lw W := by
  have h : laidMet Tryz.prog Rows.fileLatestRow.laid W := hL
  have t2 := h.tail.tail
  have PT : Lib.TabIs Tryz.prog W "internal/strconv.uint64pow10" .u64 Lib.pow10Tab := Lib.tabIs_of_head gPT gPTType Tryz.underlying153 Tryz.underlying136 (by kernel_rfl) (by kernel_rfl) t2
  have t4 := t2.tail.tail
  obtain ⟨a0, s0, hv0, -, -, -⟩ := laid_sentinel t4 gER gERType Tryz.underlying113 rowES Tryz.underlying149 Tryz.underlying151 rfl rfl Tryz.underlying9 (by kernel_rfl) (by kernel_rfl)
  obtain ⟨a1, s1, hv1, -, -, -⟩ := laid_sentinel t4.tail gES gESType Tryz.underlying113 rowES Tryz.underlying149 Tryz.underlying151 rfl rfl Tryz.underlying9 (by kernel_rfl) (by kernel_rfl)
  have c0 := World.var?_cell gER hv0 0
  have c1 := World.var?_cell gES hv1 0
  have cp := PT.cell gPT 0 (by decide)
  refine ⟨Tryz.laysM143.s1_3 W hsh, ⟨_, _, by simpa using c1⟩, ⟨_, _, by simpa using c0⟩, PT, ?_⟩
  rcases Nat.lt_or_ge 5 W.heap.size with h | h
  · exact h
  · simp [World.cell?, Array.getElem?_eq_none (show W.heap.size ≤ 5 from h)] at cp
end Go.Proofs.YtfgpmghaebdhpaaGreatDoor
