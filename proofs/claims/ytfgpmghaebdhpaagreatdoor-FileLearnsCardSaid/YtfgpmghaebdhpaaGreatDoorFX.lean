/- slices.Contains and ContainsFunc over notes. -/
import Derived.Test.YtfgpmghaebdhpaaGreatDoorFW
namespace Go.Proofs.YtfgpmghaebdhpaaGreatDoor
open Go.RowKit Go.Maps Go.Shelf

set_option maxRecDepth 100000 in
/-- '==' of two notes. -/
theorem eqN (x y : Nt) : ∃ b, (∀ w : World, (binOp .eql 39 (.agg #[.string x.nm, .int .i64 x.f, .int .i64 x.l, .int .i64 x.r]) (.agg #[.string y.nm, .int .i64 y.f, .int .i64 y.l, .int .i64 y.r])).run Tryz.prog w = .ok (.bool b) w) ∧ (x = y → b = true) := by
  obtain ⟨a, b, c, d⟩ := x
  obtain ⟨a', b', c', d'⟩ := y
  have u3 := Tryz.underlying3
  have a3 := Tryz.isAgg3
  have z3 := Tryz.sizeOf3
  have u4 := Tryz.underlying9
  have a4 := Tryz.isAgg9
  have z4 := Tryz.sizeOf9
  have u5 := Tryz.underlying29
  have a5 := Tryz.isAgg29
  have z5 := Tryz.sizeOf29
  have hS : Tryz.prog.underlying 39 = some (.struct (Tryz.prog.fieldsOf 39)) := by kernel_rfl
  have hp : Tryz.prog.stoodInHeld 39 = false := by kernel_rfl
  have hS2 : Tryz.prog.underlying 29 = some (.struct (Tryz.prog.fieldsOf 29)) := by kernel_rfl
  have hp2 : Tryz.prog.stoodInHeld 29 = false := by kernel_rfl
  refine ⟨decide (a.toList = a'.toList ∧ b = b' ∧ c = c' ∧ d = d'), fun w => ?_, fun h => ?_⟩
  · rw [run_eql_struct, show (10000 : Nat) = 9999 + 1 from rfl, run_equalIn_agg w 9999 39 _ _ hS hp]
    simp only [Program.fieldsOf, Tryz.underlying39]
    go_simp
    by_cases h1 : a.toList = a'.toList <;> by_cases h2 : b = b' <;> by_cases h3 : c = c' <;> by_cases h4 : d = d' <;> simp [h1, h2, h3, h4]
  · injection h with h1 h2 h3 h4
    exact decide_eq_true ⟨by rw [h1], h2, h3, h4⟩
theorem eqNg (x y : Array Value) (op : BinOp) (s t : Operand) (w : World) : (eqGuard op 39 s t (.agg x) (.agg y)).run Tryz.prog w = .ok () w :=
  run_eqGuard_agg w op _ s t _ _ (by kernel_rfl)
def HasR (x : Nt) (l : List Nt) (w : World) (e : Ending) (w' : World) : Prop := ∃ i : Int, e = .returned (.int .i64 i) ∧ (x ∈ l → 0 ≤ i) ∧ Below w.heap.size w w'
set_option maxRecDepth 100000 in
set_option maxHeartbeats 4000000 in
theorem indexN_any (x : Nt) (v : Value) (ns : List Nt) (w : World) (hv : IsNt w v ns) (hn : ns.length ≤ 1000) :
    Calls Tryz.prog 30 #[v, .agg #[.string x.nm, .int .i64 x.f, .int .i64 x.l, .int .i64 x.r]] w (HasR x ns w) := by
  obtain ⟨p, c, rfl, hc, hp⟩ := hv
  obtain ⟨n, hnn⟩ : ∃ n, n = ns.length := ⟨_, rfl⟩
  rw [← hnn] at hn hc ⊢
  have HN := Lib.hid hnn
  have HP := Lib.hid hp
  have X0 := Lib.hid (Bx4.new w x)
  have B0 := Lib.hid ((Below.refl w.heap.size w).alloc (Nat.le_refl _) (.cells #[.string x.nm, .int .i64 x.f, .int .i64 x.l, .int .i64 x.r] 39))
  have EQ := Lib.hid (fun y => eqN x y)
  obtain ⟨w0, hw0⟩ : ∃ w0, w0 = w.alloc (.cells #[.string x.nm, .int .i64 x.f, .int .i64 x.l, .int .i64 x.r] 39) := ⟨_, rfl⟩
  rw [← hw0] at X0 B0
  have HW := Lib.hid hw0
  clear hp hnn hw0
  go_enter Tryz.func30, Tryz.ntmps30
  go_upto_region 1 with (fail)
  have hw0 := HW.out
  rw [← hw0]
  clear hw0 HW
  go_wp2_with fail
  go_loopw [5, 8] (fun _ si wr => ∃ k : Nat, k ≤ n ∧ si = .int .i64 k ∧ (∃ q, wr = w0.drewN q) ∧ Hid (x ∉ ns.take k)) (fun _ si _ => n - (intOf si).toNat)
  case atStart => exact ⟨0, Nat.zero_le _, rfl, ⟨0, rfl⟩, fun h => by simp at h⟩
  case round =>
    obtain ⟨k, hk, rfl, ⟨q, rfl⟩, NO⟩ := hrel
    have X1 := X0.out.below (nDrew w0 q)
    by_cases hlt : k < n
    · obtain ⟨y, hy⟩ : ∃ y, ns[k]? = some y := ⟨_, List.getElem?_eq_getElem (by rw [← HN.out]; exact hlt)⟩
      obtain ⟨g, off, rfl, hcell⟩ := HP.out (by rw [← HN.out]; omega)
      have OA := ((hcell k y hy).below B0.out)
      obtain ⟨b, hb1, hb2⟩ := EQ.out y
      have NX := Lib.hid (show b = false → x ∉ ns.take (k + 1) from fun h => by
        rw [List.take_add_one, hy]
        intro hm
        rcases List.mem_append.1 hm with g | g
        · exact NO.out g
        · have : x = y := by simpa using g
          rw [hb2 this] at h; cases h)
      clear hcell hy hb2
      have x0 : ∀ m, (w0.drewN m).cell? ⟨w.heap.size, 0, none⟩ = some (.string x.nm) := fun m => (X0.out.below (nDrew w0 m)).c0
      have x1 : ∀ m, (w0.drewN m).cell? ⟨w.heap.size, 1, none⟩ = some (.int .i64 x.f) := fun m => (X0.out.below (nDrew w0 m)).c1
      have x2 : ∀ m, (w0.drewN m).cell? ⟨w.heap.size, 2, none⟩ = some (.int .i64 x.l) := fun m => (X0.out.below (nDrew w0 m)).c2
      have x3 : ∀ m, (w0.drewN m).cell? ⟨w.heap.size, 3, none⟩ = some (.int .i64 x.r) := fun m => (X0.out.below (nDrew w0 m)).c3
      have y0 : ∀ m, (w0.drewN m).cell? ⟨g, off + k * 4, none⟩ = some (.string y.nm) := fun m => (OA.below (nDrew w0 m)).c0
      have y1 : ∀ m, (w0.drewN m).cell? ⟨g, off + k * 4 + 1, none⟩ = some (.int .i64 y.f) := fun m => (OA.below (nDrew w0 m)).c1
      have y2 : ∀ m, (w0.drewN m).cell? ⟨g, off + k * 4 + 2, none⟩ = some (.int .i64 y.l) := fun m => (OA.below (nDrew w0 m)).c2
      have y3 : ∀ m, (w0.drewN m).cell? ⟨g, off + k * 4 + 3, none⟩ = some (.int .i64 y.r) := fun m => (OA.below (nDrew w0 m)).c3
      have z1 : (0 : Int) ≤ (k : Int) := by omega
      have z2 : (k : Int) < (n : Int) := by omega
      have qg := eqNg #[.string x.nm, .int .i64 x.f, .int .i64 x.l, .int .i64 x.r] #[.string y.nm, .int .i64 y.f, .int .i64 y.l, .int .i64 y.r]
      clear X1 OA
      cases b with
      | true =>
        clear NX
        go_wp2_with fail
        go_quiet (fail)
        go_wp2_with fail
        go_ret
        exact ⟨(k : Int), rfl, fun _ => by omega, B0.out.trans (((nDrew w0 q).trans (nDrew (w0.drewN q) _)).mono B0.out.size)⟩
      | false =>
        have NN := Lib.hid (NX.out rfl)
        clear NX
        go_wp2_with fail
        go_quiet (fail)
        go_wp2_with fail
        go_roundw
        case rel => exact ⟨k + 1, by omega, by go_num, ⟨_, rfl⟩, NN.out⟩
        case measure => show n - ((k : Int) + 1).toNat < n - (k : Int).toNat; omega
    · obtain rfl : k = n := by omega
      have N := Lib.hid (show x ∉ ns by have := NO.out; rwa [List.take_of_length_le (by rw [← HN.out]; exact Nat.le_refl _)] at this)
      clear X1
      go_wp2_with fail
      go_ret
      exact ⟨-1, rfl, fun h => absurd h N.out, B0.out.trans ((nDrew w0 _).mono B0.out.size)⟩
end Go.Proofs.YtfgpmghaebdhpaaGreatDoor
