/- slices.MaxFunc: the latest note. -/
import Derived.Test.YtfgpmghaebdhpaaGreatDoorFD
namespace Go.Proofs.YtfgpmghaebdhpaaGreatDoor
open Go.RowKit Go.Shelf

def n0 : Nt := ⟨⟨#[]⟩, 0, 0, 0⟩
/-- The first of those that no other ends behind. -/
def bestL (ns : List Nt) : Nt := ns.tail.foldl (fun m x => if 0 < lateZ x m then x else m) (ns.headD n0)
theorem bestL_one {ns : List Nt} {x : Nt} (h : ns[0]? = some x) : bestL (ns.take 1) = x := by
  cases ns with
  | nil => simp at h
  | cons a t => simp at h; subst h; rfl
theorem bestL_snoc {ns : List Nt} {k : Nat} {x : Nt} (hk : 0 < k) (h : ns[k]? = some x) : bestL (ns.take (k + 1)) = if 0 < lateZ x (bestL (ns.take k)) then x else bestL (ns.take k) := by
  cases ns with
  | nil => simp at h
  | cons a t =>
    obtain ⟨j, rfl⟩ : ∃ j, k = j + 1 := ⟨k - 1, by omega⟩
    have h : t[j]? = some x := by simpa using h
    unfold bestL
    rw [List.take_succ_cons, List.take_succ_cons]
    show List.foldl _ a (t.take (j + 1)) = _
    rw [List.take_add_one, h, List.foldl_append]
    rfl
structure MxL (ns : List Nt) (w : World) (k : Nat) (wr : World) : Prop where
  z : Bx4 wr w.heap.size n0
  m : Bx4 wr (w.heap.size + 1) (bestL (ns.take k))
  bel : Below w.heap.size w wr
/-- The cells of two notes, and that nothing else has changed. -/
abbrev S8 (w : World) (n o m : Nat) (x y : Nt) (W : World) : Prop :=
  W.cell? ⟨n, o, none⟩ = some (.string x.nm) ∧ W.cell? ⟨n, o + 1, none⟩ = some (.int .i64 x.f) ∧ W.cell? ⟨n, o + 2, none⟩ = some (.int .i64 x.l) ∧ W.cell? ⟨n, o + 3, none⟩ = some (.int .i64 x.r) ∧
  W.cell? ⟨m, 0, none⟩ = some (.string y.nm) ∧ W.cell? ⟨m, 1, none⟩ = some (.int .i64 y.f) ∧ W.cell? ⟨m, 2, none⟩ = some (.int .i64 y.l) ∧ W.cell? ⟨m, 3, none⟩ = some (.int .i64 y.r) ∧ (n < w.heap.size ∧ m < w.heap.size ∧ Below w.heap.size w W)
theorem S8.keep {w : World} {n o m : Nat} {x y : Nt} {W : World} {f : FuncId} {args : Array Value} {v : Value} (hS : S8 w n o m x y W)
    (h : Calls Tryz.prog f args W fun e w' => e = .returned v ∧ Below W.heap.size W w') : Calls Tryz.prog f args W fun e w' => e = .returned v ∧ S8 w n o m x y w' := by
  refine h.mono fun _ _ ⟨he, hb⟩ => ⟨he, ?_⟩
  obtain ⟨a0, a1, a2, a3, b0, b1, b2, b3, e, f, g⟩ := hS
  have e' := Nat.lt_of_lt_of_le e g.size
  have f' := Nat.lt_of_lt_of_le f g.size
  exact ⟨(hb.cell (p := ⟨n, o, none⟩) e').trans a0, (hb.cell (p := ⟨n, o + 1, none⟩) e').trans a1, (hb.cell (p := ⟨n, o + 2, none⟩) e').trans a2, (hb.cell (p := ⟨n, o + 3, none⟩) e').trans a3,
    (hb.cell (p := ⟨m, 0, none⟩) f').trans b0, (hb.cell (p := ⟨m, 1, none⟩) f').trans b1, (hb.cell (p := ⟨m, 2, none⟩) f').trans b2, (hb.cell (p := ⟨m, 3, none⟩) f').trans b3, e, f, g.trans (hb.mono g.size)⟩
set_option maxRecDepth 100000 in
set_option maxHeartbeats 8000000 in
theorem maxFunc_any (v : Value) (ns : List Nt) (w : World) (hv : IsNt w v ns) (h0 : 0 < ns.length) (hn : ns.length ≤ 1000) :
    Calls Tryz.prog 23 #[v, .func (.func 24) #[] #[]] w fun e w' => e = .returned (bestL ns).val ∧ Below w.heap.size w w' := by
  obtain ⟨p, c, rfl, hc, hp⟩ := hv
  obtain ⟨g, off, rfl, hcell⟩ := hp h0
  obtain ⟨n, hnn⟩ : ∃ n, n = ns.length := ⟨_, rfl⟩
  rw [← hnn] at hn hc h0 ⊢
  have HN := Lib.hid hnn
  have HC := Lib.hid hcell
  obtain ⟨x, hx⟩ : ∃ x, ns[0]? = some x := ⟨_, List.getElem?_eq_getElem (by omega)⟩
  have OA := hcell 0 x hx
  have ONE := Lib.hid (bestL_one hx)
  have ZB := Lib.hid ((Below.refl w.heap.size w).alloc (Nat.le_refl _) (.cells #[.string ⟨#[]⟩, .int .i64 0, .int .i64 0, .int .i64 0] 39))
  have ZX := Lib.hid (Bx4.new w n0)
  clear hp hnn hcell hx
  obtain ⟨nm0, f0, l0, r0⟩ := x
  obtain ⟨lt0, c0, c1, c2, c3⟩ := OA
  replace c0 : w.cell? ⟨g, off, none⟩ = some (.string nm0) := by rw [Nat.zero_mul, Nat.add_zero] at c0; exact c0
  replace c1 : w.cell? ⟨g, off + 1, none⟩ = some (.int .i64 f0) := by rw [Nat.zero_mul, Nat.add_zero] at c1; exact c1
  replace c2 : w.cell? ⟨g, off + 2, none⟩ = some (.int .i64 l0) := by rw [Nat.zero_mul, Nat.add_zero] at c2; exact c2
  replace c3 : w.cell? ⟨g, off + 3, none⟩ = some (.int .i64 r0) := by rw [Nat.zero_mul, Nat.add_zero] at c3; exact c3
  have q1 : ¬ (n : Int) < 1 := by omega
  have q2 : (0 : Int) < (n : Int) := by omega
  go_enter Tryz.func23, Tryz.ntmps23
  go_wp2_with fail
  go_loopw [6] (fun s6 wr => ∃ k : Nat, k ≤ n ∧ 0 < k ∧ s6 = .int .i64 k ∧ Hid (MxL ns w k wr)) (fun s6 _ => n - (intOf s6).toNat)
  case atStart =>
    refine ⟨1, by omega, by omega, rfl, ⟨?_, ?_, ?_⟩⟩
    · exact ZX.out.below ((Below.refl _ _).alloc (Nat.le_refl _) _)
    · rw [ONE.out]
      have h := Bx4.new (w.alloc (.cells #[.string ⟨#[]⟩, .int .i64 0, .int .i64 0, .int .i64 0] 39)) ⟨nm0, f0, l0, r0⟩
      rw [World.size_alloc] at h
      exact h
    · exact ZB.out.alloc ZB.out.size _
  case round =>
    obtain ⟨k, hk, hk0, rfl, hrel⟩ := hrel
    have BL := Lib.hid hrel.out.bel
    have BM := Lib.hid hrel.out.m
    have BZ := Lib.hid hrel.out.z
    clear hrel
    by_cases hlt : k < n
    · obtain ⟨x, hx⟩ : ∃ x, ns[k]? = some x := ⟨_, List.getElem?_eq_getElem (by rw [← HN.out]; exact hlt)⟩
      have OA := (HC.out k x hx).below BL.out
      have SN := Lib.hid (bestL_snoc hk0 hx)
      obtain ⟨m, hm⟩ : ∃ m, m = bestL (ns.take k) := ⟨_, rfl⟩
      rw [← hm] at SN BM
      have LT := Lib.hid (fun V => late_any x m V)
      have S0 := Lib.hid (show S8 wr g (off + k * 4) (w.heap.size + 1) x m wr.drew from ⟨OA.c0, OA.c1, OA.c2, OA.c3, BM.out.c0, BM.out.c1, BM.out.c2, BM.out.c3, OA.lt, BM.out.lt, (Below.refl _ _).drew⟩)
      clear hx hm
      obtain ⟨Z, hZ⟩ : ∃ Z, Z = lateZ x m := ⟨_, rfl⟩
      rw [← hZ] at SN LT
      clear hZ
      obtain ⟨nm1, f1, l1, r1⟩ := x
      obtain ⟨nm2, f2, l2, r2⟩ := m
      replace LT : Hid (∀ V, Calls Tryz.prog 24 #[.agg #[.string nm1, .int .i64 f1, .int .i64 l1, .int .i64 r1], .agg #[.string nm2, .int .i64 f2, .int .i64 l2, .int .i64 r2]] V fun e w' => e = .returned (.int .i64 Z) ∧ Below V.heap.size V w') := LT
      have x1 : (0 : Int) ≤ (k : Int) := by omega
      have x2 : (k : Int) < (n : Int) := by omega
      clear OA q1 q2 c0 c1 c2 c3
      by_cases h : 0 < Z
      · have T := Lib.hid (SN.out.trans (if_pos h))
        have D : decide (0 < Z) = true := decide_eq_true h
        clear h SN
        go_wp2_with fail
        have hS0 := S0.out
        go_region_held3 (fun W => W.cell? ⟨g, off + k * 4, none⟩ = some (.string nm1) ∧ W.cell? ⟨g, off + k * 4 + 1, none⟩ = some (.int .i64 f1) ∧ W.cell? ⟨g, off + k * 4 + 2, none⟩ = some (.int .i64 l1) ∧ W.cell? ⟨g, off + k * 4 + 3, none⟩ = some (.int .i64 r1) ∧ W.cell? ⟨w.heap.size + 1, 0, none⟩ = some (.string nm2) ∧ W.cell? ⟨w.heap.size + 1, 1, none⟩ = some (.int .i64 f2) ∧ W.cell? ⟨w.heap.size + 1, 2, none⟩ = some (.int .i64 l2) ∧ W.cell? ⟨w.heap.size + 1, 3, none⟩ = some (.int .i64 r2) ∧ (g < wr.heap.size ∧ w.heap.size + 1 < wr.heap.size ∧ Below wr.heap.size wr W))
          (first | assumption | exact hS0)
          ((go_at_call 24; refine (S8.keep (x := ⟨nm1, f1, l1, r1⟩) (y := ⟨nm2, f2, l2, r2⟩) (by assumption) (LT.out _)).mono ?_; rintro e w6 ⟨rfl, hS6⟩))
        obtain ⟨a0, a1, a2, a3, -, -, -, -, -, -, g6⟩ := hS6
        have M6 := Lib.hid (BM.out.below g6)
        have Z6 := Lib.hid (BZ.out.below g6)
        have B6 := Lib.hid (BL.out.trans (g6.mono BL.out.size))
        have KB := Lib.hid M6.out.blk
        have YZ := Lib.hid (M6.out.set ⟨nm1, f1, l1, r1⟩)
        clear g6 LT S0 hS0 BL BM BZ
        have ZZ := Lib.hid (show Bx4 (w6.setRow (w.heap.size + 1) #[.string nm1, .int .i64 f1, .int .i64 l1, .int .i64 r1]) w.heap.size n0 from ⟨(setRow_other _ _ _ _ (by omega)).trans Z6.out.blk⟩)
        have BB := Lib.hid (show Below w.heap.size w (w6.setRow (w.heap.size + 1) #[.string nm1, .int .i64 f1, .int .i64 l1, .int .i64 r1]) from ⟨B6.out.os, B6.out.tape, B6.out.output, by rw [setRow_size]; exact B6.out.size, fun j hj => (setRow_other _ _ _ _ (by omega)).trans (B6.out.block j hj)⟩)
        go_wp2_with (refine wpList_store_row rfl 39 _ _ rfl _ _ rfl rfl _ _ KB.out (szNote _ _ _ _) (size4 _ _ _ _ _ _ _ _) (one4 _ _ _ _) ?_)
        go_roundw
        case rel => exact ⟨k + 1, by omega, by omega, by go_num, ⟨ZZ.out, by rw [T.out]; exact YZ.out, BB.out⟩⟩
        case measure => simp [intOf]; omega
      · have T := Lib.hid (SN.out.trans (if_neg h))
        have D : decide (0 < Z) = false := decide_eq_false h
        clear h SN
        go_wp2_with fail
        have hS0 := S0.out
        go_region_held3 (fun W => W.cell? ⟨g, off + k * 4, none⟩ = some (.string nm1) ∧ W.cell? ⟨g, off + k * 4 + 1, none⟩ = some (.int .i64 f1) ∧ W.cell? ⟨g, off + k * 4 + 2, none⟩ = some (.int .i64 l1) ∧ W.cell? ⟨g, off + k * 4 + 3, none⟩ = some (.int .i64 r1) ∧ W.cell? ⟨w.heap.size + 1, 0, none⟩ = some (.string nm2) ∧ W.cell? ⟨w.heap.size + 1, 1, none⟩ = some (.int .i64 f2) ∧ W.cell? ⟨w.heap.size + 1, 2, none⟩ = some (.int .i64 l2) ∧ W.cell? ⟨w.heap.size + 1, 3, none⟩ = some (.int .i64 r2) ∧ (g < wr.heap.size ∧ w.heap.size + 1 < wr.heap.size ∧ Below wr.heap.size wr W))
          (first | assumption | exact hS0)
          ((go_at_call 24; refine (S8.keep (x := ⟨nm1, f1, l1, r1⟩) (y := ⟨nm2, f2, l2, r2⟩) (by assumption) (LT.out _)).mono ?_; rintro e w6 ⟨rfl, hS6⟩))
        obtain ⟨a0, a1, a2, a3, -, -, -, -, -, -, g6⟩ := hS6
        have M6 := Lib.hid (BM.out.below g6)
        have Z6 := Lib.hid (BZ.out.below g6)
        have B6 := Lib.hid (BL.out.trans (g6.mono BL.out.size))
        have KB := Lib.hid M6.out.blk
        have YZ := Lib.hid (M6.out.set ⟨nm1, f1, l1, r1⟩)
        clear g6 LT S0 hS0 BL BM BZ
        go_wp2_with fail
        go_roundw
        case rel => exact ⟨k + 1, by omega, by omega, by go_num, ⟨Z6.out, by rw [T.out]; exact M6.out, B6.out⟩⟩
        case measure => simp [intOf]; omega
    · obtain rfl : k = n := by omega
      have T := Lib.hid (show ns.take k = ns from List.take_of_length_le (by rw [← HN.out]; exact Nat.le_refl _))
      rw [T.out] at BM
      obtain ⟨m, hm⟩ : ∃ m, m = bestL ns := ⟨_, rfl⟩
      rw [← hm] at BM
      have HM := Lib.hid hm
      obtain ⟨nm2, f2, l2, r2⟩ := m
      have y0 : wr.cell? ⟨w.heap.size + 1, 0, none⟩ = some (.string nm2) := BM.out.c0
      have y1 : wr.cell? ⟨w.heap.size + 1, 1, none⟩ = some (.int .i64 f2) := BM.out.c1
      have y2 : wr.cell? ⟨w.heap.size + 1, 2, none⟩ = some (.int .i64 l2) := BM.out.c2
      have y3 : wr.cell? ⟨w.heap.size + 1, 3, none⟩ = some (.int .i64 r2) := BM.out.c3
      have ZR := Lib.hid (BZ.out.set ⟨nm2, f2, l2, r2⟩)
      have KB := Lib.hid BZ.out.blk
      have BB := Lib.hid (show Below w.heap.size w (wr.setRow w.heap.size #[.string nm2, .int .i64 f2, .int .i64 l2, .int .i64 r2]) from ⟨BL.out.os, BL.out.tape, BL.out.output, by rw [setRow_size]; exact BL.out.size, fun j hj => (setRow_other _ _ _ _ (by omega)).trans (BL.out.block j hj)⟩)
      clear hm BM BZ q1 q2 c0 c1 c2 c3
      go_wp2_with (refine wpList_store_row rfl 39 _ _ rfl _ _ rfl rfl _ _ KB.out (szNote _ _ _ _) (size4 _ _ _ _ _ _ _ _) (one4 _ _ _ _) ?_)
      have r0 : (wr.setRow w.heap.size #[.string nm2, .int .i64 f2, .int .i64 l2, .int .i64 r2]).cell? ⟨w.heap.size, 0, none⟩ = some (.string nm2) := ZR.out.c0
      have r1 : (wr.setRow w.heap.size #[.string nm2, .int .i64 f2, .int .i64 l2, .int .i64 r2]).cell? ⟨w.heap.size, 1, none⟩ = some (.int .i64 f2) := ZR.out.c1
      have r2' : (wr.setRow w.heap.size #[.string nm2, .int .i64 f2, .int .i64 l2, .int .i64 r2]).cell? ⟨w.heap.size, 2, none⟩ = some (.int .i64 l2) := ZR.out.c2
      have r3 : (wr.setRow w.heap.size #[.string nm2, .int .i64 f2, .int .i64 l2, .int .i64 r2]).cell? ⟨w.heap.size, 3, none⟩ = some (.int .i64 r2) := ZR.out.c3
      exact bodyPost_ret (v := .agg #[.string nm2, .int .i64 f2, .int .i64 l2, .int .i64 r2]) (by simp [results, Tryz.results23, go_sem, r0, r1, r2', r3]) rfl ⟨by rw [← HM.out]; rfl, BB.out⟩
end Go.Proofs.YtfgpmghaebdhpaaGreatDoor
