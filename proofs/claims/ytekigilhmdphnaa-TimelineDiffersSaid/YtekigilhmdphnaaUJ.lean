/- The reference's cut. -/
import Derived.Test.YtekigilhmdphnaaUI
namespace Go.Proofs.Ytekigilhmdphnaa
open Go.RowKit Go.Shelf

def clip (a b : Int) (p : Pc) : Pc := ⟨if p.f < a then a else p.f, if b < p.u then b else p.u, p.v⟩

theorem Box3.set2 {w : World} {B : Nat} {y : Pc} (h : Box3 w B y) (f u : Int) : Box3 ((w.setCell ⟨B, 0, none⟩ (.int .i64 f)).setCell ⟨B, 1, none⟩ (.int .i64 u)) B ⟨f, u, y.v⟩ := by
  have nz : ∀ o o', o ≠ o' → (⟨B, o, none⟩ : Addr) ≠ ⟨B, o', none⟩ := fun o o' ho e => ho (by injection e)
  refine ⟨by simpa [World.setCell] using h.1, ?_, ?_, ?_⟩
  · rw [World.cell?_setCell_other _ _ _ _ (nz 1 0 (by decide))]
    exact World.cell?_setCell_same' _ _ _ (by rw [h.2.1]; rfl)
  · exact World.cell?_setCell_same' _ _ _ (by rw [World.cell?_setCell_other _ _ _ _ (nz 0 1 (by decide)), h.2.2.1]; rfl)
  · rw [World.cell?_setCell_other _ _ _ _ (nz 1 2 (by decide)), World.cell?_setCell_other _ _ _ _ (nz 0 2 (by decide))]
    exact h.2.2.2

set_option maxRecDepth 10000 in
set_option maxHeartbeats 4000000 in
theorem cut_any (p : Option Addr) (n c : Nat) (P : Nat → Pc) (a b : Int) (w : World) (hn : n ≤ 1024) (hP : IsP w p n c P) :
    Calls Try.prog 52 #[.slice p n c, .int .i64 a, .int .i64 b] w fun e w' => ∃ v', e = .returned v' ∧ w'.ownsRow w.heap.size 47 3 v' ((toL (fun k => clip a b (P k)) n).foldl putR []).length (cellsP ((toL (fun k => clip a b (P k)) n).foldl putR [])) ∧ Below w.heap.size w w' := by
  have HP := Lib.hid hP
  clear hP
  go_enter Try.func52, Try.ntmps52
  go_wp2_with fail
  have A0 := (Below.refl w.heap.size w).alloc (Nat.le_refl _) (.cells #[] 47)
  have O0 : (w.alloc (.cells #[] 47)).ownsRow w.heap.size 47 3 (.slice (some ⟨w.heap.size, 0, none⟩) 0 0) 0 (cellsP []) :=
    ⟨rfl, .inr ⟨w.heap.size, 0, #[], rfl, Nat.le_refl _, heap_alloc_new w _, Nat.le_refl _, by unfold maxLen; omega, rfl, rfl⟩⟩
  have A0 := Lib.hid A0
  have O0 := Lib.hid O0
  go_loopg [7, 8, 9] n (fun gg s7 s8 _ wr => ∃ kk : Nat, kk ≤ n ∧ n - kk ≤ gg ∧ s8 = .int .i64 kk ∧ Aside (wr.ownsRow w.heap.size 47 3 s7 ((toL (fun k => clip a b (P k)) kk).foldl putR []).length (cellsP ((toL (fun k => clip a b (P k)) kk).foldl putR []))) ∧ Aside (Below w.heap.size w wr))
  case atStart => exact ⟨0, Nat.zero_le _, by omega, rfl, O0.out, A0.out⟩
  case round =>
    obtain ⟨kk, hkk, hg, rfl, OW, BW⟩ := hrel
    by_cases hlt : kk < n
    · have hltz : (kk : Int) < (n : Int) := by omega
      have hz0 : (0 : Int) ≤ (kk : Int) := by omega
      obtain ⟨bb, off, rfl, hp⟩ := (HP.out.below BW.out).row (by omega)
      obtain ⟨l0, l1, l2⟩ := hp.2 kk hlt
      have fl := foldR_len (toL (fun k => clip a b (P k)) kk) []
      rw [toL_length, List.length_nil] at fl
      have FS := Lib.hid (foldR_succ (fun k => clip a b (P k)) [] kk)
      obtain ⟨y, hy⟩ : ∃ y, y = P kk := ⟨_, rfl⟩
      rw [← hy] at l0 l1 l2 FS
      have FL := Lib.hid fl
      clear hy fl hp
      by_cases c1 : y.f < a
      · by_cases c2 : b < y.u
        · have CL := Lib.hid (show clip a b y = ⟨a, b, y.v⟩ by unfold clip; simp [c1, c2])
          go_upto_region 6 with (fail)
          have BX := Box3.new wr y 47
          have AL := (Below.refl wr.heap.size wr).alloc (Nat.le_refl _) (.cells #[.int .i64 y.f, .int .i64 y.u, .int .i64 y.v] 47)
          have f0 : (wr.alloc (.cells #[.int .i64 y.f, .int .i64 y.u, .int .i64 y.v] 47)).frozen? ⟨wr.heap.size, 0, none⟩ = false := by simp
          have f1 : (wr.alloc (.cells #[.int .i64 y.f, .int .i64 y.u, .int .i64 y.v] 47)).frozen? ⟨wr.heap.size, 1, none⟩ = false := by simp
          have BX2 := Lib.hid (BX.set2 (a) (b))
          have AL := Lib.hid ((AL.setCell (p := ⟨wr.heap.size, 0, none⟩) (Nat.le_refl _) (.int .i64 (a))).setCell (p := ⟨wr.heap.size, 1, none⟩) (Nat.le_refl _) (.int .i64 (b)))
          clear l0 l1 l2
          generalize wr.alloc (.cells #[.int .i64 y.f, .int .i64 y.u, .int .i64 y.v] 47) = w1 at *
          obtain ⟨_, x0, x1, x2⟩ := BX
          go_upto_region 7 with (fail)
          generalize (w1.setCell ⟨wr.heap.size, 0, none⟩ (.int .i64 (a))).setCell ⟨wr.heap.size, 1, none⟩ (.int .i64 (b)) = w2 at *
          clear x0 x1 x2 f0 f1
          obtain ⟨_, x0, x1, x2⟩ := BX2.out
          have OW2 := Lib.hid (OW.out.kept (w' := w2) (row := none) ⟨AL.out.os, AL.out.tape, AL.out.output, AL.out.size, fun k hk _ => AL.out.block k hk⟩ (by cases hv : u7.ownBlock <;> simp))
          have BW2 := Lib.hid (BW.out.trans (AL.out.mono BW.out.size))
          have PC := Lib.hid (put_any w.heap.size u7 _ (clip a b y) w2 BW2.out.size (by have := FL.out; omega) OW2.out)
          rw [← FS.out, CL.out] at PC
          clear AL BX2
          go_wp2_with fail
          refine PC.out.mono ?_; rintro e w3 ⟨v3, rfl, o3, n3⟩
          have O3 := Lib.hid o3
          have B3 := Lib.hid (BW2.out.trans (n3.below BW2.out.size (fun k hk => ((OW2.out).lt k hk).1)))
          clear o3 n3 PC x0 x1 x2 OW2 BW2
          go_wp2_with fail
          go_roundg (n - (kk + 1))
          case measure => omega
          case rel => exact ⟨kk + 1, by omega, by omega, by go_num, O3.out, B3.out⟩
        · have CL := Lib.hid (show clip a b y = ⟨a, y.u, y.v⟩ by unfold clip; simp [c1, c2])
          go_upto_region 6 with (fail)
          have BX := Box3.new wr y 47
          have AL := (Below.refl wr.heap.size wr).alloc (Nat.le_refl _) (.cells #[.int .i64 y.f, .int .i64 y.u, .int .i64 y.v] 47)
          have f0 : (wr.alloc (.cells #[.int .i64 y.f, .int .i64 y.u, .int .i64 y.v] 47)).frozen? ⟨wr.heap.size, 0, none⟩ = false := by simp
          have f1 : (wr.alloc (.cells #[.int .i64 y.f, .int .i64 y.u, .int .i64 y.v] 47)).frozen? ⟨wr.heap.size, 1, none⟩ = false := by simp
          have BX2 := Lib.hid (BX.set2 (a) (y.u))
          have AL := Lib.hid ((AL.setCell (p := ⟨wr.heap.size, 0, none⟩) (Nat.le_refl _) (.int .i64 (a))).setCell (p := ⟨wr.heap.size, 1, none⟩) (Nat.le_refl _) (.int .i64 (y.u)))
          clear l0 l1 l2
          generalize wr.alloc (.cells #[.int .i64 y.f, .int .i64 y.u, .int .i64 y.v] 47) = w1 at *
          obtain ⟨_, x0, x1, x2⟩ := BX
          go_upto_region 7 with (fail)
          generalize (w1.setCell ⟨wr.heap.size, 0, none⟩ (.int .i64 (a))).setCell ⟨wr.heap.size, 1, none⟩ (.int .i64 (y.u)) = w2 at *
          clear x0 x1 x2 f0 f1
          obtain ⟨_, x0, x1, x2⟩ := BX2.out
          have OW2 := Lib.hid (OW.out.kept (w' := w2) (row := none) ⟨AL.out.os, AL.out.tape, AL.out.output, AL.out.size, fun k hk _ => AL.out.block k hk⟩ (by cases hv : u7.ownBlock <;> simp))
          have BW2 := Lib.hid (BW.out.trans (AL.out.mono BW.out.size))
          have PC := Lib.hid (put_any w.heap.size u7 _ (clip a b y) w2 BW2.out.size (by have := FL.out; omega) OW2.out)
          rw [← FS.out, CL.out] at PC
          clear AL BX2
          go_wp2_with fail
          refine PC.out.mono ?_; rintro e w3 ⟨v3, rfl, o3, n3⟩
          have O3 := Lib.hid o3
          have B3 := Lib.hid (BW2.out.trans (n3.below BW2.out.size (fun k hk => ((OW2.out).lt k hk).1)))
          clear o3 n3 PC x0 x1 x2 OW2 BW2
          go_wp2_with fail
          go_roundg (n - (kk + 1))
          case measure => omega
          case rel => exact ⟨kk + 1, by omega, by omega, by go_num, O3.out, B3.out⟩
      · by_cases c2 : b < y.u
        · have CL := Lib.hid (show clip a b y = ⟨y.f, b, y.v⟩ by unfold clip; simp [c1, c2])
          go_upto_region 6 with (fail)
          have BX := Box3.new wr y 47
          have AL := (Below.refl wr.heap.size wr).alloc (Nat.le_refl _) (.cells #[.int .i64 y.f, .int .i64 y.u, .int .i64 y.v] 47)
          have f0 : (wr.alloc (.cells #[.int .i64 y.f, .int .i64 y.u, .int .i64 y.v] 47)).frozen? ⟨wr.heap.size, 0, none⟩ = false := by simp
          have f1 : (wr.alloc (.cells #[.int .i64 y.f, .int .i64 y.u, .int .i64 y.v] 47)).frozen? ⟨wr.heap.size, 1, none⟩ = false := by simp
          have BX2 := Lib.hid (BX.set2 (y.f) (b))
          have AL := Lib.hid ((AL.setCell (p := ⟨wr.heap.size, 0, none⟩) (Nat.le_refl _) (.int .i64 (y.f))).setCell (p := ⟨wr.heap.size, 1, none⟩) (Nat.le_refl _) (.int .i64 (b)))
          clear l0 l1 l2
          generalize wr.alloc (.cells #[.int .i64 y.f, .int .i64 y.u, .int .i64 y.v] 47) = w1 at *
          obtain ⟨_, x0, x1, x2⟩ := BX
          go_upto_region 7 with (fail)
          generalize (w1.setCell ⟨wr.heap.size, 0, none⟩ (.int .i64 (y.f))).setCell ⟨wr.heap.size, 1, none⟩ (.int .i64 (b)) = w2 at *
          clear x0 x1 x2 f0 f1
          obtain ⟨_, x0, x1, x2⟩ := BX2.out
          have OW2 := Lib.hid (OW.out.kept (w' := w2) (row := none) ⟨AL.out.os, AL.out.tape, AL.out.output, AL.out.size, fun k hk _ => AL.out.block k hk⟩ (by cases hv : u7.ownBlock <;> simp))
          have BW2 := Lib.hid (BW.out.trans (AL.out.mono BW.out.size))
          have PC := Lib.hid (put_any w.heap.size u7 _ (clip a b y) w2 BW2.out.size (by have := FL.out; omega) OW2.out)
          rw [← FS.out, CL.out] at PC
          clear AL BX2
          go_wp2_with fail
          refine PC.out.mono ?_; rintro e w3 ⟨v3, rfl, o3, n3⟩
          have O3 := Lib.hid o3
          have B3 := Lib.hid (BW2.out.trans (n3.below BW2.out.size (fun k hk => ((OW2.out).lt k hk).1)))
          clear o3 n3 PC x0 x1 x2 OW2 BW2
          go_wp2_with fail
          go_roundg (n - (kk + 1))
          case measure => omega
          case rel => exact ⟨kk + 1, by omega, by omega, by go_num, O3.out, B3.out⟩
        · have CL := Lib.hid (show clip a b y = ⟨y.f, y.u, y.v⟩ by unfold clip; simp [c1, c2])
          go_upto_region 6 with (fail)
          have BX := Box3.new wr y 47
          have AL := (Below.refl wr.heap.size wr).alloc (Nat.le_refl _) (.cells #[.int .i64 y.f, .int .i64 y.u, .int .i64 y.v] 47)
          have f0 : (wr.alloc (.cells #[.int .i64 y.f, .int .i64 y.u, .int .i64 y.v] 47)).frozen? ⟨wr.heap.size, 0, none⟩ = false := by simp
          have f1 : (wr.alloc (.cells #[.int .i64 y.f, .int .i64 y.u, .int .i64 y.v] 47)).frozen? ⟨wr.heap.size, 1, none⟩ = false := by simp
          have BX2 := Lib.hid (BX.set2 (y.f) (y.u))
          have AL := Lib.hid ((AL.setCell (p := ⟨wr.heap.size, 0, none⟩) (Nat.le_refl _) (.int .i64 (y.f))).setCell (p := ⟨wr.heap.size, 1, none⟩) (Nat.le_refl _) (.int .i64 (y.u)))
          clear l0 l1 l2
          generalize wr.alloc (.cells #[.int .i64 y.f, .int .i64 y.u, .int .i64 y.v] 47) = w1 at *
          obtain ⟨_, x0, x1, x2⟩ := BX
          go_upto_region 7 with (fail)
          generalize (w1.setCell ⟨wr.heap.size, 0, none⟩ (.int .i64 (y.f))).setCell ⟨wr.heap.size, 1, none⟩ (.int .i64 (y.u)) = w2 at *
          clear x0 x1 x2 f0 f1
          obtain ⟨_, x0, x1, x2⟩ := BX2.out
          have OW2 := Lib.hid (OW.out.kept (w' := w2) (row := none) ⟨AL.out.os, AL.out.tape, AL.out.output, AL.out.size, fun k hk _ => AL.out.block k hk⟩ (by cases hv : u7.ownBlock <;> simp))
          have BW2 := Lib.hid (BW.out.trans (AL.out.mono BW.out.size))
          have PC := Lib.hid (put_any w.heap.size u7 _ (clip a b y) w2 BW2.out.size (by have := FL.out; omega) OW2.out)
          rw [← FS.out, CL.out] at PC
          clear AL BX2
          go_wp2_with fail
          refine PC.out.mono ?_; rintro e w3 ⟨v3, rfl, o3, n3⟩
          have O3 := Lib.hid o3
          have B3 := Lib.hid (BW2.out.trans (n3.below BW2.out.size (fun k hk => ((OW2.out).lt k hk).1)))
          clear o3 n3 PC x0 x1 x2 OW2 BW2
          go_wp2_with fail
          go_roundg (n - (kk + 1))
          case measure => omega
          case rel => exact ⟨kk + 1, by omega, by omega, by go_num, O3.out, B3.out⟩
    · have hltz : ¬ (kk : Int) < (n : Int) := by omega
      have : kk = n := by omega
      subst this
      go_wp2_with fail
      go_ret
      exact ⟨_, rfl, OW.out, BW.out⟩
end Go.Proofs.Ytekigilhmdphnaa
