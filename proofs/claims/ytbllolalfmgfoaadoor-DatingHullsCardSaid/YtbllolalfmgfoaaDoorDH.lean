/- The text of a year's dating. -/
import Derived.Test.YtbllolalfmgfoaaDoorDG
import Derived.Deep.RegionWith
namespace Go.Proofs.YtbllolalfmgfoaaDoor
open Go.RowKit Go.Shelf

/-- A block of two cells that may be written. -/
def Box2 (w : World) (B : Nat) (x y : Value) : Prop :=
  B < w.heap.size ∧ w.cell? ⟨B, 0, none⟩ = some x ∧ w.cell? ⟨B, 1, none⟩ = some y ∧ w.frozen? ⟨B, 0, none⟩ = false ∧ w.frozen? ⟨B, 1, none⟩ = false
theorem Box2.new (w : World) (x y : Value) (t : TypeId) : Box2 (w.alloc (.cells #[x, y] t)) w.heap.size x y :=
  ⟨by simp, cell_new w _ _ 0, cell_new w _ _ 1, World.frozen?_alloc_at _ _ _ _ rfl, World.frozen?_alloc_at _ _ _ _ rfl⟩
theorem Box2.below {w w' : World} {B : Nat} {x y : Value} (h : Box2 w B x y) (hb : Below w.heap.size w w') : Box2 w' B x y :=
  ⟨Nat.lt_of_lt_of_le h.1 hb.size, (hb.cell (p := ⟨B, 0, none⟩) h.1).trans h.2.1, (hb.cell (p := ⟨B, 1, none⟩) h.1).trans h.2.2.1, (hb.frozen (p := ⟨B, 0, none⟩) h.1).trans h.2.2.2.1, (hb.frozen (p := ⟨B, 1, none⟩) h.1).trans h.2.2.2.2⟩
theorem Box2.alloc {w : World} {B : Nat} {x y : Value} (h : Box2 w B x y) (o : Obj) : Box2 (w.alloc o) B x y := h.below ((Below.refl _ w).alloc (Nat.le_refl _) o)

theorem Box2.set {w : World} {B : Nat} {x y : Value} (h : Box2 w B x y) (u v : Value) : Box2 ((w.setCell ⟨B, 0, none⟩ u).setCell ⟨B, 1, none⟩ v) B u v := by
  obtain ⟨h0, h1, h2, h3, h4⟩ := h
  have n : (⟨B, 1, none⟩ : Addr) ≠ ⟨B, 0, none⟩ := by intro e; injection e with _ e; cases e
  refine ⟨by simpa using h0, ?_, ?_, by rw [World.frozen?_setCell, World.frozen?_setCell]; exact h3, by rw [World.frozen?_setCell, World.frozen?_setCell]; exact h4⟩
  · rw [World.cell?_setCell_other _ _ _ _ n]; exact World.cell?_setCell_same _ _ _ h1
  · exact World.cell?_setCell_same _ _ _ (u := y) (by rw [World.cell?_setCell_other _ _ _ _ (Ne.symm n)]; exact h2)

set_option maxHeartbeats 2000000 in
theorem just_year (a b y : Int) (w : World) (hT : Tab w) (hA : Cal.DateIs a y 1 1) (hB : Cal.DateIs b y 12 31) (a0 : 0 ≤ a) (b1 : b ≤ 1048575) (hab : a ≤ b) :
    Calls Tryd.prog 33 #[.agg #[.int .i64 a, .int .i64 b]] w
      fun e w' => e = .returned (.tuple #[.agg #[.int .i64 a, .int .i64 4], .bool true]) ∧ Below w.heap.size w w' := by
  generalize hW : (w.alloc (.cells #[.int .i64 a, .int .i64 b] 23)).alloc (.cells #[.int .i64 0, .int .i64 0] 51) = W
  have gB : Below w.heap.size w W := by rw [← hW]; exact ((Below.refl _ w).alloc (Nat.le_refl _) _).alloc (by simp) _
  have X1 : Box2 W w.heap.size (.int .i64 a) (.int .i64 b) := by rw [← hW]; exact (Box2.new w _ _ _).alloc _
  have X2 : Box2 W (w.heap.size + 1) (.int .i64 0) (.int .i64 0) := by
    rw [← hW]
    have := Box2.new (w.alloc (.cells #[.int .i64 a, .int .i64 b] 23)) (.int .i64 0) (.int .i64 0) 51
    simpa using this
  have hTW := hT.below gB
  have ce := Lib.hid (ending_year b y W hTW hB (by omega) b1)
  have cb := Lib.hid (fun V (hV : Below W.heap.size W V) => beginning_year a y V (hTW.below hV) hA a0 (by omega))
  have e0 : Cal.num y 1 1 = a := hA.eq
  have hp : ∀ B0 V, Dats V B0 0 3 (all3P b y 12) → Calls Tryd.prog 62 #[.slice (some ⟨B0, 0, none⟩) 3 3, .agg #[.int .i64 a, .int .i64 4]] V
      fun e w' => e = .returned (.bool true) ∧ Below V.heap.size V w' := fun B0 V hV => by
    have h := Contains_any B0 0 3 3 _ (a, 4) V (by omega) hV
    have hr : hasP (a, 4) (all3P b y 12) 3 = true := decide_eq_true ⟨0, by omega, decide_eq_true ⟨e0.symm, rfl⟩⟩
    rw [hr] at h
    exact h
  have HP := Lib.hid hp
  have E0 := Lib.hid e0
  have X2 := Lib.hid X2
  obtain ⟨hs, k0, k1, _⟩ := X1
  clear hT hTW hA hB hp e0
  go_enter Tryd.func33, Tryd.ntmps33
  go_wp2_with fail
  refine ce.out.mono ?_; rintro e w1 ⟨B0, rfl, hd0, hb1, _⟩
  have hd0 := Lib.hid hd0
  have k0' := (hb1.cell (p := ⟨w.heap.size, 0, none⟩) hs).trans k0
  clear k0 k1 ce
  go_wp2_with fail
  refine (cb.out w1 hb1).mono ?_; rintro e w2 ⟨B1, rfl, hd1, hb2, _⟩
  have hbb := hb1.trans (hb2.mono hb1.size)
  have hd0' := Lib.hid (hd0.out.below hb2)
  obtain ⟨q0, q1⟩ := hd1.2 0 (by omega)
  have c0 : w2.cell? ⟨B1, 0, none⟩ = some (.int .i64 a) := by rw [← E0.out]; exact q0
  have c1 : w2.cell? ⟨B1, 1, none⟩ = some (.int .i64 4) := q1
  clear hd1 hd0 k0' q0 q1
  go_wp2_with fail
  go_loopg [6, 14] 1 (fun _ _ s14 wr => s14 = .int .i64 0 ∧ wr = w2)
  case atStart => exact ⟨rfl, rfl⟩
  case round =>
    obtain ⟨rfl, rfl⟩ := hrel
    have hn := (Below.refl wr.heap.size wr).alloc (Nat.le_refl _) (.cells #[.int .i64 a, .int .i64 4] 51)
    have hcall := Lib.hid (HP.out B0 _ (hd0'.out.below hn))
    have N := Lib.hid (Box2.new wr (.int .i64 a) (.int .i64 4) 51)
    go_wp2_with fail
    refine hcall.out.mono ?_; rintro e w3 ⟨rfl, hb3⟩
    obtain ⟨z0, z1, z2, _⟩ := N.out.below hb3
    have Y := Lib.hid (X2.out.below (hbb.trans ((hn.trans (hb3.mono hn.size)).mono hbb.size)))
    obtain ⟨y0, y1, y2, y3, y4⟩ := Y.out
    have gT := gB.trans ((hbb.trans ((hn.trans (hb3.mono hn.size)).mono hbb.size)).mono gB.size)
    clear hn hcall N hb3 hbb hb1 hb2
    go_wp2
    obtain ⟨_, r1, r2, _⟩ := Y.out.set (.int .i64 a) (.int .i64 4)
    have gE := (gT.setCell (p := ⟨w.heap.size + 1, 0, none⟩) (by simp) (.int .i64 a)).setCell (p := ⟨w.heap.size + 1, 1, none⟩) (by simp) (.int .i64 4)
    generalize (w3.setCell ⟨w.heap.size + 1, 0, none⟩ (.int .i64 a)).setCell ⟨w.heap.size + 1, 1, none⟩ (.int .i64 4) = w4 at r1 r2 gE ⊢
    exact bodyPost_ret (v := .tuple #[.agg #[.int .i64 a, .int .i64 4], .bool true]) (by simp [results, Tryd.results33, go_sem, r1, r2]) rfl ⟨rfl, gE⟩

set_option maxHeartbeats 1000000 in
theorem text_any (f wd y m k : Int) (w : World) (hT : Tab w) (hD : Cal.DateIs f y m k) (h0 : 0 ≤ f) (h1 : f ≤ 1048575) (w0 : 0 ≤ wd) (w1 : wd ≤ 10) :
    Calls Tryd.prog 34 #[.agg #[.int .i64 f, .int .i64 wd]] w fun e w' => e = .returned (.string ((SD y m k).extract 0 wd.toNat)) ∧ Below w.heap.size w w' := by
  have hb := (Below.refl w.heap.size w).alloc (Nat.le_refl _) (.cells #[.int .i64 f, .int .i64 wd] 51)
  have c := Lib.hid (Format_yes f y m k _ (hT.below hb) hD h0 h1)
  have X := Box2.new w (.int .i64 f) (.int .i64 wd) 51
  have hz : (SD y m k).size = 10 := by
    unfold SD; simp [ByteArray.size_append, S4_size, S2_size]; rfl
  generalize SD y m k = s at c hz ⊢
  clear hT
  go_enter Tryd.func34, Tryd.ntmps34
  go_wp2_with fail
  refine c.out.mono ?_; rintro e w2 ⟨rfl, hb1⟩
  obtain ⟨z0, z1, z2, _⟩ := X.below hb1
  have hbb := hb.trans (hb1.mono hb.size)
  have i1 : wd ≤ (s.size : Int) := by omega
  clear hb hb1 X c
  go_wp2
  go_ret
  exact ⟨rfl, hbb⟩
end Go.Proofs.YtbllolalfmgfoaaDoor
