/- The dating so many years later. -/
import Derived.Test.YtbllolalfmgfoaaDoorDM
import Derived.Test.YtbllolalfmgfoaaDoorKeep
namespace Go.Proofs.YtbllolalfmgfoaaDoor
open Go.RowKit Go.Shelf

/-- v is the day n years behind day d. -/
def YV (d n v : Int) : Prop := ∃ y m k, Cal.DateIs d y m k ∧ v = later y m k n
theorem YV.some (d n : Int) (h0 : 0 ≤ d) (h1 : d ≤ 1048575) : ∃ v, YV d n v := by
  obtain ⟨y, m, k, h⟩ := Cal.exists_date d h0 h1
  exact ⟨_, y, m, k, h, rfl⟩
theorem YV.mono {a b n u v : Int} (h : YV a n u) (g : YV b n v) (hab : a ≤ b) (n0 : 0 ≤ n) : u ≤ v := by
  obtain ⟨y, m, k, h, rfl⟩ := h
  obtain ⟨y', m', k', g, rfl⟩ := g
  have := raw_mono h g hab n0
  rw [later_min h n0, later_min g n0]
  omega
theorem YV.call {d n v : Int} (h : YV d n v) (h0 : 0 ≤ d) (h1 : d ≤ 1048575) (n0 : 0 ≤ n) (n1 : n ≤ 200) (w : World) (hT : Tab w) :
    Calls Tryd.prog 28 #[.int .i64 d, .int .i64 n] w (Two v 0 w) := by
  obtain ⟨y, m, k, h, rfl⟩ := h
  exact Years_yes d n y m k w hT h h0 h1 n0 n1
theorem YV.ref {d n v : Int} (h : YV d n v) (h0 : 0 ≤ d) (h1 : d ≤ 1048575) (n0 : 0 ≤ n) (n1 : n ≤ 200) (w : World) :
    Calls Tryd.prog 31 #[.int .i64 d, .int .i64 n] w (Two v 0 w) := by
  obtain ⟨y, m, k, h, rfl⟩ := h
  exact refYears_yes d n y m k w h h0 h1 n0 n1
theorem yrB_out {d n : Int} (h : ¬ (0 ≤ n ∧ n ≤ 200)) : yrB d n = false := by
  cases hb : yrB d n
  · rfl
  · have := yrB_yes hb; omega

set_option maxHeartbeats 2000000 in
theorem Dyears_bad (a b n : Int) (w : World) (hg : gd (a, b) = false) :
    Calls Tryd.prog 18 #[.agg #[.int .i64 a, .int .i64 b], .int .i64 n] w (DatE 0 0 1 w) := by
  have X0 := Pair.new w a b 0 0 23 23
  have g0 : Below w.heap.size w ((w.alloc (.cells #[.int .i64 a, .int .i64 b] 23)).alloc (.cells #[.int .i64 0, .int .i64 0] 23)) := ((Below.refl _ w).alloc (Nat.le_refl _) _).alloc (by simp) _
  go_enter Tryd.func18, Tryd.ntmps18
  go_wp2_with fail
  generalize (w.alloc (.cells #[.int .i64 a, .int .i64 b] 23)).alloc (.cells #[.int .i64 0, .int .i64 0] 23) = W at X0 g0 ⊢
  refine (Check_any a b _).mono ?_; rintro e w1 ⟨rfl, b1⟩
  rw [chk_f hg]
  have X1 := X0.below b1
  have g1 := g0.trans (b1.mono g0.size)
  clear X0 g0 b1
  obtain ⟨k0, k1, k2, k3⟩ := X1.cells
  obtain ⟨_, _, _, f2, f3⟩ := X1.2
  have Z := Lib.hid (X1.2.set (.int .i64 0) (.int .i64 0))
  have gE := (g1.setCell (p := ⟨w.heap.size + 1, 0, none⟩) (by simp) (.int .i64 0)).setCell (p := ⟨w.heap.size + 1, 1, none⟩) (by simp) (.int .i64 0)
  clear X1
  go_wp2
  obtain ⟨_, r1, r2, _⟩ := Z.out
  generalize (w1.setCell ⟨w.heap.size + 1, 0, none⟩ (.int .i64 0)).setCell ⟨w.heap.size + 1, 1, none⟩ (.int .i64 0) = w4 at r1 r2 gE ⊢
  exact bodyPost_ret (v := .tuple #[.agg #[.int .i64 0, .int .i64 0], .int .i64 1]) (by simp [results, Tryd.results18, go_sem, r1, r2]) rfl ⟨rfl, gE⟩

set_option maxHeartbeats 2000000 in
theorem Dyears_range (a b n : Int) (w : World) (hg : gd (a, b) = true) (hn : ¬ (0 ≤ n ∧ n ≤ 200)) :
    Calls Tryd.prog 18 #[.agg #[.int .i64 a, .int .i64 b], .int .i64 n] w (DatE 0 0 2 w) := by
  have X0 := Pair.new w a b 0 0 23 23
  have g0 : Below w.heap.size w ((w.alloc (.cells #[.int .i64 a, .int .i64 b] 23)).alloc (.cells #[.int .i64 0, .int .i64 0] 23)) := ((Below.refl _ w).alloc (Nat.le_refl _) _).alloc (by simp) _
  have q1 := Lib.hid (fun V => Years_no a n V (yrB_out hn))
  have q2 := Lib.hid (fun V => Years_no b n V (yrB_out hn))
  clear hn
  go_enter Tryd.func18, Tryd.ntmps18
  go_wp2_with fail
  generalize (w.alloc (.cells #[.int .i64 a, .int .i64 b] 23)).alloc (.cells #[.int .i64 0, .int .i64 0] 23) = W at X0 g0 ⊢
  refine (Check_any a b _).mono ?_; rintro e w1 ⟨rfl, b1⟩
  rw [chk_t hg]
  have X1 := X0.below b1
  have g1 := g0.trans (b1.mono g0.size)
  clear X0 g0 b1
  obtain ⟨k0, k1, k2, k3⟩ := X1.cells
  obtain ⟨_, _, _, f2, f3⟩ := X1.2
  have Z := Lib.hid (X1.2.set (.int .i64 0) (.int .i64 0))
  have gE := (g1.setCell (p := ⟨w.heap.size + 1, 0, none⟩) (by simp) (.int .i64 0)).setCell (p := ⟨w.heap.size + 1, 1, none⟩) (by simp) (.int .i64 0)
  clear X1
  go_wp2_with fail
  refine (q1.out _).mono ?_; rintro e w2 ⟨rfl, rfl⟩
  go_wp2
  obtain ⟨_, r1, r2, _⟩ := Z.out
  generalize (w1.setCell ⟨w.heap.size + 1, 0, none⟩ (.int .i64 0)).setCell ⟨w.heap.size + 1, 1, none⟩ (.int .i64 0) = w4 at r1 r2 gE ⊢
  exact bodyPost_ret (v := .tuple #[.agg #[.int .i64 0, .int .i64 0], .int .i64 2]) (by simp [results, Tryd.results18, go_sem, r1, r2]) rfl ⟨rfl, gE⟩

set_option maxHeartbeats 2000000 in
theorem Dyears_good (a b n u v : Int) (w : World) (hT : Tab w) (hg : gd (a, b) = true) (n0 : 0 ≤ n) (n1 : n ≤ 200) (hu : YV a n u) (hv : YV b n v) :
    Calls Tryd.prog 18 #[.agg #[.int .i64 a, .int .i64 b], .int .i64 n] w (DatE u v 0 w) := by
  have X0 := Pair.new w a b 0 0 23 23
  have g0 : Below w.heap.size w ((w.alloc (.cells #[.int .i64 a, .int .i64 b] 23)).alloc (.cells #[.int .i64 0, .int .i64 0] 23)) := ((Below.refl _ w).alloc (Nat.le_refl _) _).alloc (by simp) _
  obtain ⟨a0, ab, b1⟩ := gd_t hg
  simp only at a0 ab b1
  have q1 := Lib.hid (fun V (hV : Below w.heap.size w V) => hu.call a0 (by omega) n0 n1 V (hT.below hV))
  have q2 := Lib.hid (fun V (hV : Below w.heap.size w V) => hv.call (by omega) b1 n0 n1 V (hT.below hV))
  clear hT a0 ab b1 hu hv
  go_enter Tryd.func18, Tryd.ntmps18
  go_wp2_with fail
  generalize (w.alloc (.cells #[.int .i64 a, .int .i64 b] 23)).alloc (.cells #[.int .i64 0, .int .i64 0] 23) = W at X0 g0 ⊢
  refine (Check_any a b _).mono ?_; rintro e w1 ⟨rfl, b1⟩
  rw [chk_t hg]
  have X1 := X0.below b1
  have g1 := g0.trans (b1.mono g0.size)
  clear X0 g0 b1
  obtain ⟨k0, k1, k2, k3⟩ := X1.cells
  obtain ⟨_, _, _, f2, f3⟩ := X1.2
  have Z := Lib.hid (X1.2.set (.int .i64 u) (.int .i64 v))
  have gE := (g1.setCell (p := ⟨w.heap.size + 1, 0, none⟩) (by simp) (.int .i64 u)).setCell (p := ⟨w.heap.size + 1, 1, none⟩) (by simp) (.int .i64 v)
  clear X1
  go_wp2_with fail
  refine (q1.out _ g1).mono ?_; rintro e w2 ⟨rfl, rfl⟩
  go_wp2_with fail
  refine (q2.out _ g1).mono ?_; rintro e w2 ⟨rfl, rfl⟩
  go_wp2
  obtain ⟨_, r1, r2, _⟩ := Z.out
  generalize (w1.setCell ⟨w.heap.size + 1, 0, none⟩ (.int .i64 u)).setCell ⟨w.heap.size + 1, 1, none⟩ (.int .i64 v) = w4 at r1 r2 gE ⊢
  exact bodyPost_ret (v := .tuple #[.agg #[.int .i64 u, .int .i64 v], .int .i64 0]) (by simp [results, Tryd.results18, go_sem, r1, r2]) rfl ⟨rfl, gE⟩

set_option maxHeartbeats 2000000 in
theorem RDyears_bad (a b n : Int) (w : World) (hg : gd (a, b) = false) :
    Calls Tryd.prog 19 #[.agg #[.int .i64 a, .int .i64 b], .int .i64 n] w (DatE 0 0 1 w) := by
  have X0 := Pair.new w a b 0 0 23 23
  have g0 : Below w.heap.size w ((w.alloc (.cells #[.int .i64 a, .int .i64 b] 23)).alloc (.cells #[.int .i64 0, .int .i64 0] 23)) := ((Below.refl _ w).alloc (Nat.le_refl _) _).alloc (by simp) _
  go_enter Tryd.func19, Tryd.ntmps19
  go_wp2_with fail
  generalize (w.alloc (.cells #[.int .i64 a, .int .i64 b] 23)).alloc (.cells #[.int .i64 0, .int .i64 0] 23) = W at X0 g0 ⊢
  refine (rGood_any a b _).mono ?_; rintro e w1 ⟨rfl, b1⟩
  rw [hg]
  have X1 := X0.below b1
  have g1 := g0.trans (b1.mono g0.size)
  clear X0 g0 b1
  obtain ⟨k0, k1, k2, k3⟩ := X1.cells
  obtain ⟨_, _, _, f2, f3⟩ := X1.2
  have Z := Lib.hid (X1.2.set (.int .i64 0) (.int .i64 0))
  have gE := (g1.setCell (p := ⟨w.heap.size + 1, 0, none⟩) (by simp) (.int .i64 0)).setCell (p := ⟨w.heap.size + 1, 1, none⟩) (by simp) (.int .i64 0)
  clear X1
  go_wp2
  obtain ⟨_, r1, r2, _⟩ := Z.out
  generalize (w1.setCell ⟨w.heap.size + 1, 0, none⟩ (.int .i64 0)).setCell ⟨w.heap.size + 1, 1, none⟩ (.int .i64 0) = w4 at r1 r2 gE ⊢
  exact bodyPost_ret (v := .tuple #[.agg #[.int .i64 0, .int .i64 0], .int .i64 1]) (by simp [results, Tryd.results19, go_sem, r1, r2]) rfl ⟨rfl, gE⟩

set_option maxHeartbeats 2000000 in
theorem RDyears_range (a b n : Int) (w : World) (hg : gd (a, b) = true) (hn : ¬ (0 ≤ n ∧ n ≤ 200)) :
    Calls Tryd.prog 19 #[.agg #[.int .i64 a, .int .i64 b], .int .i64 n] w (DatE 0 0 2 w) := by
  have X0 := Pair.new w a b 0 0 23 23
  have g0 : Below w.heap.size w ((w.alloc (.cells #[.int .i64 a, .int .i64 b] 23)).alloc (.cells #[.int .i64 0, .int .i64 0] 23)) := ((Below.refl _ w).alloc (Nat.le_refl _) _).alloc (by simp) _
  have q1 := Lib.hid (fun V => refYears_no a n V (yrB_out hn))
  have q2 := Lib.hid (fun V => refYears_no b n V (yrB_out hn))
  clear hn
  go_enter Tryd.func19, Tryd.ntmps19
  go_wp2_with fail
  generalize (w.alloc (.cells #[.int .i64 a, .int .i64 b] 23)).alloc (.cells #[.int .i64 0, .int .i64 0] 23) = W at X0 g0 ⊢
  refine (rGood_any a b _).mono ?_; rintro e w1 ⟨rfl, b1⟩
  rw [hg]
  have X1 := X0.below b1
  have g1 := g0.trans (b1.mono g0.size)
  clear X0 g0 b1
  obtain ⟨k0, k1, k2, k3⟩ := X1.cells
  obtain ⟨_, _, _, f2, f3⟩ := X1.2
  have Z := Lib.hid (X1.2.set (.int .i64 0) (.int .i64 0))
  have gE := (g1.setCell (p := ⟨w.heap.size + 1, 0, none⟩) (by simp) (.int .i64 0)).setCell (p := ⟨w.heap.size + 1, 1, none⟩) (by simp) (.int .i64 0)
  clear X1
  go_wp2_with fail
  refine (q1.out _).mono ?_; rintro e w2 ⟨rfl, rfl⟩
  go_wp2_with fail
  refine (q2.out _).mono ?_; rintro e w2 ⟨rfl, rfl⟩
  go_wp2
  obtain ⟨_, r1, r2, _⟩ := Z.out
  generalize (w1.setCell ⟨w.heap.size + 1, 0, none⟩ (.int .i64 0)).setCell ⟨w.heap.size + 1, 1, none⟩ (.int .i64 0) = w4 at r1 r2 gE ⊢
  exact bodyPost_ret (v := .tuple #[.agg #[.int .i64 0, .int .i64 0], .int .i64 2]) (by simp [results, Tryd.results19, go_sem, r1, r2]) rfl ⟨rfl, gE⟩

set_option maxHeartbeats 2000000 in
theorem RDyears_good (a b n u v : Int) (w : World) (hg : gd (a, b) = true) (n0 : 0 ≤ n) (n1 : n ≤ 200) (hu : YV a n u) (hv : YV b n v) :
    Calls Tryd.prog 19 #[.agg #[.int .i64 a, .int .i64 b], .int .i64 n] w (DatE u v 0 w) := by
  have X0 := Pair.new w a b 0 0 23 23
  have g0 : Below w.heap.size w ((w.alloc (.cells #[.int .i64 a, .int .i64 b] 23)).alloc (.cells #[.int .i64 0, .int .i64 0] 23)) := ((Below.refl _ w).alloc (Nat.le_refl _) _).alloc (by simp) _
  obtain ⟨a0, ab, b1⟩ := gd_t hg
  simp only at a0 ab b1
  have q1 := Lib.hid (fun V (_ : Below w.heap.size w V) => hu.ref a0 (by omega) n0 n1 V)
  have q2 := Lib.hid (fun V (_ : Below w.heap.size w V) => hv.ref (by omega) b1 n0 n1 V)
  clear a0 ab b1 hu hv
  go_enter Tryd.func19, Tryd.ntmps19
  go_wp2_with fail
  generalize (w.alloc (.cells #[.int .i64 a, .int .i64 b] 23)).alloc (.cells #[.int .i64 0, .int .i64 0] 23) = W at X0 g0 ⊢
  refine (rGood_any a b _).mono ?_; rintro e w1 ⟨rfl, b1⟩
  rw [hg]
  have X1 := X0.below b1
  have g1 := g0.trans (b1.mono g0.size)
  clear X0 g0 b1
  obtain ⟨k0, k1, k2, k3⟩ := X1.cells
  obtain ⟨_, _, _, f2, f3⟩ := X1.2
  have Z := Lib.hid (X1.2.set (.int .i64 u) (.int .i64 v))
  have gE := (g1.setCell (p := ⟨w.heap.size + 1, 0, none⟩) (by simp) (.int .i64 u)).setCell (p := ⟨w.heap.size + 1, 1, none⟩) (by simp) (.int .i64 v)
  clear X1
  go_wp2_with fail
  refine (q1.out _ g1).mono ?_; rintro e w2 ⟨rfl, rfl⟩
  go_wp2_with fail
  refine (q2.out _ g1).mono ?_; rintro e w2 ⟨rfl, rfl⟩
  go_wp2
  obtain ⟨_, r1, r2, _⟩ := Z.out
  generalize (w1.setCell ⟨w.heap.size + 1, 0, none⟩ (.int .i64 u)).setCell ⟨w.heap.size + 1, 1, none⟩ (.int .i64 v) = w4 at r1 r2 gE ⊢
  exact bodyPost_ret (v := .tuple #[.agg #[.int .i64 u, .int .i64 v], .int .i64 0]) (by simp [results, Tryd.results19, go_sem, r1, r2]) rfl ⟨rfl, gE⟩
end Go.Proofs.YtbllolalfmgfoaaDoor
