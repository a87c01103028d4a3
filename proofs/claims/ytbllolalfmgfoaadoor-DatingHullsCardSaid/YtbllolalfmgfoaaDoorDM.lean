/- What two datings have in common; the dating so many years later. -/
import Derived.Test.YtbllolalfmgfoaaDoorDK
namespace Go.Proofs.YtbllolalfmgfoaaDoor
open Go.RowKit Go.Shelf

def mx (a c : Int) : Int := if a < c then c else a
def mn (b d : Int) : Int := if d < b then d else b
/-- Have two datings days in common? -/
def mtB (a b c d : Int) : Bool := gd (a, b) && (gd (c, d) && gd (mx a c, mn b d))
def mtF (a b c d : Int) : Int := if mtB a b c d = true then mx a c else 0
def mtL (a b c d : Int) : Int := if mtB a b c d = true then mn b d else 0
theorem mt_f {a b c d : Int} (h : mtB a b c d = false) : mtF a b c d = 0 ∧ mtL a b c d = 0 := by unfold mtF mtL; rw [h]; exact ⟨rfl, rfl⟩
theorem mt_t {a b c d : Int} (h : mtB a b c d = true) : mtF a b c d = mx a c ∧ mtL a b c d = mn b d := by unfold mtF mtL; rw [h]; exact ⟨rfl, rfl⟩
/-- A dating and a bool, or a dating and an error, with new memory behind. -/
def DatB (f l : Int) (r : Bool) (w : World) (e : Ending) (w' : World) : Prop := e = .returned (.tuple #[.agg #[.int .i64 f, .int .i64 l], .bool r]) ∧ Below w.heap.size w w'
def DatE (f l x : Int) (w : World) (e : Ending) (w' : World) : Prop := e = .returned (.tuple #[.agg #[.int .i64 f, .int .i64 l], .int .i64 x]) ∧ Below w.heap.size w w'

theorem after5 {w w1 : World} {o1 o2 o5 : Obj} {x y u v : Value} {t3 t4 : TypeId}
    (hb : Below (((((w.alloc o1).alloc o2).alloc (.cells #[x, y] t3)).alloc (.cells #[u, v] t4)).heap.size + 1) (((((w.alloc o1).alloc o2).alloc (.cells #[x, y] t3)).alloc (.cells #[u, v] t4)).alloc o5) w1) :
    Below w.heap.size w w1 ∧ Box2 w1 (w.heap.size + 1 + 1) x y ∧ Box2 w1 (w.heap.size + 1 + 1 + 1) u v := by
  have b2 : Below w.heap.size w ((w.alloc o1).alloc o2) := ((Below.refl _ w).alloc (Nat.le_refl _) _).alloc (by simp) _
  have s2 : ((w.alloc o1).alloc o2).heap.size = w.heap.size + 1 + 1 := by simp
  generalize (w.alloc o1).alloc o2 = W2 at hb b2 s2
  have X := (Box2.new W2 x y t3).alloc (.cells #[u, v] t4)
  have Y := Box2.new (W2.alloc (.cells #[x, y] t3)) u v t4
  have b4 : Below W2.heap.size W2 ((W2.alloc (.cells #[x, y] t3)).alloc (.cells #[u, v] t4)) := ((Below.refl _ W2).alloc (Nat.le_refl _) _).alloc (by simp) _
  have s3 : (W2.alloc (.cells #[x, y] t3)).heap.size = W2.heap.size + 1 := by simp
  generalize (W2.alloc (.cells #[x, y] t3)).alloc (.cells #[u, v] t4) = W4 at hb X Y b4
  have b5 : Below W4.heap.size W4 w1 := ((Below.refl _ W4).alloc (Nat.le_refl _) o5).trans (hb.mono (Nat.le_succ _))
  rw [s3] at Y
  rw [← s2]
  exact ⟨b2.trans ((b4.trans (b5.mono b4.size)).mono b2.size), X.below b5, Y.below b5⟩

set_option maxHeartbeats 4000000 in
theorem Meet_any (a b c d : Int) (w : World) :
    Calls Tryd.prog 20 #[.agg #[.int .i64 a, .int .i64 b], .agg #[.int .i64 c, .int .i64 d]] w (DatB (mtF a b c d) (mtL a b c d) (mtB a b c d) w) := by
  by_cases h1 : a < c
  · have em : mx a c = c := by unfold mx; rw [if_pos h1]
    by_cases h2 : d < b
    · have en : mn b d = d := by unfold mn; rw [if_pos h2]
      have er : mtB a b c d = (gd (a, b) && (gd (c, d) && gd (c, d))) := by unfold mtB; rw [em, en]
      cases hr : (gd (a, b) && (gd (c, d) && gd (c, d)))
      · rw [hr] at er
        rw [(mt_f er).1, (mt_f er).2, er]
        clear er em en
        go_enter Tryd.func20, Tryd.ntmps20
        go_wp2_with fail
        refine (valid3 a b c d c d _ _ (by simp) _).mono ?_; rintro e w1 ⟨rfl, hb⟩; rw [hr]
        obtain ⟨hbel, X, Y⟩ := after5 hb
        clear hb
        have Z := Lib.hid (X.set (.int .i64 0) (.int .i64 0))
        have gE := (hbel.setCell (p := ⟨w.heap.size + 1 + 1, 0, none⟩) (by simp; omega) (.int .i64 0)).setCell (p := ⟨w.heap.size + 1 + 1, 1, none⟩) (by simp; omega) (.int .i64 0)
        obtain ⟨y0, y1, y2, y3, y4⟩ := X
        obtain ⟨z0, z1, z2, z3, z4⟩ := Y
        go_wp2_with fail
        obtain ⟨_, r1, r2, _⟩ := Z.out
        generalize (w1.setCell ⟨w.heap.size + 1 + 1, 0, none⟩ (.int .i64 0)).setCell ⟨w.heap.size + 1 + 1, 1, none⟩ (.int .i64 0) = w4 at r1 r2 gE ⊢
        exact bodyPost_ret (v := .tuple #[.agg #[.int .i64 0, .int .i64 0], .bool false]) (by simp [results, Tryd.results20, go_sem, r1, r2]) rfl ⟨rfl, gE⟩
      · rw [hr] at er
        rw [(mt_t er).1, (mt_t er).2, er, em, en]
        clear er em en
        go_enter Tryd.func20, Tryd.ntmps20
        go_wp2_with fail
        refine (valid3 a b c d c d _ _ (by simp) _).mono ?_; rintro e w1 ⟨rfl, hb⟩; rw [hr]
        obtain ⟨hbel, X, Y⟩ := after5 hb
        clear hb
        have Z := Lib.hid (X.set (.int .i64 c) (.int .i64 d))
        have gE := (hbel.setCell (p := ⟨w.heap.size + 1 + 1, 0, none⟩) (by simp; omega) (.int .i64 c)).setCell (p := ⟨w.heap.size + 1 + 1, 1, none⟩) (by simp; omega) (.int .i64 d)
        obtain ⟨y0, y1, y2, y3, y4⟩ := X
        obtain ⟨z0, z1, z2, z3, z4⟩ := Y
        go_wp2_with fail
        obtain ⟨_, r1, r2, _⟩ := Z.out
        generalize (w1.setCell ⟨w.heap.size + 1 + 1, 0, none⟩ (.int .i64 c)).setCell ⟨w.heap.size + 1 + 1, 1, none⟩ (.int .i64 d) = w4 at r1 r2 gE ⊢
        exact bodyPost_ret (v := .tuple #[.agg #[.int .i64 c, .int .i64 d], .bool true]) (by simp [results, Tryd.results20, go_sem, r1, r2]) rfl ⟨rfl, gE⟩
    · have en : mn b d = b := by unfold mn; rw [if_neg h2]
      have h2' : b ≤ d := by omega
      have er : mtB a b c d = (gd (a, b) && (gd (c, d) && gd (c, b))) := by unfold mtB; rw [em, en]
      cases hr : (gd (a, b) && (gd (c, d) && gd (c, b)))
      · rw [hr] at er
        rw [(mt_f er).1, (mt_f er).2, er]
        clear er em en
        go_enter Tryd.func20, Tryd.ntmps20
        go_wp2_with fail
        refine (valid3 a b c d c b _ _ (by simp) _).mono ?_; rintro e w1 ⟨rfl, hb⟩; rw [hr]
        obtain ⟨hbel, X, Y⟩ := after5 hb
        clear hb
        have Z := Lib.hid (X.set (.int .i64 0) (.int .i64 0))
        have gE := (hbel.setCell (p := ⟨w.heap.size + 1 + 1, 0, none⟩) (by simp; omega) (.int .i64 0)).setCell (p := ⟨w.heap.size + 1 + 1, 1, none⟩) (by simp; omega) (.int .i64 0)
        obtain ⟨y0, y1, y2, y3, y4⟩ := X
        obtain ⟨z0, z1, z2, z3, z4⟩ := Y
        go_wp2_with fail
        obtain ⟨_, r1, r2, _⟩ := Z.out
        generalize (w1.setCell ⟨w.heap.size + 1 + 1, 0, none⟩ (.int .i64 0)).setCell ⟨w.heap.size + 1 + 1, 1, none⟩ (.int .i64 0) = w4 at r1 r2 gE ⊢
        exact bodyPost_ret (v := .tuple #[.agg #[.int .i64 0, .int .i64 0], .bool false]) (by simp [results, Tryd.results20, go_sem, r1, r2]) rfl ⟨rfl, gE⟩
      · rw [hr] at er
        rw [(mt_t er).1, (mt_t er).2, er, em, en]
        clear er em en
        go_enter Tryd.func20, Tryd.ntmps20
        go_wp2_with fail
        refine (valid3 a b c d c b _ _ (by simp) _).mono ?_; rintro e w1 ⟨rfl, hb⟩; rw [hr]
        obtain ⟨hbel, X, Y⟩ := after5 hb
        clear hb
        have Z := Lib.hid (X.set (.int .i64 c) (.int .i64 b))
        have gE := (hbel.setCell (p := ⟨w.heap.size + 1 + 1, 0, none⟩) (by simp; omega) (.int .i64 c)).setCell (p := ⟨w.heap.size + 1 + 1, 1, none⟩) (by simp; omega) (.int .i64 b)
        obtain ⟨y0, y1, y2, y3, y4⟩ := X
        obtain ⟨z0, z1, z2, z3, z4⟩ := Y
        go_wp2_with fail
        obtain ⟨_, r1, r2, _⟩ := Z.out
        generalize (w1.setCell ⟨w.heap.size + 1 + 1, 0, none⟩ (.int .i64 c)).setCell ⟨w.heap.size + 1 + 1, 1, none⟩ (.int .i64 b) = w4 at r1 r2 gE ⊢
        exact bodyPost_ret (v := .tuple #[.agg #[.int .i64 c, .int .i64 b], .bool true]) (by simp [results, Tryd.results20, go_sem, r1, r2]) rfl ⟨rfl, gE⟩
  · have em : mx a c = a := by unfold mx; rw [if_neg h1]
    have h1' : c ≤ a := by omega
    by_cases h2 : d < b
    · have en : mn b d = d := by unfold mn; rw [if_pos h2]
      have er : mtB a b c d = (gd (a, b) && (gd (c, d) && gd (a, d))) := by unfold mtB; rw [em, en]
      cases hr : (gd (a, b) && (gd (c, d) && gd (a, d)))
      · rw [hr] at er
        rw [(mt_f er).1, (mt_f er).2, er]
        clear er em en
        go_enter Tryd.func20, Tryd.ntmps20
        go_wp2_with fail
        refine (valid3 a b c d a d _ _ (by simp) _).mono ?_; rintro e w1 ⟨rfl, hb⟩; rw [hr]
        obtain ⟨hbel, X, Y⟩ := after5 hb
        clear hb
        have Z := Lib.hid (X.set (.int .i64 0) (.int .i64 0))
        have gE := (hbel.setCell (p := ⟨w.heap.size + 1 + 1, 0, none⟩) (by simp; omega) (.int .i64 0)).setCell (p := ⟨w.heap.size + 1 + 1, 1, none⟩) (by simp; omega) (.int .i64 0)
        obtain ⟨y0, y1, y2, y3, y4⟩ := X
        obtain ⟨z0, z1, z2, z3, z4⟩ := Y
        go_wp2_with fail
        obtain ⟨_, r1, r2, _⟩ := Z.out
        generalize (w1.setCell ⟨w.heap.size + 1 + 1, 0, none⟩ (.int .i64 0)).setCell ⟨w.heap.size + 1 + 1, 1, none⟩ (.int .i64 0) = w4 at r1 r2 gE ⊢
        exact bodyPost_ret (v := .tuple #[.agg #[.int .i64 0, .int .i64 0], .bool false]) (by simp [results, Tryd.results20, go_sem, r1, r2]) rfl ⟨rfl, gE⟩
      · rw [hr] at er
        rw [(mt_t er).1, (mt_t er).2, er, em, en]
        clear er em en
        go_enter Tryd.func20, Tryd.ntmps20
        go_wp2_with fail
        refine (valid3 a b c d a d _ _ (by simp) _).mono ?_; rintro e w1 ⟨rfl, hb⟩; rw [hr]
        obtain ⟨hbel, X, Y⟩ := after5 hb
        clear hb
        have Z := Lib.hid (X.set (.int .i64 a) (.int .i64 d))
        have gE := (hbel.setCell (p := ⟨w.heap.size + 1 + 1, 0, none⟩) (by simp; omega) (.int .i64 a)).setCell (p := ⟨w.heap.size + 1 + 1, 1, none⟩) (by simp; omega) (.int .i64 d)
        obtain ⟨y0, y1, y2, y3, y4⟩ := X
        obtain ⟨z0, z1, z2, z3, z4⟩ := Y
        go_wp2_with fail
        obtain ⟨_, r1, r2, _⟩ := Z.out
        generalize (w1.setCell ⟨w.heap.size + 1 + 1, 0, none⟩ (.int .i64 a)).setCell ⟨w.heap.size + 1 + 1, 1, none⟩ (.int .i64 d) = w4 at r1 r2 gE ⊢
        exact bodyPost_ret (v := .tuple #[.agg #[.int .i64 a, .int .i64 d], .bool true]) (by simp [results, Tryd.results20, go_sem, r1, r2]) rfl ⟨rfl, gE⟩
    · have en : mn b d = b := by unfold mn; rw [if_neg h2]
      have h2' : b ≤ d := by omega
      have er : mtB a b c d = (gd (a, b) && (gd (c, d) && gd (a, b))) := by unfold mtB; rw [em, en]
      cases hr : (gd (a, b) && (gd (c, d) && gd (a, b)))
      · rw [hr] at er
        rw [(mt_f er).1, (mt_f er).2, er]
        clear er em en
        go_enter Tryd.func20, Tryd.ntmps20
        go_wp2_with fail
        refine (valid3 a b c d a b _ _ (by simp) _).mono ?_; rintro e w1 ⟨rfl, hb⟩; rw [hr]
        obtain ⟨hbel, X, Y⟩ := after5 hb
        clear hb
        have Z := Lib.hid (X.set (.int .i64 0) (.int .i64 0))
        have gE := (hbel.setCell (p := ⟨w.heap.size + 1 + 1, 0, none⟩) (by simp; omega) (.int .i64 0)).setCell (p := ⟨w.heap.size + 1 + 1, 1, none⟩) (by simp; omega) (.int .i64 0)
        obtain ⟨y0, y1, y2, y3, y4⟩ := X
        obtain ⟨z0, z1, z2, z3, z4⟩ := Y
        go_wp2_with fail
        obtain ⟨_, r1, r2, _⟩ := Z.out
        generalize (w1.setCell ⟨w.heap.size + 1 + 1, 0, none⟩ (.int .i64 0)).setCell ⟨w.heap.size + 1 + 1, 1, none⟩ (.int .i64 0) = w4 at r1 r2 gE ⊢
        exact bodyPost_ret (v := .tuple #[.agg #[.int .i64 0, .int .i64 0], .bool false]) (by simp [results, Tryd.results20, go_sem, r1, r2]) rfl ⟨rfl, gE⟩
      · rw [hr] at er
        rw [(mt_t er).1, (mt_t er).2, er, em, en]
        clear er em en
        go_enter Tryd.func20, Tryd.ntmps20
        go_wp2_with fail
        refine (valid3 a b c d a b _ _ (by simp) _).mono ?_; rintro e w1 ⟨rfl, hb⟩; rw [hr]
        obtain ⟨hbel, X, Y⟩ := after5 hb
        clear hb
        have Z := Lib.hid (X.set (.int .i64 a) (.int .i64 b))
        have gE := (hbel.setCell (p := ⟨w.heap.size + 1 + 1, 0, none⟩) (by simp; omega) (.int .i64 a)).setCell (p := ⟨w.heap.size + 1 + 1, 1, none⟩) (by simp; omega) (.int .i64 b)
        obtain ⟨y0, y1, y2, y3, y4⟩ := X
        obtain ⟨z0, z1, z2, z3, z4⟩ := Y
        go_wp2_with fail
        obtain ⟨_, r1, r2, _⟩ := Z.out
        generalize (w1.setCell ⟨w.heap.size + 1 + 1, 0, none⟩ (.int .i64 a)).setCell ⟨w.heap.size + 1 + 1, 1, none⟩ (.int .i64 b) = w4 at r1 r2 gE ⊢
        exact bodyPost_ret (v := .tuple #[.agg #[.int .i64 a, .int .i64 b], .bool true]) (by simp [results, Tryd.results20, go_sem, r1, r2]) rfl ⟨rfl, gE⟩
end Go.Proofs.YtbllolalfmgfoaaDoor
