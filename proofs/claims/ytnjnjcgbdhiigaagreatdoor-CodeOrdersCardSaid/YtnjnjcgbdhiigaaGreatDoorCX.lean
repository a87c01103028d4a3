/- awake. -/
import Derived.Test.YtnjnjcgbdhiigaaGreatDoorCW
namespace Go.Proofs.YtnjnjcgbdhiigaaGreatDoor
open Go.RowKit Go.Shelf

def x3121 : Txt := ⟨⟨#[51, 46, 49, 50, 46, 49]⟩, by decide⟩
def x329 : Txt := ⟨⟨#[51, 46, 50, 46, 57]⟩, by decide⟩
def x31 : Txt := ⟨⟨#[51, 46, 49]⟩, by decide⟩
def x33 : Txt := ⟨⟨#[51, 46, 51]⟩, by decide⟩
def x3 : Txt := ⟨⟨#[51]⟩, by decide⟩
def xA9 : Txt := ⟨⟨#[65, 32, 57]⟩, by decide⟩
def xA10 : Txt := ⟨⟨#[65, 32, 49, 48]⟩, by decide⟩
theorem p3121 : PR (bts x3121) [3, 12, 1] := ⟨by decide, by decide, by show [dec 3, dec 12, dec 1] = _; rw [dec1 (by decide), dec2 (by decide) (by decide), dec1 (by decide)]; decide⟩
theorem p312 : PR [51, 46, 49, 50] [3, 12] := ⟨by decide, by decide, by show [dec 3, dec 12] = _; rw [dec1 (by decide), dec2 (by decide) (by decide)]; decide⟩
theorem p329 : PR (bts x329) [3, 2, 9] := ⟨by decide, by decide, by show [dec 3, dec 2, dec 9] = _; rw [dec1 (by decide), dec1 (by decide), dec1 (by decide)]; decide⟩
theorem p31 : PR (bts x31) [3, 1] := ⟨by decide, by decide, by show [dec 3, dec 1] = _; rw [dec1 (by decide), dec1 (by decide)]; decide⟩
theorem p32 : PR [51, 46, 50] [3, 2] := ⟨by decide, by decide, by show [dec 3, dec 2] = _; rw [dec1 (by decide), dec1 (by decide)]; decide⟩
theorem p33 : PR (bts x33) [3, 3] := ⟨by decide, by decide, by show [dec 3, dec 3] = _; rw [dec1 (by decide)]; decide⟩
theorem p3 : PR (bts x3) [3] := ⟨by decide, by decide, by show [dec 3] = _; rw [dec1 (by decide)]; decide⟩
theorem bts_eq {t : Txt} {l : List UInt8} (h : bts t = l) : t.1 = ⟨l.toArray⟩ := (eq_bytes _ _).2 (by rw [mk_list]; exact h)

theorem parseEx (w : World) (hw : Lw w) : Calls Tryz.prog 8 #[.string ⟨#[51, 46, 49, 50, 46, 49]⟩] w fun e w' => ∃ v, e = .returned (.tuple #[v, .int .i64 0]) ∧ IsN w' v [3, 12, 1] ∧ Below w.heap.size w w' := by
  rcases Parse_two x3121 w hw with ⟨ns, h, c⟩ | ⟨h, _⟩
  · obtain rfl := h.one p3121
    exact c
  · exact absurd p3121 (h _)
theorem parentEx (w : World) (hw : Lw w) : Calls Tryz.prog 12 #[.string ⟨#[51, 46, 49, 50, 46, 49]⟩] w fun e w' => e = .returned (.tuple #[.string ⟨#[51, 46, 49, 50]⟩, .bool true]) ∧ Below w.heap.size w w' := by
  refine (Parent_any x3121 w hw).mono ?_
  rintro e w' ⟨⟨ns, p, h1, _, h3, _, rfl⟩ | ⟨h, _⟩, b⟩
  · obtain rfl := h1.one p3121
    refine ⟨?_, b⟩
    rw [bts_eq (h3.text p312)]
  · exact absurd (h _ p3121) (by decide)
theorem compareEx (w : World) (hw : Lw w) : Calls Tryz.prog 16 #[.string ⟨#[51, 46, 49, 50, 46, 49]⟩, .string ⟨#[51, 46, 50, 46, 57]⟩] w fun e w' => e = .returned (.tuple #[.int .i64 1, .int .i64 0]) ∧ Below w.heap.size w w' := by
  refine (Compare_any x3121 x329 w hw).mono ?_
  rintro e w' ⟨⟨ns, ms, h1, h2, rfl⟩ | ⟨h, _⟩, b⟩
  · obtain rfl := h1.one p3121
    obtain rfl := h2.one p329
    exact ⟨rfl, b⟩
  · rcases h with h | h
    · exact absurd p3121 (h _)
    · exact absurd p329 (h _)
theorem withinEx (w : World) (hw : Lw w) : Calls Tryz.prog 20 #[.string ⟨#[51, 46, 49]⟩, .string ⟨#[51]⟩] w fun e w' => e = .returned (.bool true) ∧ Below w.heap.size w w' := by
  refine (Within_any x31 x3 w hw).mono ?_
  rintro e w' ⟨⟨z, rfl, hz⟩, b⟩
  have : z = true := hz.2 ⟨_, _, p31, p3, by decide⟩
  rw [this]
  exact ⟨rfl, b⟩
theorem nameEx (w : World) (hw : Lw w) : Calls Tryz.prog 22 #[.string ⟨#[65, 32, 57]⟩] w fun e w' => e = .returned (.bool true) ∧ Below w.heap.size w w' := by
  refine (Name_any xA9 w hw).mono ?_
  rintro e w' ⟨rfl, b⟩
  have : nmL (bts xA9) = true := by decide
  rw [this]
  exact ⟨rfl, b⟩
theorem natEx : natL (bts xA9) (bts xA10) = -1 := by
  have h : pf (bts xA9) (bts xA10) = [([65], [65]), ([32], [32]), ([57], [49, 48])] := by
    show pf [65, 32, 57] [65, 32, 49, 48] = _
    rw [pf_cons (by decide), show cutN [65, 32, 57] = 1 by decide, show cutN [65, 32, 49, 48] = 1 by decide]
    show ([65], [65]) :: pf [32, 57] [32, 49, 48] = _
    rw [pf_cons (by decide), show cutN [32, 57] = 1 by decide, show cutN [32, 49, 48] = 1 by decide]
    show ([65], [65]) :: ([32], [32]) :: pf [57] [49, 48] = _
    rw [pf_cons (by decide), show cutN [57] = 1 by decide, show cutN [49, 48] = 2 by decide]
    show ([65], [65]) :: ([32], [32]) :: ([57], [49, 48]) :: pf [] [] = _
    rw [pf_nil ⟨rfl, rfl⟩]
  unfold natL
  rw [h]
  decide
theorem naturalEx (w : World) : Calls Tryz.prog 24 #[.string ⟨#[65, 32, 57]⟩, .string ⟨#[65, 32, 49, 48]⟩] w fun e w' => e = .returned (.int .i64 (-1)) ∧ Below w.heap.size w w' := by
  refine (Natural_any xA9 xA10 w).mono ?_
  rintro e w' ⟨rfl, b⟩
  rw [natEx]
  exact ⟨rfl, b⟩
theorem freeEx (v : Value) (w : World) (hw : Lw w) (hv : IsT w v [x31, x33]) : Calls Tryz.prog 18 #[v, .string ⟨#[51]⟩] w fun e w' => e = .returned (.tuple #[.string ⟨#[51, 46, 50]⟩, .int .i64 0]) ∧ Below w.heap.size w w' := by
  have abv : ∀ ns, Abv (bts x3) ns → ns = [3] := fun ns h => by
    rcases h with ⟨h, _⟩ | h
    · exact absurd h (by decide)
    · exact h.one p3
  have no2 : ¬ ∃ x ∈ [x31, x33], PR (bts x) ([3] ++ [2]) := by
    rintro ⟨x, hx, hp⟩
    rcases List.mem_cons.1 hx with rfl | hx
    · exact absurd (hp.one p31) (by decide)
    · obtain rfl := List.mem_singleton.1 hx
      exact absurd (hp.one p33) (by decide)
  refine (Free_any v [x31, x33] x3 w hw hv).mono ?_
  rintro e w' ⟨⟨t, ⟨ns, i, h1, h2, h3, h4, h5, h6, h7, h8, h9⟩, rfl⟩ | ⟨k, h, _⟩, b⟩
  · obtain rfl := abv ns h1
    have n1 : i ≠ 1 := fun e => h7 x31 (by simp) (by rw [e]; exact p31)
    have n2 : ¬ 2 < i := fun e => no2 (h8 2 (by omega) e)
    obtain rfl : i = 2 := by omega
    have ht : bts t = [51, 46, 50] := by rw [h9]; exact (p32.text (OkN.pr ⟨by decide, by decide, by decide⟩)).symm
    refine ⟨?_, b⟩
    rw [bts_eq ht]
  · exfalso
    rcases h with ⟨_, h⟩ | ⟨_, _, h⟩ | ⟨_, _, ns, h1, _, h⟩
    · simp at h
    · rcases h with h | ⟨x, hx, h⟩
      · exact h [3] (Or.inr p3)
      · rcases List.mem_cons.1 hx with rfl | hx
        · exact h _ p31
        · obtain rfl := List.mem_singleton.1 hx
          exact h _ p33
    · obtain rfl := abv ns h1
      rcases h with h | h
      · exact absurd h (by decide)
      · exact no2 (h 2 (by omega) (by omega))
theorem isT_ex (w : World) : IsT (w.alloc (.cells #[.string ⟨#[51, 46, 49]⟩, .string ⟨#[51, 46, 51]⟩] 9)) (.slice (some ⟨w.heap.size, 0, none⟩) 2 2) [x31, x33] := by
  have h := cell_new2 w (.string ⟨#[51, 46, 49]⟩) (.string ⟨#[51, 46, 51]⟩) 9
  refine ⟨_, 2, rfl, Nat.le_refl _, fun _ => ⟨_, _, rfl, by simp, fun j x hj => ?_⟩⟩
  match j, hj with
  | 0, hj => simp at hj; subst hj; exact h.1
  | 1, hj => simp at hj; subst hj; exact h.2
theorem cells3 (w : World) (x y z : Value) (t : TypeId) : (w.alloc (.cells #[x, y, z] t)).cell? ⟨w.heap.size, 0, none⟩ = some x ∧ (w.alloc (.cells #[x, y, z] t)).cell? ⟨w.heap.size, 1, none⟩ = some y ∧ (w.alloc (.cells #[x, y, z] t)).cell? ⟨w.heap.size, 2, none⟩ = some z := by
  have h := World.alloc_heap_new w (.cells #[x, y, z] t)
  generalize w.alloc (.cells #[x, y, z] t) = W at h ⊢
  generalize w.heap.size = g at h ⊢
  exact ⟨by simp [World.cell?, h], by simp [World.cell?, h], by simp [World.cell?, h]⟩
theorem equalEx (v : Value) (w : World) (hv : IsN w v [3, 12, 1]) : Calls Tryz.prog 31 #[v, .slice (some ⟨w.heap.size, 0, none⟩) 3 3] (w.alloc (.cells #[.int .i64 3, .int .i64 12, .int .i64 1] 3)) fun e w' => e = .returned (.bool true) ∧ Below (w.heap.size + 1) (w.alloc (.cells #[.int .i64 3, .int .i64 12, .int .i64 1] 3)) w' := by
  have hb : Below w.heap.size w (w.alloc (.cells #[.int .i64 3, .int .i64 12, .int .i64 1] 3)) := (Below.refl _ w).alloc (Nat.le_refl _) _
  obtain ⟨g, off, c, rfl, _, hc, c1⟩ := hv.below hb
  have c3 := cells3 w (.int .i64 3) (.int .i64 12) (.int .i64 1) 3
  refine (Any.slices_Equal_int Tryz.lays111 g off 3 c w.heap.size 0 3 3 (ints [3, 12, 1]) (ints [3, 12, 1]) _ (by decide) (by decide) (by decide) (by decide) (ints_cells c1) ?_).mono ?_
  · intro j hj
    match j, hj with
    | 0, _ => exact c3.1
    | 1, _ => exact c3.2.1
    | 2, _ => exact c3.2.2
  · rintro e w' ⟨rfl, q, rfl⟩
    refine ⟨rfl, ?_⟩
    have := below_drewN (w.alloc (.cells #[.int .i64 3, .int .i64 12, .int .i64 1] 3)) q
    rwa [World.size_alloc] at this
end Go.Proofs.YtnjnjcgbdhiigaaGreatDoor
