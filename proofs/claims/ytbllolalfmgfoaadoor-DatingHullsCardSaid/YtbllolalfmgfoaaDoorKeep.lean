/- Plain facts for the laws of package day: the next date, four hundred years later, and what Years keeps. -/
import Derived.Test.YtbllolalfmgfoaaDoorYears
namespace Go.Proofs.YtbllolalfmgfoaaDoor
open Go.RowKit

/-- The date behind a date. -/
theorem next_date {d y m n u v r : Int} (h : Cal.DateIs d y m n) (g : Cal.DateIs (d + 1) u v r) (hd : d + 1 ≤ 1048575) :
    (n < Cal.ln y m ∧ u = y ∧ v = m ∧ r = n + 1) ∨ (n = Cal.ln y m ∧ m < 12 ∧ u = y ∧ v = m + 1 ∧ r = 1) ∨ (n = Cal.ln y m ∧ m = 12 ∧ u = y + 1 ∧ v = 1 ∧ r = 1) := by
  have e := h.eq; unfold Cal.num at e
  have k1 := h.k1; have k0 := h.k0
  by_cases c : n < Cal.ln y m
  · have g' : Cal.DateIs (d + 1) y m (n + 1) := ⟨h.y0, h.y1, h.m0, h.m1, by omega, by omega, by unfold Cal.num; omega⟩
    exact Or.inl ⟨c, (g.uniq g')⟩
  · have en : n = Cal.ln y m := by omega
    have m0 := h.m0; have m1 := h.m1
    have s := Cal.cum_succ y m m0 m1
    by_cases c2 : m < 12
    · have lb := Cal.ln_bd y (m + 1)
      have g' : Cal.DateIs (d + 1) y (m + 1) 1 := ⟨h.y0, h.y1, by omega, by omega, by omega, by omega, by unfold Cal.num; omega⟩
      exact Or.inr (Or.inl ⟨en, c2, (g.uniq g')⟩)
    · obtain rfl : m = 12 := by omega
      have t := Cal.cum_13 y
      have s' : Cal.cum y 13 = Cal.cum y 12 + Cal.ln y 12 := s
      have q := Cal.ys_succ y h.y0
      have y0 := h.y0
      have hy : y < 4470 := by
        have := h.y1
        by_cases c3 : y < 4470
        · exact c3
        · obtain rfl : y = 4470 := by omega
          have a1 := Cal.ys_last; have : Cal.ys (4470 + 1) = 1048612 := a1.2
          omega
      have lb := Cal.ln_bd (y + 1) 1
      have c1 := Cal.cum_1 (y + 1)
      have g' : Cal.DateIs (d + 1) (y + 1) 1 1 := ⟨by omega, by omega, by omega, by omega, by omega, by omega, by unfold Cal.num; omega⟩
      exact Or.inr (Or.inr ⟨en, rfl, (g.uniq g')⟩)

/-- Four hundred years later. -/
theorem cycle_date {d y m n : Int} (h : Cal.DateIs d y m n) (hd : d ≤ 902478) : Cal.DateIs (d + 146097) (y + 400) m n := by
  have p := Cal.ys_per y
  have q := Cal.lp_per y
  have c : Cal.cum (y + 400) m = Cal.cum y m := by unfold Cal.cum; rw [q]
  have l : Cal.ln (y + 400) m = Cal.ln y m := by unfold Cal.ln; rw [q]
  have y0 := h.y0
  have e := h.eq; unfold Cal.num at e
  have hy : y + 400 ≤ 4470 := by
    by_cases c4 : 4470 < y + 400
    · have := Cal.ys_mono 4471 (y + 400) (by omega) (by omega); have := Cal.ys_last.2; have := h.year.1; omega
    · omega
  exact ⟨by omega, hy, h.m0, h.m1, h.k0, by rw [l]; exact h.k1, by unfold Cal.num; rw [p, c]; omega⟩

/-- The day so many years later, were there no last day. -/
def raw (y m k n : Int) : Int := Cal.num (y + n) m (clip (y + n) m k)
theorem clip_bd {d y m k n : Int} (h : Cal.DateIs d y m k) : 1 ≤ clip (y + n) m k ∧ clip (y + n) m k ≤ Cal.ln (y + n) m ∧ clip (y + n) m k ≤ k ∧ k - 1 ≤ clip (y + n) m k ∧ (¬ (m = 2 ∧ k = 29) → clip (y + n) m k = k) := by
  have k0 := h.k0; have k1 := h.k1
  unfold clip
  by_cases c : m = 2 ∧ k = 29 ∧ leapB (y + n) = false
  · rw [if_pos c]
    obtain ⟨rfl, rfl, hb⟩ := c
    have := Cal.ln_bd (y + n) 2
    exact ⟨by omega, by omega, by omega, by omega, fun h => absurd ⟨rfl, rfl⟩ h⟩
  · rw [if_neg c]
    refine ⟨k0, ?_, Int.le_refl _, by omega, fun _ => rfl⟩
    by_cases m2 : m = 2
    · subst m2
      have e : ∀ z, Cal.ln z 2 = 28 + Cal.lp z := fun z => by simp [Cal.ln]
      rw [e] at k1 ⊢
      have := Cal.lp_01 y; have := Cal.lp_01 (y + n)
      cases hb : leapB (y + n)
      · rw [leapB_f hb]; have : ¬ k = 29 := fun h => c ⟨rfl, h, hb⟩; omega
      · rw [leapB_t hb]; omega
    · have : Cal.ln (y + n) m = Cal.ln y m := by unfold Cal.ln; rw [if_neg m2, if_neg m2]
      omega
theorem later_min {d y m k n : Int} (h : Cal.DateIs d y m k) (n0 : 0 ≤ n) : later y m k n = min (raw y m k n) 1048575 := by
  have b := clip_bd (n := n) h
  have y0 := h.y0
  unfold later raw
  by_cases c : y + n ≤ 4470
  · by_cases g : Cal.num (y + n) m (clip (y + n) m k) ≤ 1048575
    · rw [orMax_yes (ofB_mk ⟨b.1, by rw [Cal.len_of (y + n) m (by omega) c h.m0 h.m1]; exact b.2.1, g⟩)]; omega
    · rw [orMax_no (ofB_no (by rintro ⟨_, _, x⟩; exact g x))]; omega
  · rw [orMax_no (ofB_out (by omega) b.1)]
    have := Cal.ys_mono 4471 (y + n) (by omega) (by omega); have := Cal.ys_last.2
    have := Cal.cum_bd (y + n) m h.m0 (by have := h.m1; omega)
    unfold Cal.num
    omega

theorem raw_year {d y m k n : Int} (h : Cal.DateIs d y m k) (n0 : 0 ≤ n) : Cal.ys (y + n) ≤ raw y m k n ∧ raw y m k n < Cal.ys (y + n + 1) := by
  have b := clip_bd (n := n) h
  have y0 := h.y0
  have c := Cal.cum_bd (y + n) m h.m0 (by have := h.m1; omega)
  have s := Cal.ys_succ (y + n) (by omega)
  have t := Cal.cum_13 (y + n)
  have u := Cal.cum_mono (y + n) m 13 h.m0 (by have := h.m1; omega) (by omega)
  unfold raw Cal.num
  omega
/-- More years, not earlier. -/
theorem raw_more {d y m k n l : Int} (h : Cal.DateIs d y m k) (n0 : 0 ≤ n) (l0 : 0 ≤ l) : raw y m k n ≤ raw y m k (n + l) := by
  by_cases c : l = 0
  · subst c; rw [Int.add_zero]; exact Int.le_refl _
  · have a := (raw_year h n0).2
    have b := (raw_year (n := n + l) h (by omega)).1
    have y0 := h.y0
    have := Cal.ys_mono (y + n + 1) (y + (n + l)) (by omega) (by omega)
    omega
/-- A later day, not earlier. -/
theorem raw_mono {a b y m k u v r n : Int} (h : Cal.DateIs a y m k) (g : Cal.DateIs b u v r) (hab : a ≤ b) (n0 : 0 ≤ n) : raw y m k n ≤ raw u v r n := by
  have ha := h.year; have hb := g.year
  have hy : y ≤ u := by
    by_cases c : u < y
    · have := Cal.ys_mono (u + 1) y (by have := g.y0; omega) (by omega); omega
    · omega
  have y0 := h.y0
  by_cases c : y < u
  · have a1 := (raw_year h n0).2
    have b1 := (raw_year g n0).1
    have := Cal.ys_mono (y + n + 1) (u + n) (by omega) (by omega)
    omega
  · obtain rfl : y = u := by omega
    have e := h.eq; have e' := g.eq; unfold Cal.num at e e'
    have k0 := h.k0; have k1 := h.k1; have r0 := g.k0; have r1 := g.k1; have m1 := h.m1; have v1 := g.m1
    have cb := clip_bd (n := n) h; have cg := clip_bd (n := n) g
    have hm : m ≤ v := by
      by_cases c : v < m
      · have := Cal.cum_mono y v m g.m0 c (by omega); omega
      · omega
    unfold raw Cal.num
    by_cases c : m < v
    · have := Cal.cum_mono (y + n) m v h.m0 c (by omega); omega
    · obtain rfl : m = v := by omega
      have hk : k ≤ r := by omega
      have : clip (y + n) m k ≤ clip (y + n) m r := by
        by_cases q : k = r
        · rw [q]; exact Int.le_refl _
        · omega
      omega
/-- A year has 365 days or one more. -/
theorem leaps (y : Int) (y0 : 1600 ≤ y) : ∀ n : Nat, Cal.ys y + 365 * (n + 1) + Cal.lp y ≤ Cal.ys (y + (n + 1)) ∧ Cal.ys (y + (n + 1)) ≤ Cal.ys y + 365 * (n + 1) + n + Cal.lp y := by
  intro n
  induction n with
  | zero => have := Cal.ys_succ y y0; simp; omega
  | succ n ih =>
    have s := Cal.ys_succ (y + (n + 1)) (by omega)
    have l := Cal.lp_01 (y + (n + 1))
    rw [show y + (((n + 1 : Nat) : Int) + 1) = y + ((n : Int) + 1) + 1 from by omega]
    omega
theorem raw_bd {d y m k : Int} (h : Cal.DateIs d y m k) (n : Int) (n0 : 0 ≤ n) : 365 * n ≤ raw y m k n - d ∧ raw y m k n - d ≤ 366 * n := by
  have y0 := h.y0
  have e := h.eq; unfold Cal.num at e
  have cb := clip_bd (n := n) h
  have l0 := Cal.lp_01 y
  by_cases c : n = 0
  · subst c
    have : clip (y + 0) m k = k := by
      have k1 := h.k1
      unfold clip
      by_cases c : m = 2 ∧ k = 29 ∧ leapB (y + 0) = false
      · obtain ⟨rfl, rfl, hb⟩ := c
        rw [Int.add_zero] at hb
        have := leapB_f hb
        have e : Cal.ln y 2 = 28 + Cal.lp y := by simp [Cal.ln]
        omega
      · rw [if_neg c]
    unfold raw; rw [this, Int.add_zero]; unfold Cal.num; omega
  · obtain ⟨j, rfl⟩ : ∃ j : Nat, n = j + 1 := ⟨(n - 1).toNat, by omega⟩
    have L := leaps y y0 j
    have s := Cal.ys_succ (y + (j + 1)) (by omega)
    have L2 := leaps y y0 (j + 1)
    rw [show y + (((j + 1 : Nat) : Int) + 1) = y + ((j : Int) + 1) + 1 from by omega] at L2
    have l1 := Cal.lp_01 (y + (j + 1))
    have k1 := h.k1
    unfold raw Cal.num
    by_cases m2 : m ≤ 2
    · have c1 : Cal.cum (y + (j + 1)) m = Cal.cum y m := by
        have := h.m0
        have : m = 1 ∨ m = 2 := by omega
        rcases this with rfl | rfl <;> simp [Cal.cum]
      by_cases q : m = 2 ∧ k = 29
      · obtain ⟨rfl, rfl⟩ := q
        have e : Cal.ln y 2 = 28 + Cal.lp y := by simp [Cal.ln]
        omega
      · have := cb.2.2.2.2 q
        omega
    · have c1 : Cal.cum (y + (j + 1)) m - Cal.cum y m = Cal.lp (y + (j + 1)) - Cal.lp y := by
        have := h.m1
        unfold Cal.cum
        simp only [if_neg (show ¬ m ≤ 1 by omega), if_neg (show ¬ m = 2 by omega)]
        omega
      have := cb.2.2.2.2 (by omega)
      omega
/-- The end of a year lies in it. -/
theorem end_date {d y m k : Int} (h : Cal.DateIs d y m k) (h1 : d ≤ 1048575) : ∃ v r, Cal.DateIs (orMax y 12 31) y v r ∧ d ≤ orMax y 12 31 ∧ orMax y 12 31 ≤ 1048575 ∧ orMax y 12 31 - d < 366 := by
  have hy := h.year
  have s := Cal.ys_succ y h.y0
  have l := Cal.lp_01 y
  have e12 : Cal.num y 12 31 = Cal.ys (y + 1) - 1 := by
    have t := Cal.cum_13 y
    have c := Cal.cum_succ y 12 (by omega) (by omega)
    have c' : Cal.cum y 13 = Cal.cum y 12 + Cal.ln y 12 := c
    have n : Cal.ln y 12 = 31 := by simp [Cal.ln]
    unfold Cal.num; omega
  have ln12 : Cal.len y 12 = 31 := by rw [Cal.len_of y 12 h.y0 h.y1 (by omega) (by omega)]; simp [Cal.ln]
  by_cases g : Cal.num y 12 31 ≤ 1048575
  · have hb := ofB_mk (y := y) (m := 12) (k := 31) ⟨by omega, by omega, g⟩
    rw [orMax_yes hb]
    exact ⟨12, 31, Cal.DateIs.of_good (ofB_good hb), by omega, g, by omega⟩
  · have hb := ofB_no (y := y) (m := 12) (k := 31) (by rintro ⟨_, _, x⟩; exact g x)
    rw [orMax_no hb]
    have : y = 4470 := by
      by_cases c : y < 4470
      · have := Cal.ys_mono (y + 1) 4470 (by have := h.y0; omega) (by omega); have := Cal.ys_last.1; omega
      · have := h.y1; omega
    subst this
    exact ⟨11, 25, ⟨by decide, by decide, by decide, by decide, by decide, by decide, by decide⟩, h1, by omega, by omega⟩
end Go.Proofs.YtbllolalfmgfoaaDoor
