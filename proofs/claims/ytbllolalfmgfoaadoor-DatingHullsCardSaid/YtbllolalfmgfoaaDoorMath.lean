/- Plain facts on the Gregorian calendar: leap years, the first day of a year, lengths of months. No program is named here. -/
namespace Go.Proofs.YtbllolalfmgfoaaDoor.Cal
/-- 1 for a leap year, 0 for another (years from 0 on). -/
def lp (y : Int) : Int := if (y % 4 = 0 ∧ ¬ y % 100 = 0) ∨ y % 400 = 0 then 1 else 0
/-- the first day of a year -/
def ys (y : Int) : Int := 365 * (y - 1600) + (y - 1600 + 3) / 4 - (y - 1600 + 99) / 100 + (y - 1600 + 399) / 400
/-- days of a year ahead of a month (1 to 13) -/
def cum (y m : Int) : Int :=
  if m ≤ 1 then 0 else if m = 2 then 31 else
  (if m = 3 then 59 else if m = 4 then 90 else if m = 5 then 120 else if m = 6 then 151 else if m = 7 then 181 else if m = 8 then 212
   else if m = 9 then 243 else if m = 10 then 273 else if m = 11 then 304 else if m = 12 then 334 else 365) + lp y
/-- length of a month (1 to 12) -/
def ln (y m : Int) : Int := if m = 2 then 28 + lp y else if m = 4 ∨ m = 6 ∨ m = 9 ∨ m = 11 then 30 else 31
/-- Length -/
def len (y m : Int) : Int := if 1600 ≤ y ∧ y ≤ 4470 ∧ 1 ≤ m ∧ m ≤ 12 then ln y m else 0
def num (y m k : Int) : Int := ys y + cum y m + k - 1
/-- there is such a date from day 0 to the last one -/
def good (y m k : Int) : Prop := 1 ≤ k ∧ k ≤ len y m ∧ num y m k ≤ 1048575
structure DateIs (d y m k : Int) : Prop where
  y0 : 1600 ≤ y
  y1 : y ≤ 4470
  m0 : 1 ≤ m
  m1 : m ≤ 12
  k0 : 1 ≤ k
  k1 : k ≤ ln y m
  eq : num y m k = d

theorem lp_01 (y : Int) : 0 ≤ lp y ∧ lp y ≤ 1 := by unfold lp; split <;> omega
theorem lp_per (y : Int) : lp (y + 400) = lp y := by
  unfold lp
  have e1 : (y + 400) % 4 = y % 4 := by omega
  have e2 : (y + 400) % 100 = y % 100 := by omega
  have e3 : (y + 400) % 400 = y % 400 := by omega
  rw [e1, e2, e3]
theorem ys_succ (y : Int) (_h : 1600 ≤ y) : ys (y + 1) = ys y + 365 + lp y := by
  unfold ys lp
  split
  · omega
  · omega
theorem ys_per (y : Int) : ys (y + 400) = ys y + 146097 := by unfold ys; omega
theorem ys_bd (y : Int) (h : 1600 ≤ y) : 365 * (y - 1600) ≤ ys y ∧ ys y ≤ 366 * (y - 1600) := by unfold ys; omega
theorem ys_mono (a b : Int) (_h : 1600 ≤ a) (k : a ≤ b) : ys a + 365 * (b - a) ≤ ys b := by unfold ys; omega
theorem ys_lt (a b : Int) (h : 1600 ≤ a) (k : a < b) : ys a + 365 + lp a ≤ ys b := by
  have e := ys_succ a h
  have := ys_mono (a + 1) b (by omega) (by omega)
  omega
theorem ys_last : ys 4470 = 1048247 ∧ ys 4471 = 1048612 := by decide
theorem ln_bd (y m : Int) : 28 ≤ ln y m ∧ ln y m ≤ 31 := by have := lp_01 y; unfold ln; split <;> (try split) <;> omega
theorem cum_succ (y m : Int) (h0 : 1 ≤ m) (h1 : m ≤ 12) : cum y (m + 1) = cum y m + ln y m := by
  have : m = 1 ∨ m = 2 ∨ m = 3 ∨ m = 4 ∨ m = 5 ∨ m = 6 ∨ m = 7 ∨ m = 8 ∨ m = 9 ∨ m = 10 ∨ m = 11 ∨ m = 12 := by omega
  rcases this with rfl | rfl | rfl | rfl | rfl | rfl | rfl | rfl | rfl | rfl | rfl | rfl <;> simp [cum, ln] <;> omega
theorem cum_13 (y : Int) : cum y 13 = 365 + lp y := by simp [cum]
theorem cum_1 (y : Int) : cum y 1 = 0 := by simp [cum]
theorem cum_mono (y a b : Int) (h0 : 1 ≤ a) (h : a < b) (h1 : b ≤ 13) : cum y a + ln y a ≤ cum y b := by
  rw [← cum_succ y a h0 (by omega)]
  have l := lp_01 y
  have : ∀ n : Nat, ∀ c : Int, 1 ≤ c → c + n ≤ 13 → cum y c ≤ cum y (c + n) := by
    intro n
    induction n with
    | zero => intro c _ _; simp
    | succ n ih =>
      intro c hc hn
      have i := ih c hc (by omega)
      have s := cum_succ y (c + n) (by omega) (by omega)
      have b := ln_bd y (c + n)
      rw [show c + ((n + 1 : Nat) : Int) = c + n + 1 from by omega]
      omega
  have := this (b - (a + 1)).toNat (a + 1) (by omega) (by omega)
  rwa [show a + 1 + ((b - (a + 1)).toNat : Int) = b from by omega] at this
theorem cum_bd (y m : Int) (_h0 : 1 ≤ m) (_h1 : m ≤ 13) : 0 ≤ cum y m ∧ cum y m ≤ 366 := by
  have := lp_01 y; unfold cum; repeat' split <;> omega
theorem len_of (y m : Int) (h : 1600 ≤ y) (h' : y ≤ 4470) (k : 1 ≤ m) (k' : m ≤ 12) : len y m = ln y m := by unfold len; rw [if_pos ⟨h, h', k, k'⟩]
theorem len_no (y m : Int) (h : ¬ (1600 ≤ y ∧ y ≤ 4470 ∧ 1 ≤ m ∧ m ≤ 12)) : len y m = 0 := by unfold len; rw [if_neg h]
theorem good_in {y m k : Int} (h : good y m k) : 1600 ≤ y ∧ y ≤ 4470 ∧ 1 ≤ m ∧ m ≤ 12 := by
  by_cases c : 1600 ≤ y ∧ y ≤ 4470 ∧ 1 ≤ m ∧ m ≤ 12
  · exact c
  · have := len_no y m c; have := h.1; have := h.2.1; omega
theorem DateIs.good {d y m k : Int} (h : DateIs d y m k) (hd : d ≤ 1048575) : good y m k := by
  refine ⟨h.k0, ?_, by rw [h.eq]; exact hd⟩
  rw [len_of y m h.y0 h.y1 h.m0 h.m1]; exact h.k1
theorem DateIs.of_good {y m k : Int} (h : Cal.good y m k) : DateIs (num y m k) y m k := by
  obtain ⟨a, b, c, e⟩ := good_in h
  have l := len_of y m a b c e
  have := h.2.1
  exact ⟨a, b, c, e, h.1, by omega, rfl⟩
/-- inside its year -/
theorem DateIs.year {d y m k : Int} (h : DateIs d y m k) : ys y ≤ d ∧ d < ys (y + 1) := by
  have := h.eq; unfold num at this
  have c := cum_bd y m h.m0 (by have := h.m1; omega)
  have := h.k0; have := h.k1
  have s := ys_succ y h.y0
  have t := cum_13 y
  have u := cum_mono y m 13 h.m0 (by have := h.m1; omega) (by omega)
  omega
theorem DateIs.uniq {d y m k y' m' k' : Int} (h : DateIs d y m k) (g : DateIs d y' m' k') : y = y' ∧ m = m' ∧ k = k' := by
  have a := h.year; have b := g.year
  have hy : y = y' := by
    by_cases c : y < y'
    · have := ys_lt y y' h.y0 c; have := ys_succ y h.y0; omega
    · by_cases c' : y' < y
      · have := ys_lt y' y g.y0 c'; have := ys_succ y' g.y0; omega
      · omega
  subst hy
  have e := h.eq; have e' := g.eq; unfold num at e e'
  have := h.k0; have := h.k1; have := g.k0; have := g.k1; have := h.m1; have := g.m1
  have hm : m = m' := by
    by_cases c : m < m'
    · have := cum_mono y m m' h.m0 c (by omega); omega
    · by_cases c' : m' < m
      · have := cum_mono y m' m g.m0 c' (by omega); omega
      · omega
  subst hm
  exact ⟨rfl, rfl, by omega⟩
theorem month_of (y r : Int) (h0 : 0 ≤ r) (h : r < 365 + lp y) : ∃ m k, 1 ≤ m ∧ m ≤ 12 ∧ 1 ≤ k ∧ k ≤ ln y m ∧ r = cum y m + k - 1 := by
  have : ∀ n : Nat, n ≤ 12 → r < cum y (n + 1) → ∃ m k, 1 ≤ m ∧ m ≤ 12 ∧ 1 ≤ k ∧ k ≤ ln y m ∧ r = cum y m + k - 1 := by
    intro n
    induction n with
    | zero => intro _ c; have := cum_1 y; simp at c; omega
    | succ n ih =>
      intro hn c
      by_cases c' : r < cum y (n + 1)
      · exact ih (by omega) c'
      · have s := cum_succ y (n + 1) (by omega) (by omega)
        refine ⟨n + 1, r - cum y (n + 1) + 1, by omega, by omega, by omega, ?_, by omega⟩
        rw [show ((n + 1 : Nat) : Int) + 1 = (n : Int) + 1 + 1 from by omega] at c
        omega
  exact this 12 (by omega) (by rw [show ((12 : Nat) : Int) + 1 = 13 from rfl, cum_13]; exact h)
theorem exists_date (d : Int) (h0 : 0 ≤ d) (h1 : d ≤ 1048575) : ∃ y m k, DateIs d y m k := by
  have : ∀ n : Nat, d < ys (1600 + n) → ∃ y, 1600 ≤ y ∧ ys y ≤ d ∧ d < ys (y + 1) := by
    intro n
    induction n with
    | zero => intro c; have : ys 1600 = 0 := by decide
              simp at c; omega
    | succ n ih =>
      intro c
      by_cases c' : d < ys (1600 + n)
      · exact ih c'
      · exact ⟨1600 + n, by omega, by omega, by rw [show (1600 : Int) + n + 1 = 1600 + ((n + 1 : Nat) : Int) from by omega]; exact c⟩
  obtain ⟨y, hy, a, b⟩ := this 2871 (by have := ys_last.2; show d < ys 4471; omega)
  have s := ys_succ y hy
  have hy' : y ≤ 4470 := by
    by_cases c : 4470 < y
    · have := ys_mono 4471 y (by omega) (by omega); have := ys_last.2; omega
    · omega
  obtain ⟨m, k, p, q, r, t, e⟩ := month_of y (d - ys y) (by omega) (by omega)
  exact ⟨y, m, k, hy, hy', p, q, r, t, by unfold num; omega⟩
end Go.Proofs.YtbllolalfmgfoaaDoor.Cal
