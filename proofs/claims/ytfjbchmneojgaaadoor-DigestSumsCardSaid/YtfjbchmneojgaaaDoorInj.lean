/- Different states are permuted to different ones. -/
import Derived.Test.YtfjbchmneojgaaaDoorAwake
namespace Go.Proofs.YtfjbchmneojgaaaDoor
open Go.RowKit

theorem rot_get (x : BitVec 64) (k i : Nat) (hi : i < 64) : (x.rotateLeft k).getLsbD i = x.getLsbD ((i + 64 - k % 64) % 64) := by
  rw [BitVec.getLsbD_rotateLeft]
  by_cases a : i < k % 64
  · rw [decide_eq_true a, cond_true, show (i + 64 - k % 64) % 64 = 64 - k % 64 + i from by omega]
  · rw [decide_eq_false a, cond_false, decide_eq_true hi, Bool.true_and, show (i + 64 - k % 64) % 64 = i - k % 64 from by omega]
theorem rot_xor (x y : BitVec 64) (k : Nat) : (x ^^^ y).rotateLeft k = x.rotateLeft k ^^^ y.rotateLeft k := by
  apply BitVec.eq_of_getLsbD_eq
  intro i hi
  rw [BitVec.getLsbD_xor, rot_get _ _ _ hi, rot_get _ _ _ hi, rot_get _ _ _ hi, BitVec.getLsbD_xor]
theorem rot_two (x : BitVec 64) (k : Nat) : (x.rotateLeft k).rotateLeft k = x.rotateLeft (2 * k) := by
  apply BitVec.eq_of_getLsbD_eq
  intro i hi
  rw [rot_get _ _ _ hi, rot_get _ _ _ (Nat.mod_lt _ (by decide)), rot_get _ _ _ hi]
  congr 1
  omega
theorem rot_inj {x y : BitVec 64} {k : Nat} (h : x.rotateLeft k = y.rotateLeft k) : x = y := by
  apply BitVec.eq_of_getLsbD_eq
  intro i hi
  have := congrArg (fun v => v.getLsbD ((i + k % 64) % 64)) h
  rw [rot_get _ _ _ (Nat.mod_lt _ (by decide)), rot_get _ _ _ (Nat.mod_lt _ (by decide)), show ((i + k % 64) % 64 + 64 - k % 64) % 64 = i from by omega] at this
  exact this

theorem dbl {c : Nat → BitVec 64} {a b : Nat} (h : ∀ n, c n = c (n + 4 * a) ^^^ (c (n + a)).rotateLeft b) :
    ∀ n, c n = c (n + 4 * (2 * a)) ^^^ (c (n + 2 * a)).rotateLeft (2 * b) := by
  intro n
  have e1 := h n
  rw [h (n + 4 * a), h (n + a), rot_xor, rot_two] at e1
  rw [show n + 4 * a + 4 * a = n + 4 * (2 * a) from by omega, show n + 4 * a + a = n + a + 4 * a from by omega, show n + a + a = n + 2 * a from by omega] at e1
  rw [e1]
  generalize (c (n + a + 4 * a)).rotateLeft b = y
  rw [BitVec.xor_assoc, ← BitVec.xor_assoc y y, BitVec.xor_self, BitVec.zero_xor]
theorem five : ∀ a b c d e : Bool, a = (b ^^ e) → b = (c ^^ a) → c = (d ^^ b) → d = (e ^^ c) → e = (a ^^ d) → a = false ∧ b = false ∧ c = false ∧ d = false ∧ e = false := by decide
/-- Column parities that are their own change are zero. -/
theorem parity_zero {C : Nat → BitVec 64} (h : ∀ x, x < 5 → C x = C ((x + 4) % 5) ^^^ (C ((x + 1) % 5)).rotateLeft 1) : ∀ x, x < 5 → C x = 0 := by
  have h1 : ∀ n, (fun n => C (n % 5)) n = (fun n => C (n % 5)) (n + 4 * 1) ^^^ ((fun n => C (n % 5)) (n + 1)).rotateLeft 1 := fun n => by
    have := h (n % 5) (Nat.mod_lt _ (by decide))
    rw [show (n % 5 + 4) % 5 = (n + 4 * 1) % 5 from by omega, show (n % 5 + 1) % 5 = (n + 1) % 5 from by omega] at this
    exact this
  have h2 := dbl h1
  have h4 := dbl h2
  have h8 := dbl h4
  have h16 := dbl h8
  have h32 := dbl h16
  have h64 := dbl h32
  have r64 : ∀ x : BitVec 64, x.rotateLeft 64 = x := fun x => by
    apply BitVec.eq_of_getLsbD_eq
    intro i hi
    rw [rot_get _ _ _ hi, show (i + 64 - 64 % 64) % 64 = i from by omega]
  have k0 := h64 0
  have k1 := h64 1
  have k2 := h64 2
  have k3 := h64 3
  have k4 := h64 4
  simp only [Nat.reduceMul, Nat.reduceAdd, Nat.reduceMod, r64] at k0 k1 k2 k3 k4
  have z : ∀ i, i < 64 → (C 0).getLsbD i = false ∧ (C 1).getLsbD i = false ∧ (C 2).getLsbD i = false ∧ (C 3).getLsbD i = false ∧ (C 4).getLsbD i = false := fun i _ => by
    have g0 := congrArg (fun v => v.getLsbD i) k0
    have g1 := congrArg (fun v => v.getLsbD i) k1
    have g2 := congrArg (fun v => v.getLsbD i) k2
    have g3 := congrArg (fun v => v.getLsbD i) k3
    have g4 := congrArg (fun v => v.getLsbD i) k4
    simp only [BitVec.getLsbD_xor] at g0 g1 g2 g3 g4
    exact five _ _ _ _ _ g0 g1 g2 g3 g4
  intro x hx
  apply BitVec.eq_of_getLsbD_eq
  intro i hi
  obtain ⟨a, b, c, d, e⟩ := z i hi
  match x, hx with
  | 0, _ => simp [a]
  | 1, _ => simp [b]
  | 2, _ => simp [c]
  | 3, _ => simp [d]
  | 4, _ => simp [e]

theorem xor_left {a b c : BitVec 64} (h : a ^^^ b = a ^^^ c) : b = c := by
  have := congrArg (fun v => a ^^^ v) h
  simpa [← BitVec.xor_assoc] using this
theorem xor_zero' {a b : BitVec 64} (h : a ^^^ b = 0) : a = b := by
  have := congrArg (fun v => v ^^^ b) h
  simpa [BitVec.xor_assoc] using this
/-- Step 1. -/
theorem theta_inj {f g : Nat → BitVec 64} (h : ∀ i, i < 25 → f i ^^^ chD f (i % 5) = g i ^^^ chD g (i % 5)) : Same f g := by
  let C : Nat → BitVec 64 := fun x => chC f x ^^^ chC g x
  have d : ∀ x, chD f x ^^^ chD g x = C ((x + 4) % 5) ^^^ (C ((x + 1) % 5)).rotateLeft 1 := fun x => by
    show _ = (chC f ((x + 4) % 5) ^^^ chC g ((x + 4) % 5)) ^^^ (chC f ((x + 1) % 5) ^^^ chC g ((x + 1) % 5)).rotateLeft 1
    rw [rot_xor]
    unfold chD
    ac_rfl
  have u : ∀ i, i < 25 → f i ^^^ g i = chD f (i % 5) ^^^ chD g (i % 5) := fun i hi => by
    have := congrArg (fun v => v ^^^ (g i ^^^ chD f (i % 5))) (h i hi)
    have e1 : f i ^^^ chD f (i % 5) ^^^ (g i ^^^ chD f (i % 5)) = f i ^^^ g i := by
      rw [show f i ^^^ chD f (i % 5) ^^^ (g i ^^^ chD f (i % 5)) = (f i ^^^ g i) ^^^ (chD f (i % 5) ^^^ chD f (i % 5)) from by ac_rfl]; simp
    have e2 : g i ^^^ chD g (i % 5) ^^^ (g i ^^^ chD f (i % 5)) = chD f (i % 5) ^^^ chD g (i % 5) := by
      rw [show g i ^^^ chD g (i % 5) ^^^ (g i ^^^ chD f (i % 5)) = (chD f (i % 5) ^^^ chD g (i % 5)) ^^^ (g i ^^^ g i) from by ac_rfl]; simp
    rw [e1, e2] at this
    exact this
  have c : ∀ x, x < 5 → C x = C ((x + 4) % 5) ^^^ (C ((x + 1) % 5)).rotateLeft 1 := fun x hx => by
    have w : ∀ y, y < 5 → f (x + 5 * y) ^^^ g (x + 5 * y) = C ((x + 4) % 5) ^^^ (C ((x + 1) % 5)).rotateLeft 1 := fun y hy => by
      rw [u (x + 5 * y) (by omega), show (x + 5 * y) % 5 = x from by omega, d]
    have w0 := w 0 (by decide)
    have w1 := w 1 (by decide)
    have w2 := w 2 (by decide)
    have w3 := w 3 (by decide)
    have w4 := w 4 (by decide)
    simp only [Nat.mul_zero, Nat.add_zero, Nat.reduceMul] at w0 w1 w2 w3 w4
    show chC f x ^^^ chC g x = _
    generalize C ((x + 4) % 5) ^^^ (C ((x + 1) % 5)).rotateLeft 1 = r at w0 w1 w2 w3 w4
    unfold chC
    rw [show f x ^^^ f (x + 5) ^^^ f (x + 10) ^^^ f (x + 15) ^^^ f (x + 20) ^^^ (g x ^^^ g (x + 5) ^^^ g (x + 10) ^^^ g (x + 15) ^^^ g (x + 20)) = (f x ^^^ g x) ^^^ (f (x + 5) ^^^ g (x + 5)) ^^^ (f (x + 10) ^^^ g (x + 10)) ^^^ (f (x + 15) ^^^ g (x + 15)) ^^^ (f (x + 20) ^^^ g (x + 20)) from by ac_rfl, w0, w1, w2, w3, w4]
    simp
  have z := parity_zero c
  intro i hi
  apply xor_zero'
  rw [u i hi, d, z _ (Nat.mod_lt _ (by decide)), z _ (Nat.mod_lt _ (by decide))]
  simp [BitVec.rotateLeft, BitVec.rotateLeftAux]
theorem chi_bits : ∀ a b c d e a' b' c' d' e' : Bool, (a ^^ (!b && c)) = (a' ^^ (!b' && c')) → (b ^^ (!c && d)) = (b' ^^ (!c' && d')) → (c ^^ (!d && e)) = (c' ^^ (!d' && e')) → (d ^^ (!e && a)) = (d' ^^ (!e' && a')) → (e ^^ (!a && b)) = (e' ^^ (!a' && b')) → a = a' ∧ b = b' ∧ c = c' ∧ d = d' ∧ e = e' := by decide +kernel
/-- Step 3. -/
theorem chi_inj {b c : Nat → BitVec 64} (h : Same (chi b) (chi c)) : Same b c := by
  have row : ∀ y, y < 5 → b (5 * y) = c (5 * y) ∧ b (5 * y + 1) = c (5 * y + 1) ∧ b (5 * y + 2) = c (5 * y + 2) ∧ b (5 * y + 3) = c (5 * y + 3) ∧ b (5 * y + 4) = c (5 * y + 4) := fun y hy => by
    have v : ∀ x, x < 5 → ∀ k, k < 64 → ((b (5 * y + x)).getLsbD k ^^ (!(b (5 * y + (x + 1) % 5)).getLsbD k && (b (5 * y + (x + 2) % 5)).getLsbD k)) = ((c (5 * y + x)).getLsbD k ^^ (!(c (5 * y + (x + 1) % 5)).getLsbD k && (c (5 * y + (x + 2) % 5)).getLsbD k)) := fun x hx k hk => by
      have e := congrArg (fun w => w.getLsbD k) (h (5 * y + x) (by omega))
      unfold chi at e
      rw [show (5 * y + x) / 5 * 5 + ((5 * y + x) % 5 + 1) % 5 = 5 * y + (x + 1) % 5 from by omega, show (5 * y + x) / 5 * 5 + ((5 * y + x) % 5 + 2) % 5 = 5 * y + (x + 2) % 5 from by omega] at e
      simpa [BitVec.getLsbD_xor, BitVec.getLsbD_and, BitVec.getLsbD_not, hk] using e
    have bits : ∀ k, k < 64 → _ := fun k hk => chi_bits _ _ _ _ _ _ _ _ _ _ (v 0 (by decide) k hk) (v 1 (by decide) k hk) (v 2 (by decide) k hk) (v 3 (by decide) k hk) (v 4 (by decide) k hk)
    exact ⟨BitVec.eq_of_getLsbD_eq fun k hk => (bits k hk).1, BitVec.eq_of_getLsbD_eq fun k hk => (bits k hk).2.1, BitVec.eq_of_getLsbD_eq fun k hk => (bits k hk).2.2.1, BitVec.eq_of_getLsbD_eq fun k hk => (bits k hk).2.2.2.1, BitVec.eq_of_getLsbD_eq fun k hk => (bits k hk).2.2.2.2⟩
  intro i hi
  obtain ⟨r0, r1, r2, r3, r4⟩ := row (i / 5) (by omega)
  have m : i = 5 * (i / 5) ∨ i = 5 * (i / 5) + 1 ∨ i = 5 * (i / 5) + 2 ∨ i = 5 * (i / 5) + 3 ∨ i = 5 * (i / 5) + 4 := by omega
  rcases m with e | e | e | e | e <;> rw [e] <;> assumption
theorem src_onto : ∀ i : Fin 25, ∃ j : Fin 25, src j.val = i.val := by decide
theorem rd_inj {f g : Nat → BitVec 64} {c : BitVec 64} (h : Same (rdF f c) (rdF g c)) : Same f g := by
  have hc : Same (chi (mvB f (chD f))) (chi (mvB g (chD g))) := fun i hi => by
    have e := h i hi
    unfold rdF upd at e
    by_cases z : i = 0
    · rw [if_pos z, if_pos z, BitVec.xor_comm _ c, BitVec.xor_comm _ c] at e
      rw [z]; exact xor_left e
    · rw [if_neg z, if_neg z] at e; exact e
  have hm := chi_inj hc
  refine theta_inj fun i hi => ?_
  obtain ⟨j, hj⟩ := src_onto ⟨i, hi⟩
  have e := hm j.val j.isLt
  unfold mvB at e
  rw [show src j.val = i from hj] at e
  exact rot_inj e
theorem perm_inj {f g : Nat → BitVec 64} : ∀ n, Same (perm f n) (perm g n) → Same f g
  | 0, h => h
  | n + 1, h => perm_inj n (rd_inj h)
theorem perm_same {f g : Nat → BitVec 64} (h : Same f g) : ∀ n, Same (perm f n) (perm g n)
  | 0 => h
  | n + 1 => rd_same (perm_same h n) _
end Go.Proofs.YtfjbchmneojgaaaDoor
