/- number: the text of a number from 1 to 999. -/
import Derived.Test.YtfgpmghaebdhpaaGreatDoorCA
import Derived.Test.YtfgpmghaebdhpaaGreatDoorRows
import Derived.WalkKit
import Derived.WalkSpells
import Derived.WalkSmall
import Derived.WalkArith
import Derived.Handy
import Derived.Lib.AppendIntMem
import Derived.Lib.Hide
import Derived.Shelf.Abstract
import Derived.Deep.LoopGhost
import Derived.Deep.Draws
namespace Go.Proofs.YtfgpmghaebdhpaaGreatDoor
open Go.RowKit Go.Shelf

/-- Above the variables that the library reads. -/
abbrev NB : Nat := max (max 0 3) (max 4 5) + 1
/-- What the library's variables hold. -/
structure Lw (w : World) : Prop where
  ml : ∃ m, w.cell? ⟨0, 0, none⟩ = some (.int .i64 m)
  es : ∃ te pe, w.cell? ⟨3, 0, none⟩ = some (.iface te pe)
  er : ∃ te pe, w.cell? ⟨4, 0, none⟩ = some (.iface te pe)
  tab : Lib.TabIs Tryz.prog w "internal/strconv.uint64pow10" .u64 Lib.pow10Tab
  n0 : NB ≤ w.heap.size
theorem globalTab : ∃ g, Tryz.prog.globalNamed "internal/strconv.uint64pow10" = some g ∧ g < NB := ⟨5, by kernel_rfl, by decide⟩
theorem Lw.below {w w' : World} {K : Nat} (h : Lw w) (hb : Below K w w') (hK : NB ≤ K) : Lw w' where
  ml := by obtain ⟨m, hm⟩ := h.ml; exact ⟨m, (hb.cell (p := ⟨0, 0, none⟩) (Nat.lt_of_lt_of_le (show 0 < NB by decide) hK)).trans hm⟩
  es := by obtain ⟨a, b, hm⟩ := h.es; exact ⟨a, b, (hb.cell (p := ⟨3, 0, none⟩) (Nat.lt_of_lt_of_le (show 3 < NB by decide) hK)).trans hm⟩
  er := by obtain ⟨a, b, hm⟩ := h.er; exact ⟨a, b, (hb.cell (p := ⟨4, 0, none⟩) (Nat.lt_of_lt_of_le (show 4 < NB by decide) hK)).trans hm⟩
  tab := by
    obtain ⟨g, hg, hl⟩ := globalTab
    exact var?_below hb hg (Nat.lt_of_lt_of_le hl hK) h.tab
  n0 := Nat.le_trans h.n0 hb.size

/-- The bytes of a number. -/
def dec (n : Nat) : List UInt8 := Lib.decDigits n
theorem dec1 {n : Nat} (h : n < 10) : dec n = [UInt8.ofNat (48 + n)] := by unfold dec; rw [Lib.decDigits, dif_pos h]
theorem dec2 {n : Nat} (h : 10 ≤ n) (g : n < 100) : dec n = [UInt8.ofNat (48 + n / 10), UInt8.ofNat (48 + n % 10)] := by
  unfold dec; rw [Lib.decDigits, dif_neg (by omega), show Lib.decDigits (n / 10) = dec (n / 10) from rfl, dec1 (by omega)]; rfl
theorem dec3 {n : Nat} (h : 100 ≤ n) (g : n < 1000) : dec n = [UInt8.ofNat (48 + n / 100), UInt8.ofNat (48 + n / 10 % 10), UInt8.ofNat (48 + n % 10)] := by
  unfold dec; rw [Lib.decDigits, dif_neg (by omega), show Lib.decDigits (n / 10) = dec (n / 10) from rfl, dec2 (by omega) (by omega), Nat.div_div_eq_div_mul]; rfl
theorem byte_nat {k : Nat} (h : k < 256) : (UInt8.ofNat k).toNat = k := by rw [UInt8.toNat_ofNat']; omega
theorem pu_step {acc k : Nat} {l : List UInt8} (ha : acc < 1000000) (hk : k < 10) : Lib.parseUint10 acc (UInt8.ofNat (48 + k) :: l) = Lib.parseUint10 (acc * 10 + k) l := by
  rw [Lib.parseUint10, byte_nat (by omega), if_pos ⟨by omega, by omega⟩, if_neg (by omega), if_neg (by omega)]
  congr 1; omega
theorem pu_dec {n : Nat} (h1 : 1 ≤ n) (h2 : n ≤ 999) : Lib.parseUint10 0 (dec n) = .ok n := by
  rcases (by omega : n < 10 ∨ (10 ≤ n ∧ n < 100) ∨ (100 ≤ n ∧ n < 1000)) with a | ⟨a, b⟩ | ⟨a, b⟩
  · rw [dec1 a, pu_step (by omega) a, Lib.parseUint10]; congr 1; omega
  · rw [dec2 a b, pu_step (by omega) (by omega), pu_step (by omega) (by omega), Lib.parseUint10]; congr 1; omega
  · rw [dec3 a b, pu_step (by omega) (by omega), pu_step (by omega) (by omega), pu_step (by omega) (by omega), Lib.parseUint10]; congr 1; omega
theorem dec_cons {n : Nat} (h2 : n ≤ 999) : ∃ k r, k < 10 ∧ dec n = UInt8.ofNat (48 + k) :: r := by
  rcases (by omega : n < 10 ∨ (10 ≤ n ∧ n < 100) ∨ (100 ≤ n ∧ n < 1000)) with a | ⟨a, b⟩ | ⟨a, b⟩
  · exact ⟨_, _, a, dec1 a⟩
  · exact ⟨_, _, by omega, dec2 a b⟩
  · exact ⟨_, _, by omega, dec3 a b⟩
theorem atoi_dec {n : Nat} (h1 : 1 ≤ n) (h2 : n ≤ 999) : Lib.atoiAll (dec n) = .ok (n : Int) := by
  obtain ⟨k, r, hk, e⟩ := dec_cons h2
  have p := pu_dec h1 h2
  have c : (UInt8.ofNat (48 + k)).toNat = 48 + k := byte_nat (by omega)
  rw [e] at p ⊢
  unfold Lib.atoiAll
  simp only [c]
  rw [if_neg (by omega)]
  unfold Lib.parseMag
  rw [if_neg (by simp), p]
  simp only
  rw [if_neg (by omega), if_neg (by omega), if_neg (by omega)]
theorem itoa_dec {n : Int} (h : 1 ≤ n) : Lib.itoa n = dec n.toNat := by unfold Lib.itoa dec; rw [if_neg (by omega)]
/-- What number returns. -/
def NumR (l : List UInt8) (v : Int) (ok : Bool) : Prop := (ok = true → 1 ≤ v ∧ v ≤ 999 ∧ dec v.toNat = l) ∧ ∀ n : Nat, 1 ≤ n → n ≤ 999 → dec n = l → ok = true ∧ v = n
theorem NumR.no {l : List UInt8} {v : Int} (h : ∀ n : Nat, 1 ≤ n → n ≤ 999 → dec n ≠ l) : NumR l v false := ⟨fun h => (by cases h), fun n a b c => absurd c (h n a b)⟩

set_option maxHeartbeats 1000000 in
theorem isNumber_any (n : Int) (w : World) : Calls Tryz.prog 77 #[.int .i64 n] w fun e w' => e = .returned (.bool (decide (1 ≤ n ∧ n ≤ 999))) ∧ w' = w := by
  by_cases a : 1 ≤ n
  · by_cases b : n ≤ 999
    · rw [decide_eq_true ⟨a, b⟩]
      go_enter Tryz.func77, Tryz.ntmps77
      go_wp2
      go_ret
      exact ⟨by first | rfl | simp, rfl⟩
    · rw [decide_eq_false (fun h => b h.2)]
      go_enter Tryz.func77, Tryz.ntmps77
      go_wp2
      go_ret
      exact ⟨by first | rfl | simp, rfl⟩
  · rw [decide_eq_false (fun h => a h.1)]
    go_enter Tryz.func77, Tryz.ntmps77
    go_wp2
    go_ret
    exact ⟨by first | rfl | simp, rfl⟩
/-- Atoi, in the three ways that it ends. -/
theorem Atoi_any (s : ByteArray) (hs : s.size ≤ 1000) (w : World) (hw : Lw w) :
    Calls Tryz.prog 76 #[.string s] w fun e w' => ((∃ v, e = .returned (.tuple #[.int .i64 v, .nilIface]) ∧ Lib.atoiAll s.data.toList = .ok v) ∨ (∃ v t p, e = .returned (.tuple #[.int .i64 v, .iface t p]) ∧ ∀ n, Lib.atoiAll s.data.toList ≠ .ok n)) ∧ Below w.heap.size w w' := by
  rcases h : Lib.atoiAll s.data.toList with v | _ | _
  ·
    refine (Any.strconv_Atoi_ok Tryz.laysC172 s (by omega) v h w).mono ?_
    rintro e w' ⟨rfl, rfl | ⟨t, rfl⟩⟩
    · exact ⟨Or.inl ⟨v, rfl, rfl⟩, Below.refl _ _⟩
    · exact ⟨Or.inl ⟨v, rfl, rfl⟩, Lib.bytesWorld_below _ _ _⟩
  ·
    obtain ⟨te, pe, hv⟩ := hw.es
    refine (Any.strconv_Atoi_syntax Tryz.laysC172 s (by omega) h _ w hv (Or.inr ⟨te, pe, rfl⟩)).mono ?_
    rintro e w' ⟨N, rfl, _, _, hb⟩
    exact ⟨Or.inr ⟨_, _, _, rfl, fun n hn => by cases hn⟩, hb⟩
  ·
    obtain ⟨te, pe, hv⟩ := hw.er
    refine (Any.strconv_Atoi_range Tryz.laysC172 s (by omega) h _ w hv (Or.inr ⟨te, pe, rfl⟩)).mono ?_
    rintro e w' ⟨N, rfl, _, _, hb⟩
    exact ⟨Or.inr ⟨_, _, _, rfl, fun n hn => by cases hn⟩, hb⟩

theorem eq_bytes (a b : ByteArray) : a = b ↔ a.data.toList = b.data.toList := by
  constructor
  · rintro rfl; rfl
  · intro h
    cases a; cases b
    simp at h
    rw [h]
set_option maxHeartbeats 2000000 in
theorem number_any (s : ByteArray) (hs : s.size ≤ 1000) (w : World) (hw : Lw w) :
    Calls Tryz.prog 69 #[.string s] w fun e w' => (∃ v ok, e = .returned (.tuple #[.int .i64 v, .bool ok]) ∧ NumR s.data.toList v ok) ∧ Below w.heap.size w w' := by
  have AT := Lib.hid (Atoi_any s hs w hw)
  have HW := Lib.hid hw
  clear hw
  go_enter Tryz.func69, Tryz.ntmps69
  go_wp2_with fail
  refine AT.out.mono ?_; rintro e w1 ⟨⟨v, rfl, ha⟩ | ⟨v, t, p, rfl, ha⟩, b1⟩
  · have IN := Lib.hid (fun V => isNumber_any v V)
    have HA := Lib.hid ha
    have B1 := Lib.hid b1
    have HW1 := Lib.hid (HW.out.below b1 HW.out.n0)
    clear ha b1 AT
    by_cases hv : 1 ≤ v ∧ v ≤ 999
    · rw [decide_eq_true hv] at IN
      have IT := Lib.hid (Any.strconv_Itoa Tryz.laysM171 v (by omega) (by omega) w1 HW1.out.tab)
      rw [itoa_dec hv.1] at IT
      have HV := Lib.hid hv
      clear hv
      go_wp2_with fail
      refine (IN.out _).mono ?_; rintro e w2 ⟨rfl, rfl⟩
      go_wp2_with fail
      refine IT.out.mono ?_; rintro e w3 ⟨rfl, k, os, hw3⟩
      have B3 := Lib.hid (B1.out.trans (show Below w.heap.size w2 w3 by rw [hw3]; exact Lib.below_grow w.heap.size w2 B1.out.size k os))
      have NU := Lib.hid (fun (ok : Bool) (h : ok = true ↔ dec v.toNat = s.data.toList) => show NumR s.data.toList v ok from ⟨fun hk => ⟨HV.out.1, HV.out.2, h.1 hk⟩, fun n n1 n2 e => by
        have h2 := HA.out
        rw [← e, atoi_dec n1 n2] at h2
        injection h2 with h2
        exact ⟨h.2 (by rw [← h2]; exact e), h2.symm⟩⟩)
      obtain ⟨t, ht0⟩ : ∃ t : ByteArray, t = ⟨(dec v.toNat).toArray⟩ := ⟨_, rfl⟩
      have TT := Lib.hid (show t = s ↔ dec v.toNat = s.data.toList by rw [eq_bytes, ht0])
      rw [← ht0]
      clear ht0
      clear hw3 IT HV
      by_cases ht : t = s
      · subst ht
        have NUt := Lib.hid (NU.out true ⟨fun _ => TT.out.1 rfl, fun _ => rfl⟩)
        go_wp2_with fail
        go_ret2
        exact ⟨⟨v, true, rfl, NUt.out⟩, B3.out⟩
      · have hts : (t.toList == s.toList) = false := by rw [ByteArray.toList_eq, ByteArray.toList_eq, beq_eq_false_iff_ne]; exact fun h => ht ((eq_bytes t s).2 h)
        have NUf := Lib.hid (NU.out false ⟨fun h => absurd h (by decide), fun h => absurd (TT.out.2 h) ht⟩)
        go_wp2_with fail
        go_ret2
        exact ⟨⟨v, false, rfl, NUf.out⟩, B3.out⟩
    · rw [decide_eq_false hv] at IN
      have NO := Lib.hid (NumR.no (l := s.data.toList) (v := v) (fun n n1 n2 e => by
        have h2 := HA.out
        rw [← e, atoi_dec n1 n2] at h2
        injection h2 with h2
        exact hv (by omega)))
      clear hv
      go_wp2_with fail
      refine (IN.out _).mono ?_; rintro e w2 ⟨rfl, rfl⟩
      go_wp2_with fail
      go_ret2
      exact ⟨⟨v, false, rfl, NO.out⟩, B1.out⟩
  · have NO := Lib.hid (NumR.no (l := s.data.toList) (v := v) (fun n n1 n2 e => ha n (by rw [← e]; exact atoi_dec n1 n2)))
    have B1 := Lib.hid b1
    clear ha b1 AT
    go_wp2_with fail
    go_ret2
    exact ⟨⟨v, false, rfl, NO.out⟩, B1.out⟩
end Go.Proofs.YtfgpmghaebdhpaaGreatDoor
