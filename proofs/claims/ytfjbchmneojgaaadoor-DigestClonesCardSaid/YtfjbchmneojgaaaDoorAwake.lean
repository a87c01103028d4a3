/- The laws' common test: the example of the chapter holds. -/
import Derived.Test.YtfjbchmneojgaaaDoorAbc
namespace Go.Proofs.YtfjbchmneojgaaaDoor
open Go.RowKit

theorem chC_same {f g : Nat → BitVec 64} (h : Same f g) (x : Nat) (hx : x < 5) : chC f x = chC g x := by
  unfold chC
  rw [h x (by omega), h (x + 5) (by omega), h (x + 10) (by omega), h (x + 15) (by omega), h (x + 20) (by omega)]
theorem chD_same {f g : Nat → BitVec 64} (h : Same f g) (x : Nat) : chD f x = chD g x := by
  unfold chD
  rw [chC_same h _ (Nat.mod_lt _ (by decide)), chC_same h _ (Nat.mod_lt _ (by decide))]
theorem mvB_same {f g : Nat → BitVec 64} (h : Same f g) (j : Nat) (hj : j < 25) : mvB f (chD f) j = mvB g (chD g) j := by
  unfold mvB
  rw [h _ (src_lt j hj), chD_same h]
theorem chi_same {f g : Nat → BitVec 64} (h : Same f g) (j : Nat) (hj : j < 25) : chi f j = chi g j := by
  unfold chi
  rw [h j hj, h (j / 5 * 5 + (j % 5 + 1) % 5) (by omega), h (j / 5 * 5 + (j % 5 + 2) % 5) (by omega)]
theorem rd_same {f g : Nat → BitVec 64} (h : Same f g) (c : BitVec 64) : Same (rdF f c) (rdF g c) := by
  have m : Same (mvB f (chD f)) (mvB g (chD g)) := fun j hj => mvB_same h j hj
  intro i hi
  unfold rdF upd
  by_cases z : i = 0
  · rw [if_pos z, if_pos z, chi_same m 0 (by omega)]
  · rw [if_neg z, if_neg z, chi_same m i hi]
theorem Same.trans {f g h : Nat → BitVec 64} (a : Same f g) (b : Same g h) : Same f h := fun i hi => (a i hi).trans (b i hi)
theorem step {f : Nat → BitVec 64} {k : Nat} {l m : List Nat} (h : Same (perm f k) (st l)) (r : ∀ i : Fin 25, rdF (st l) (rcN k) i.val = st m i.val) : Same (perm f (k + 1)) (st m) :=
  (rd_same h _).trans fun i hi => r ⟨i, hi⟩
theorem abc_end : Same (perm (put (put (puts (fun _ => 0) 0 abc.data.toList) (abc.size % 136) 6) 135 128) 24) (st s24) := by
  have h0 : Same (perm (put (put (puts (fun _ => 0) 0 abc.data.toList) (abc.size % 136) 6) 135 128) 0) (st s0) := fun i hi => z0 ⟨i, hi⟩
  exact step (step (step (step (step (step (step (step (step (step (step (step (step (step (step (step (step (step (step (step (step (step (step (step (h0) r0) r1) r2) r3) r4) r5) r6) r7) r8) r9) r10) r11) r12) r13) r14) r15) r16) r17) r18) r19) r20) r21) r22) r23
theorem digS_same {f g : Nat → BitVec 64} (h : Same f g) : digS f = digS g := by
  unfold digS digU dgB
  congr 2
  apply List.map_congr_left
  intro i hi
  have := List.mem_range.1 hi
  rw [h (i / 8) (by omega)]
def EX : ByteArray := ⟨#[51, 97, 57, 56, 53, 100, 97, 55, 52, 102, 101, 50, 50, 53, 98, 50, 48, 52, 53, 99, 49, 55, 50, 100, 54, 98, 100, 51, 57, 48, 98, 100, 56, 53, 53, 102, 48, 56, 54, 101, 51, 101, 57, 100, 53, 50, 53, 98, 52, 54, 98, 102, 101, 50, 52, 53, 49, 49, 52, 51, 49, 53, 51, 50]⟩
theorem digS_size (f : Nat → BitVec 64) : (digS f).size = 32 := by
  show (digU f 32).toArray.size = 32
  rw [List.size_toArray, digU_len]
theorem abc_hex : hexS (shortDig abc) = EX := by
  unfold shortDig
  rw [digS_same abc_end]
  apply ByteArray.ext
  decide +kernel

/-! Texts of digests. -/
theorem hexU_even : ∀ (l : List UInt8) (j : Nat), (hexU l)[2 * j]? = l[j]?.map fun b => UInt8.ofNat (hx (b.toNat / 16))
  | [], _ => rfl
  | _ :: _, 0 => rfl
  | b :: r, j + 1 => by
    show (_ :: _ :: hexU r)[2 * j + 2]? = _
    rw [List.getElem?_cons_succ, List.getElem?_cons_succ, hexU_even r j]; rfl
theorem hexU_odd : ∀ (l : List UInt8) (j : Nat), (hexU l)[2 * j + 1]? = l[j]?.map fun b => UInt8.ofNat (hx (b.toNat % 16))
  | [], _ => rfl
  | _ :: _, 0 => rfl
  | b :: r, j + 1 => by
    show (_ :: _ :: hexU r)[2 * j + 3]? = _
    rw [List.getElem?_cons_succ, List.getElem?_cons_succ, hexU_odd r j]; rfl
theorem ch_of {t : ByteArray} {k : Nat} {b : UInt8} (h : t.data.toList[k]? = some b) : ch t k = b.toNat := by
  have hk : k < t.size := by
    have := (List.getElem?_eq_some_iff.1 h).1
    rwa [Array.length_toList] at this
  have e : t[k] = b := by
    have : t.data.toList[k]? = some t[k] := by rw [List.getElem?_eq_getElem (by rw [Array.length_toList]; exact hk)]; rfl
    rw [h] at this
    exact (Option.some.inj this).symm
  unfold ch
  rw [← PlainAid.get_bt t k hk, e]; rfl
theorem at_ch {t : ByteArray} {k : Nat} (hk : k < t.size) : t.data.toList[k]? = some (UInt8.ofNat (ch t k)) := by
  have : t.data.toList[k]? = some t[k] := by rw [List.getElem?_eq_getElem (by rw [Array.length_toList]; exact hk)]; rfl
  rw [this, ch_of this, UInt8.ofNat_toNat]
theorem dv_hx : ∀ n : Fin 16, dv (hx n.val) = some n.val := by decide +kernel
theorem hx_dv : ∀ c : Fin 256, ∀ x : Fin 16, dv c.val = some x.val → hx x.val = c.val := by decide +kernel
theorem hexS_size {s : ByteArray} (hs : s.size = 32) : (hexS s).size = 64 := by
  show (hexU s.data.toList).toArray.size = 64
  rw [List.size_toArray, hexU_len, Array.length_toList, show s.data.size = 32 from hs]
theorem hex_chars {s : ByteArray} (hs : s.size = 32) (j : Nat) (hj : j < 32) : ch (hexS s) (2 * j) = hx (ch s j / 16) ∧ ch (hexS s) (2 * j + 1) = hx (ch s j % 16) := by
  have a := at_ch (t := s) (k := j) (by omega)
  have bl := ch_lt s j
  have e := hexU_even s.data.toList j
  have o := hexU_odd s.data.toList j
  rw [a] at e o
  have n : (UInt8.ofNat (ch s j)).toNat = ch s j := by rw [UInt8.toNat_ofNat', Nat.mod_eq_of_lt bl]
  simp only [Option.map_some, n] at e o
  constructor
  · rw [ch_of (t := hexS s) (show (hexU s.data.toList).toArray.toList[2 * j]? = _ from e), UInt8.toNat_ofNat', Nat.mod_eq_of_lt (hx_lt _ (by omega))]
  · rw [ch_of (t := hexS s) (show (hexU s.data.toList).toArray.toList[2 * j + 1]? = _ from o), UInt8.toNat_ofNat', Nat.mod_eq_of_lt (hx_lt _ (by omega))]
theorem good_hex {s : ByteArray} (hs : s.size = 32) : Good (hexS s) := by
  refine ⟨hexS_size hs, fun k hk => ?_⟩
  have bl := ch_lt s (k / 2)
  obtain ⟨e, o⟩ := hex_chars hs (k / 2) (by omega)
  by_cases p : k % 2 = 0
  · rw [show 2 * (k / 2) = k from by omega] at e
    rw [e, dv_hx ⟨ch s (k / 2) / 16, by omega⟩]; rfl
  · rw [show 2 * (k / 2) + 1 = k from by omega] at o
    rw [o, dv_hx ⟨ch s (k / 2) % 16, by omega⟩]; rfl
theorem ba_ext {a b : ByteArray} (h : a.data.toList = b.data.toList) : a = b := by
  apply ByteArray.ext
  exact Array.toList_inj.1 h
theorem unhex_hex {s : ByteArray} (hs : s.size = 32) : unhexS (hexS s) = s := by
  apply ba_ext
  show partU (hexS s) 64 = _
  apply List.ext_getElem?
  intro j
  by_cases hj : j < 32
  · rw [at_ch (by omega)]
    have bl := ch_lt s j
    obtain ⟨e, o⟩ := hex_chars hs j hj
    unfold partU
    rw [List.getElem?_map, List.getElem?_range hj, Option.map_some]
    congr 2
    unfold byteP dg
    rw [if_pos (by omega), e, o, dv_hx ⟨ch s j / 16, by omega⟩, dv_hx ⟨ch s j % 16, by omega⟩]
    show 16 * (ch s j / 16) + ch s j % 16 = ch s j
    omega
  · rw [List.getElem?_eq_none (by rw [partU_len]; omega), List.getElem?_eq_none (by rw [Array.length_toList]; show s.size ≤ j; omega)]
theorem unhexS_size (t : ByteArray) : (unhexS t).size = 32 := by
  show (partU t 64).toArray.size = 32
  rw [List.size_toArray, partU_len]
theorem hex_unhex {t : ByteArray} (ht : Good t) : hexS (unhexS t) = t := by
  have hs := unhexS_size t
  apply ba_ext
  apply List.ext_getElem?
  intro k
  by_cases hk : k < 64
  · rw [at_ch (by rw [hexS_size hs]; exact hk), at_ch (by rw [ht.1]; exact hk)]
    congr 2
    obtain ⟨e, o⟩ := hex_chars hs (k / 2) (by omega)
    have hc : ch (unhexS t) (k / 2) = 16 * dg t (2 * (k / 2)) + dg t (2 * (k / 2) + 1) := by
      have : (unhexS t).data.toList[k / 2]? = some (UInt8.ofNat (byteP t 64 (k / 2))) := by
        show (partU t 64)[k / 2]? = _
        unfold partU
        rw [List.getElem?_map, List.getElem?_range (by omega), Option.map_some]
      rw [ch_of this, UInt8.toNat_ofNat', Nat.mod_eq_of_lt (byteP_lt t 64 (k / 2))]
      unfold byteP; rw [if_pos (by omega)]
    have d0 := dg_lt t (2 * (k / 2))
    have d1 := dg_lt t (2 * (k / 2) + 1)
    have back : ∀ m, m < 64 → hx (dg t m) = ch t m := fun m hm => by
      have g := ht.2 m hm
      obtain ⟨x, hx'⟩ := Option.isSome_iff_exists.1 g
      have : dg t m = x := by unfold dg; rw [hx']; rfl
      rw [this]
      exact hx_dv ⟨ch t m, ch_lt t m⟩ ⟨x, dv_lt hx'⟩ hx'
    by_cases p : k % 2 = 0
    · rw [show 2 * (k / 2) = k from by omega] at e hc d0 d1
      rw [e, hc, show (16 * dg t k + dg t (k + 1)) / 16 = dg t k from by omega]
      exact back k hk
    · rw [show 2 * (k / 2) + 1 = k from by omega] at o hc d1
      rw [o, hc, show (16 * dg t (2 * (k / 2)) + dg t k) % 16 = dg t k from by omega]
      exact back k hk
  · rw [List.getElem?_eq_none (by rw [Array.length_toList]; show (hexS (unhexS t)).size ≤ k; rw [hexS_size hs]; omega), List.getElem?_eq_none (by rw [Array.length_toList]; show t.size ≤ k; rw [ht.1]; omega)]

theorem Hex_yes (s : ByteArray) (w : World) (hs : s.size = 32) : Calls Tryd.prog 15 #[.string s] w fun e w' => e = .returned (.tuple #[.string (hexS s), .int .i64 0]) ∧ Below w.heap.size w w' :=
  (Hex_any s w).mono fun e w' ⟨h, b⟩ => by
    rcases h with ⟨n, _⟩ | ⟨_, h⟩
    · exact absurd hs n
    · exact ⟨h, b⟩
theorem Hex_no (s : ByteArray) (w : World) (hs : s.size ≠ 32) : Calls Tryd.prog 15 #[.string s] w fun e w' => e = .returned (.tuple #[.string ⟨#[]⟩, .int .i64 1]) ∧ Below w.heap.size w w' :=
  (Hex_any s w).mono fun e w' ⟨h, b⟩ => by
    rcases h with ⟨_, h⟩ | ⟨n, _⟩
    · exact ⟨h, b⟩
    · exact absurd n hs
theorem Parse_yes (t : ByteArray) (w : World) (ht : Good t) : Calls Tryd.prog 17 #[.string t] w fun e w' => e = .returned (.tuple #[.string (unhexS t), .int .i64 0]) ∧ Below w.heap.size w w' :=
  (Parse_any t w).mono fun e w' ⟨h, b⟩ => by
    rcases h with ⟨n, _⟩ | ⟨_, h⟩
    · exact absurd ht n
    · exact ⟨h, b⟩
theorem Parse_no (t : ByteArray) (w : World) (ht : ¬ Good t) : Calls Tryd.prog 17 #[.string t] w fun e w' => e = .returned (.tuple #[.string ⟨#[]⟩, .int .i64 3]) ∧ Below w.heap.size w w' :=
  (Parse_any t w).mono fun e w' ⟨h, b⟩ => by
    rcases h with ⟨_, h⟩ | ⟨n, _⟩
    · exact ⟨h, b⟩
    · exact absurd n ht

theorem abc_size : (shortDig abc).size = 32 := digS_size _
theorem EX_good : Good EX := by rw [← abc_hex]; exact good_hex abc_size
theorem EX_un : unhexS EX = shortDig abc := by rw [← abc_hex]; exact unhex_hex abc_size
theorem abc_short : abc.size < 136 := by decide
theorem awake_parts : ∃ D : ByteArray, (∀ u : World, Tabs u → Calls Tryd.prog 13 #[.string abc] u fun e w' => e = .returned (.string D) ∧ Below u.heap.size u w') ∧
    (∀ u : World, Calls Tryd.prog 15 #[.string D] u fun e w' => e = .returned (.tuple #[.string EX, .int .i64 0]) ∧ Below u.heap.size u w') ∧
    (∀ u : World, Calls Tryd.prog 17 #[.string EX] u fun e w' => e = .returned (.tuple #[.string D, .int .i64 0]) ∧ Below u.heap.size u w') := by
  refine ⟨shortDig abc, fun u h => Sum_short abc u h abc_short, fun u => ?_, fun u => ?_⟩
  · have h := Hex_yes (shortDig abc) u abc_size
    rw [abc_hex] at h
    exact h
  · have h := Parse_yes EX u EX_good
    rw [EX_un] at h
    exact h

set_option maxHeartbeats 1000000 in
theorem awake_any (w : World) (hT : Tabs w) :
    Calls Tryd.prog 10 #[] w fun e w' => e = .returned (.bool true) ∧ Below w.heap.size w w' := by
  obtain ⟨D, c1, c2, c3⟩ := awake_parts
  unfold EX at c2 c3
  unfold abc at c1
  have C1 := Lib.hid c1; have C2 := Lib.hid c2; have C3 := Lib.hid c3
  clear c1 c2 c3
  go_enter Tryd.func10, Tryd.ntmps10
  go_wp2_with fail
  refine (C1.out _ hT).mono ?_; rintro e w1 ⟨rfl, b1⟩
  go_wp2_with fail
  refine (C2.out _).mono ?_; rintro e w2 ⟨rfl, b2⟩
  go_wp2_with fail
  refine (C3.out _).mono ?_; rintro e w3 ⟨rfl, b3⟩
  have b13 := b1.trans ((b2.trans (b3.mono b2.size)).mono b1.size)
  go_wp2_with fail
  refine (C1.out _ (hT.below b13)).mono ?_; rintro e w4 ⟨rfl, b4⟩
  go_wp2_with fail
  go_ret
  exact ⟨rfl, b13.trans (b4.mono b13.size)⟩
end Go.Proofs.YtfjbchmneojgaaaDoor
