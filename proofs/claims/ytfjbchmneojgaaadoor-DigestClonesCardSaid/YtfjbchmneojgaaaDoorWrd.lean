/- The contracts of word and takeBlock. -/
import Derived.Test.YtfjbchmneojgaaaDoorAb
namespace Go.Proofs.YtfjbchmneojgaaaDoor
open Go.RowKit

theorem word_step (b : Nat → Nat) (i : Nat) (hb : b i < 256) : bits .or .u64 (wd (wpart b i)) (IntKind.u64.wrap ((b i : Int) * 2 ^ (8 * i))) = wd (wpart b (i + 1)) := by
  have e : (b i : Int) = wd (BitVec.ofNat 64 (b i)) := by unfold wd; rw [BitVec.toNat_ofNat, Nat.mod_eq_of_lt (by omega)]
  rw [e, wd_shl, wd_or]; rfl

set_option maxRecDepth 100000 in
set_option maxHeartbeats 1000000 in
theorem word_any (t : ByteArray) (w : World) (ht : t.size = 8) :
    Calls Tryd.prog 36 #[.string t] w fun e w' => e = .returned (.int .u64 (wd (wpart (byt t) 8))) ∧ w = w' := by
  have hb := PlainAid.get_bt t
  have h8 : (t.size : Int) = 8 := by omega
  have HT := Lib.hid ht
  clear ht
  go_enter Tryd.func36, Tryd.ntmps36
  go_wp2_with fail
  go_loop [3, 5] (fun s3 s5 => ∃ i : Nat, i ≤ 8 ∧ s3 = .int .u64 (wd (wpart (byt t) i)) ∧ s5 = .int .i64 i) (fun _ s5 => 8 - (intOf s5).toNat)
  case atStart => exact ⟨0, by omega, rfl, rfl⟩
  case round =>
    obtain ⟨i, hi, rfl, rfl⟩ := hrel
    by_cases hlt : i < 8
    · have c0 : (0 : Int) ≤ (i : Int) := by omega
      have c1 : (i : Int) < (t.size : Int) := by omega
      have c2 : (i : Int) < 8 := by omega
      have r3 : IntKind.i64.wrap (8 * (i : Int)) = 8 * (i : Int) := IntWalk.i64_in _ ⟨by omega, by omega⟩
      have r4 : 0 ≤ 8 * (i : Int) := by omega
      have r5 : 8 * (i : Int) ≤ 64 := by omega
      have r6 : (8 * (i : Int)).toNat = 8 * i := by omega
      have bi := byt_is t i
      have bl := byt_lt t i
      have ST := Lib.hid (word_step (byt t) i bl)
      have q0 : (0 : Int) ≤ (byt t i : Int) := by omega
      have q1 : (byt t i : Int) < 256 := by omega
      have q2 : IntKind.u64.wrap (byt t i : Int) = (byt t i : Int) := IntWalk.u64_in _ ⟨by omega, by omega⟩
      clear bl
      go_wp2_with fail
      go_round
      case rel => exact ⟨i + 1, by omega, by first | (rw [← ST.out]; done) | (rw [← ST.out]; simp [*]; done), by go_num⟩
      case measure => simp [intOf]; omega
    · obtain rfl : i = 8 := by omega
      go_wp2_with fail
      go_ret
      exact ⟨rfl, rfl⟩

theorem word_still (t : ByteArray) (w : World) (ht : t.size = 8) :
    Calls Tryd.prog 36 #[.string t] w fun e w' => e = .returned (.int .u64 (wd (wpart (byt t) 8))) ∧ w' = w :=
  (word_any t w ht).mono fun _ _ ⟨a, b⟩ => ⟨a, b.symm⟩
theorem wpart_congr {a b : Nat → Nat} : ∀ k, (∀ j, j < k → a j = b j) → wpart a k = wpart b k
  | 0, _ => rfl
  | k + 1, h => by
    show wpart a k ||| (BitVec.ofNat 64 (a k) <<< (8 * k)) = wpart b k ||| (BitVec.ofNat 64 (b k) <<< (8 * k))
    rw [wpart_congr k (fun j hj => h j (by omega)), h k (by omega)]
theorem byt_ext (s : ByteArray) (i n j : Nat) (h : i + n ≤ s.size) (hj : j < n) : byt (s.extract i (i + n)) j = byt s (i + j) := by
  have hz : (s.extract i (i + n)).size = n := by rw [ByteArray.size_extract]; omega
  obtain ⟨_, e1, n1⟩ := byt_get (s.extract i (i + n)) j (by omega)
  obtain ⟨_, e2, n2⟩ := byt_get s (i + j) (by omega)
  rw [← n1, ← n2]
  have : (s.extract i (i + n)).data.toList[j]? = s.data.toList[i + j]? := by
    rw [ByteArray.data_extract, Array.toList_extract, List.extract_eq_take_drop, List.getElem?_take, if_pos (by omega), List.getElem?_drop]
  rw [e1, e2] at this
  rw [Option.some.inj this]

/-- Word i of a block is taken in. -/
theorem HR.word {w : World} {g n : Nat} {f : Nat → BitVec 64} (h : HR w g f n) (i : Nat) (hi : i < 25) (v : BitVec 64) : HR (w.setCell ⟨g, i, none⟩ (.int .u64 (wd v))) g (upd f i v) n := by
  have hc : ∀ j, j < 25 → w.cell? ⟨g, j, none⟩ = some (.int .u64 (wd (f j))) := fun j hj => by
    have := h.s j (.int .u64 (wd (f j))) (by unfold vecL; rw [List.getElem?_map, List.getElem?_range hj]; rfl)
    rwa [Nat.zero_add] at this
  refine ⟨fun j u hj => ?_, ?_, (show (w.setCells g i [.int .u64 (wd v)]).there g 0 26 from World.there_setCells h.t _ _ _), by simpa [World.setCell] using h.lt, h.r.setCell _ _⟩
  · have l : j < 25 := by
      have := (List.getElem?_eq_some_iff.1 hj).1
      rwa [vecL_len] at this
    unfold vecL at hj
    rw [List.getElem?_map, List.getElem?_range l] at hj
    have hj := Option.some.inj hj
    subst hj
    rw [Nat.zero_add]
    by_cases c : j = i
    · subst c
      have o := (h.t j (by omega)).1
      rw [Nat.zero_add] at o
      rw [World.cell?_setCell_same' _ _ _ o]; simp [upd]
    · rw [World.cell?_setCell_other _ _ _ _ (fun q => by injection q with _ q _; exact c q.symm), hc j l]; simp [upd, c]
  · rw [World.cell?_setCell_other _ _ _ _ (fun q => by injection q with _ q _; omega)]; exact h.c

set_option maxRecDepth 100000 in
set_option maxHeartbeats 4000000 in
theorem takeBlock_any (f : Nat → BitVec 64) (n g : Nat) (s : ByteArray) (V w : World) (hT : Tabs V) (hV : Below V.heap.size V w) (hgV : V.heap.size ≤ g) (hR : HR w g f n) (hs : s.size = 136) (hn : n ≤ 4611686018427387904) :
    Calls Tryd.prog 34 #[.pointer (some ⟨g, 0, none⟩), .string s] w fun e w' => e = .returned (.tuple #[]) ∧ HR w' g (perm (mix f (byt s) 17) 24) (n + 136) ∧ But g w w' := by
  have U := Tryd.underlying23
  have h8 : (s.size : Int) = 136 := by omega
  have HS := Lib.hid hs
  have HT := Lib.hid hT
  have HV := Lib.hid hV
  clear hs hT hV
  go_enter Tryd.func34, Tryd.ntmps34
  go_wp2_with fail
  go_loopw [4, 5] (fun _ s5 wr => ∃ i : Nat, i ≤ 17 ∧ s5 = .int .i64 i ∧ HR wr g (mix f (byt s) i) n ∧ But g w wr) (fun _ s5 _ => 17 - (intOf s5).toNat)
  case atStart => exact ⟨0, by omega, rfl, by rw [show mix f (byt s) 0 = f from by funext j; unfold mix; rw [if_neg (Nat.not_lt_zero _)]]; exact hR, But.refl _ _⟩
  case round =>
    obtain ⟨i, hi, rfl, hRi, B⟩ := hrel
    by_cases hlt : i < 17
    · have c0 : (0 : Int) ≤ (i : Int) := by omega
      have c1 : (i : Int) < 17 := by omega
      have c2 : (i : Int) < 25 := by omega
      have r3 : IntKind.i64.wrap (8 * (i : Int)) = 8 * (i : Int) := IntWalk.i64_in _ ⟨by omega, by omega⟩
      have r4 : 0 ≤ 8 * (i : Int) := by omega
      have r7 : IntKind.i64.wrap (8 * (i : Int) + 8) = 8 * (i : Int) + 8 := IntWalk.i64_in _ ⟨by omega, by omega⟩
      have r8 : 8 * (i : Int) ≤ 8 * (i : Int) + 8 := by omega
      have r9 : 8 * (i : Int) + 8 ≤ (s.size : Int) := by omega
      have r10 : 8 * (i : Int) + 8 ≤ 136 := by omega
      have r6 : (8 * (i : Int)).toNat = 8 * i := by omega
      have r11 : (8 * (i : Int) + 8).toNat = 8 * i + 8 := by omega
      have y0 := hRi.s i (.int .u64 (wd (mix f (byt s) i i))) (by unfold vecL; rw [List.getElem?_map, List.getElem?_range (by omega)]; rfl)
      rw [Nat.zero_add, mix_at] at y0
      have z0 := (hRi.t i (by omega)).2
      rw [Nat.zero_add] at z0
      have hz : (s.extract (8 * i) (8 * i + 8)).size = 8 := by rw [ByteArray.size_extract]; have := HS.out; omega
      have HW := Lib.hid (fun w => word_still (s.extract (8 * i) (8 * i + 8)) w hz)
      rw [wpart_congr 8 (fun j hj => byt_ext s (8 * i) 8 j (by have := HS.out; omega) hj)] at HW
      have HH := Lib.hid hRi
      have HB := Lib.hid B
      clear hRi B hR hz
      go_wp2_with fail
      go_still_tail 18, (by kernel_rfl)
      clear r3 r4 r6 r7 r8 r9 r10 r11
      still_call (HW.out _)
      repeat still_step
      refine wpStill_nil ?_
      go_wp2_with fail
      go_roundw
      case rel =>
        refine ⟨i + 1, by omega, by go_num, ?_, ?_⟩
        · have := (HH.out.drew.word i (by omega) (f i ^^^ wpart (fun j => byt s (8 * i + j)) 8))
          rw [mix_next] at this
          simp only [wd_xor]
          exact this
        · exact HB.out.trans ((But.drew g wr).trans (But.setCell g i _ _))
      case measure => simp [intOf]; omega
    · obtain rfl : i = 17 := by omega
      have I := infoL (mix f (byt s) 17)
      have r0 := hRi.s
      have HTw := Lib.hid (HT.out.but HV.out hgV B)
      have HH := Lib.hid hRi
      have HB := Lib.hid B
      clear hRi B hR hlt hi
      generalize hF : mix f (byt s) 17 = F at *
      have EF := Lib.hid hF
      clear hF
      have HPm := fun V hV => Permute_any F V hV
      generalize hG : perm F 24 = G at *
      have EG := Lib.hid hG
      clear hG
      have HPm := Lib.hid HPm
      go_wp2_with (first | (refine wpList_load_mid rfl 23 _ rfl g 0 rfl (vecL 25 F) _ r0 U rfl I ?_))
      refine (HPm.out _ HTw.out).mono ?_
      rintro e w1 ⟨rfl, hb1⟩
      have H1 := HH.out.below hb1
      have B1 := Lib.hid (HB.out.trans ((But.of_below hb1).trans (But.setCells g (vecL 25 G) 0 w1)))
      have t1 : w1.there g 0 25 := fun j hj => H1.t j (by omega)
      have H2 := Lib.hid (H1.state G)
      clear hb1 r0 HH HB H1
      go_wp2_with (first | (refine wpList_store_mid rfl 23 _ _ rfl g 0 (vec 25 G) rfl rfl (by rw [vec_size]; exact t1) (by rw [vec_size]; kernel_rfl) (vec_one _ _) ?_; rw [vec_list]; generalize w1.setCells g 0 (vecL 25 G) = w2 at *; have c2 := H2.out.c; have o2 := (H2.out.t 25 (by omega)).2; rw [Nat.zero_add] at o2))
      refine bodyPost_end (results_none (by kernel_rfl) _ _ _) rfl ⟨rfl, ?_, B1.out.trans (But.setCell g 25 _ _)⟩
      have h := H2.out.count (n + 136)
      rw [EF.out, EG.out]
      exact_mod_cast h
end Go.Proofs.YtfjbchmneojgaaaDoor
