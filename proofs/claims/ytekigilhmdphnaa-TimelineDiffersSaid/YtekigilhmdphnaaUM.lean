/- Sets. -/
import Derived.Test.YtekigilhmdphnaaUL
namespace Go.Proofs.Ytekigilhmdphnaa
open Go.RowKit Go.Shelf

theorem Box3.isP {w : World} {B : Nat} {q : Pc} (h : Box3 w B q) : IsP w (some ⟨B, 0, none⟩) 1 1 (fun _ => q) := Or.inr ⟨_, rfl, by decide, fun _ => ⟨rfl, h.1, fun j hj => by
  obtain rfl : j = 0 := by omega
  exact h.2⟩⟩
theorem IsP.zero (w : World) : IsP w none 0 0 (fun _ => default) := Or.inl ⟨rfl, rfl, rfl⟩
/-- What the reference's Set and Clear return. -/
def RefR (P : Nat → Pc) (n : Nat) (f u : Int) (wl : List Pc) (w : World) (e : Ending) (w' : World) : Prop := ChR (chV P n f u) (((toL (fun k => clip u 1048576 (P k)) n).foldl putR []).foldl putR (wl.foldl putR ((toL (fun k => clip 0 f (P k)) n).foldl putR []))) e w' ∧ Below w.heap.size w w'

theorem ChR.shape {k : Int} {L : List Pc} {e : Ending} {w' : World} (h : ChR k L e w') : ∃ a b, e = .returned (.tuple #[a, .int .i64 b]) := by
  unfold ChR at h
  split at h
  · split at h
    · exact ⟨_, _, h⟩
    · obtain ⟨v, h, _⟩ := h
      exact ⟨_, _, h⟩
  · exact ⟨_, _, h⟩

set_option maxHeartbeats 2000000 in
theorem rSet_any (p : Option Addr) (n c : Nat) (P : Nat → Pc) (f u x : Int) (w : World) (hP : IsP w p n c P) :
    Calls Try.prog 21 #[.slice p n c, .agg #[.int .i64 f, .int .i64 u], .int .i64 x] w (RefR P n f u [⟨f, u, x⟩] w) := by
  have al := (Below.refl w.heap.size w).alloc (Nat.le_refl _) (.cells #[.int .i64 f, .int .i64 u] 33)
  have al2 := al.alloc (by simp) (.cells #[.int .i64 f, .int .i64 u, .int .i64 x] 47)
  have BX := Box3.new (w.alloc (.cells #[.int .i64 f, .int .i64 u] 33)) ⟨f, u, x⟩ 47
  have z : (w.alloc (.cells #[.int .i64 f, .int .i64 u] 33)).heap.size = w.heap.size + 1 := by simp
  rw [z] at BX
  have AL := Lib.hid al2
  have CH := Lib.hid (change_any p (some ⟨w.heap.size + 1, 0, none⟩) n c 1 1 P (fun _ => ⟨f, u, x⟩) f u _ (hP.below al2) BX.isP (Nat.le_refl 1))
  clear hP al al2 BX z
  go_enter Try.func21, Try.ntmps21
  go_wp2_with fail
  refine CH.out.mono ?_; rintro e w1 ⟨hc, hb⟩
  obtain ⟨x1, x2, rfl⟩ := hc.shape
  have RR := Lib.hid (show RefR P n f u [⟨f, u, x⟩] w (.returned (.tuple #[x1, .int .i64 x2])) w1 from ⟨hc, AL.out.trans (hb.mono AL.out.size)⟩)
  clear hc hb CH
  go_wp2_with fail
  go_ret2
  exact RR.out
set_option maxHeartbeats 2000000 in
theorem rClear_any (p : Option Addr) (n c : Nat) (P : Nat → Pc) (f u : Int) (w : World) (hP : IsP w p n c P) :
    Calls Try.prog 23 #[.slice p n c, .agg #[.int .i64 f, .int .i64 u]] w (RefR P n f u [] w) := by
  have al := (Below.refl w.heap.size w).alloc (Nat.le_refl _) (.cells #[.int .i64 f, .int .i64 u] 33)
  have AL := Lib.hid al
  have CH := Lib.hid (change_any p none n c 0 0 P (fun _ => default) f u _ (hP.below al) (IsP.zero _) (Nat.zero_le 1))
  clear hP al
  go_enter Try.func23, Try.ntmps23
  go_wp2_with fail
  refine CH.out.mono ?_; rintro e w1 ⟨hc, hb⟩
  obtain ⟨x1, x2, rfl⟩ := hc.shape
  have RR := Lib.hid (show RefR P n f u [] w (.returned (.tuple #[x1, .int .i64 x2])) w1 from ⟨hc, AL.out.trans (hb.mono AL.out.size)⟩)
  clear hc hb CH
  go_wp2_with fail
  go_ret2
  exact RR.out

/-- An error from the reference, and a list. -/
theorem RefR.bad {P : Nat → Pc} {n : Nat} {f u : Int} {wl : List Pc} {w w' : World} {e : Ending} (h : RefR P n f u wl w e w') (hk : chV P n f u ≠ 0) : e = .returned (.tuple #[.slice none 0 0, .int .i64 (chV P n f u)]) ∧ Below w.heap.size w w' := by
  obtain ⟨h, hb⟩ := h
  unfold ChR at h
  rw [if_neg hk] at h
  exact ⟨h, hb⟩
theorem clip_len {P : Nat → Pc} {n : Nat} {a b : Int} : ((toL (fun k => clip a b (P k)) n).foldl putR []).length ≤ n := by
  have := foldR_nil_len (toL (fun k => clip a b (P k)) n)
  rwa [toL_length] at this
theorem RefR.good {P : Nat → Pc} {n : Nat} {f u : Int} {wl : List Pc} {w w' : World} {e : Ending} (h : RefR P n f u wl w e w') (hk : chV P n f u = 0) (hn : n ≤ 400) (hw : wl = [] ∨ ∃ v, wl = [⟨f, u, v⟩]) :
    ∃ q m c Q, e = .returned (.tuple #[.slice q m c, .int .i64 0]) ∧ IsP w' q m c Q ∧ SetF P n f u wl (toL Q m) ∧ Below w.heap.size w w' := by
  obtain ⟨h, hb⟩ := h
  obtain ⟨_, hg, hd⟩ := chV_zero hk
  have cl := change_list wl (ord_of_gd P n hg) hd hw
  have wl1 : wl.length ≤ 1 := by rcases hw with rfl | ⟨v, rfl⟩ <;> simp
  have l1 := foldR_len ((toL (fun k => clip u 1048576 (P k)) n).foldl putR []) (wl.foldl putR ((toL (fun k => clip 0 f (P k)) n).foldl putR []))
  have l2 := foldR_len wl ((toL (fun k => clip 0 f (P k)) n).foldl putR [])
  have l3 := clip_len (P := P) (n := n) (a := 0) (b := f)
  have l4 := clip_len (P := P) (n := n) (a := u) (b := 1048576)
  unfold ChR at h
  rw [if_pos hk, if_neg (by omega)] at h
  obtain ⟨v, rfl, q, c, Q, rfl, hQ, eQ⟩ := h
  exact ⟨q, _, c, Q, rfl, hQ, by rw [eQ]; exact cl, hb⟩

set_option maxRecDepth 10000 in
set_option maxHeartbeats 4000000 in
theorem law_sets (p : Option Addr) (n c : Nat) (P : Nat → Pc) (f u x : Int) (w : World) (hP : IsP w p n c P) :
    Calls Try.prog 4 #[.slice p n c, .agg #[.int .i64 f, .int .i64 u], .int .i64 x] w fun e w' => e = .returned (.bool true) ∧ Below w.heap.size w w' := by
  have FW := Lib.hid (fun V => Few_any p n c V hP.le)
  have FN := Lib.hid (show decide (n ≤ 40 ∨ 1024 < n ∧ n ≤ 1034) = true → (n ≤ 40 ∨ 1024 < n) from fun h => (of_decide_eq_true h).imp id And.left)
  generalize decide (n ≤ 40 ∨ 1024 < n ∧ n ≤ 1034) = fw at *
  have al := (Below.refl w.heap.size w).alloc (Nat.le_refl _) (.cells #[.int .i64 f, .int .i64 u] 33)
  have HP := Lib.hid (hP.below al)
  have HB := Lib.hid (Bs.new w f u 33)
  have AL := Lib.hid al
  clear hP al
  go_enter Try.func4, Try.ntmps4
  go_wp2_with fail
  generalize w.alloc (.cells #[.int .i64 f, .int .i64 u] 33) = w0 at *
  refine (awake_any w0).mono ?_; rintro e w1 ⟨rfl, b1⟩
  have P1 := Lib.hid (HP.out.below b1)
  have S1 := Lib.hid (HB.out.below b1)
  have B1 := Lib.hid (AL.out.trans (b1.mono AL.out.size))
  clear b1 HP HB AL
  obtain ⟨_, d0, d1⟩ := S1.out
  cases fw with
  | false =>
    go_wp2_with fail
    refine (FW.out _).mono ?_; rintro e w2 ⟨rfl, rfl⟩
    go_wp2_with fail
    go_ret
    exact ⟨rfl, B1.out⟩
  | true =>
    have FN2 : n ≤ 40 ∨ 1024 < n := FN.out (by trivial)
    have FN2 := Lib.hid FN2
    clear FN
    go_wp2_with fail
    refine (FW.out _).mono ?_; rintro e w2 ⟨rfl, rfl⟩
    clear FW
    by_cases hk : chV P n f u = 0
    · have hn : n ≤ 40 := by have := (chV_zero hk).1; have := FN2.out; omega
      have HK := Lib.hid hk
      have HN := Lib.hid hn
      clear hk hn FN2
      have SG := Lib.hid (Set_good p n c P f u x w1 P1.out HK.out (Nat.le_trans HN.out (by decide)))
      go_wp2_with fail
      refine SG.out.mono ?_; rintro e w2 ⟨qa, ma, ca, QA, rfl, ha, pa, sa, b2⟩
      have P2 := Lib.hid (P1.out.below b2)
      have S2 := Lib.hid (S1.out.below b2)
      have B2 := Lib.hid (B1.out.trans (b2.mono B1.out.size))
      have PA2 := Lib.hid pa
      have SA := Lib.hid sa
      clear SG b2 pa sa ha d0 d1 P1 S1 B1
      obtain ⟨_, d0, d1⟩ := S2.out
      have SG := Lib.hid (rSet_any p n c P f u x w2 P2.out)
      go_wp2_with fail
      refine SG.out.mono ?_; rintro e w3 hr
      obtain ⟨qb, mb, cb, QB, rfl, pb, sb, b3⟩ := hr.good HK.out (Nat.le_trans HN.out (by decide)) (Or.inr ⟨x, rfl⟩)
      have P3 := Lib.hid (P2.out.below b3)
      have PA3 := Lib.hid (PA2.out.below b3)
      have S3 := Lib.hid (S2.out.below b3)
      have B3 := Lib.hid (B2.out.trans (b3.mono B2.out.size))
      have PB3 := Lib.hid pb
      have SB := Lib.hid sb
      clear SG hr b3 pb sb d0 d1 P2 S2 B2 PA2
      obtain ⟨_, d0, d1⟩ := S3.out
      have SG := Lib.hid (Clear_good p n c P f u w3 P3.out HK.out (Nat.le_trans HN.out (by decide)))
      go_wp2_with fail
      refine SG.out.mono ?_; rintro e w4 ⟨qc, mc, cc, QC, rfl, hc, pc, sc, b4⟩
      have P4 := Lib.hid (P3.out.below b4)
      have PA4 := Lib.hid (PA3.out.below b4)
      have PB4 := Lib.hid (PB3.out.below b4)
      have S4 := Lib.hid (S3.out.below b4)
      have B4 := Lib.hid (B3.out.trans (b4.mono B3.out.size))
      have PC4 := Lib.hid pc
      have SC := Lib.hid sc
      clear SG b4 pc sc hc d0 d1 P3 S3 B3 PA3 PB3
      obtain ⟨_, d0, d1⟩ := S4.out
      have SG := Lib.hid (rClear_any p n c P f u w4 P4.out)
      go_wp2_with fail
      refine SG.out.mono ?_; rintro e w5 hr
      obtain ⟨qd, md, cd, QD, rfl, pd, sd, b5⟩ := hr.good HK.out (Nat.le_trans HN.out (by decide)) (Or.inl rfl)
      have PA5 := Lib.hid (PA4.out.below b5)
      have PB5 := Lib.hid (PB4.out.below b5)
      have PC5 := Lib.hid (PC4.out.below b5)
      have B5 := Lib.hid (B4.out.trans (b5.mono B4.out.size))
      have PD5 := Lib.hid pd
      have SD := Lib.hid sd
      clear SG hr b5 pd sd d0 d1 P4 S4 B4 PA4 PB4 PC4
      have EAB : toL QA ma = toL QB mb := gd_unique _ _ SA.out.1 SB.out.1 (fun d v => (SA.out.2 d v).trans (SB.out.2 d v).symm)
      have ECD : toL QC mc = toL QD md := gd_unique _ _ SC.out.1 SD.out.1 (fun d v => (SC.out.2 d v).trans (SD.out.2 d v).symm)
      have EAB := Lib.hid EAB
      have ECD := Lib.hid ECD
      clear SA SB SC SD HK HN
      go_wp2_with fail
      refine (Same_true qa qb ma ca mb cb QA QB w5 PA5.out PB5.out EAB.out).mono ?_; rintro e w6 ⟨rfl, b6⟩
      have PC6 := Lib.hid (PC5.out.below b6)
      have PD6 := Lib.hid (PD5.out.below b6)
      have B6 := Lib.hid (B5.out.trans (b6.mono B5.out.size))
      clear b6 PC5 PD5 B5 PA5 PB5 EAB
      go_wp2_with fail
      refine (Same_true qc qd mc cc md cd QC QD w6 PC6.out PD6.out ECD.out).mono ?_; rintro e w7 ⟨rfl, b7⟩
      have B7 := Lib.hid (B6.out.trans (b7.mono B6.out.size))
      clear b7 PC6 PD6 B6 ECD
      go_wp2_with fail
      go_ret
      exact ⟨by first | rfl | simp, B7.out⟩
    · have HK := Lib.hid hk
      obtain ⟨k, hk0⟩ : ∃ k, k = chV P n f u := ⟨_, rfl⟩
      have SG := Lib.hid (Set_bad p n c P f u x w1 P1.out HK.out)
      rw [← hk0] at SG
      have KE := Lib.hid hk0
      clear hk hk0 FN2
      go_wp2_with fail
      refine SG.out.mono ?_; rintro e w2 ⟨rfl, b2⟩
      have P2 := Lib.hid (P1.out.below b2)
      have S2 := Lib.hid (S1.out.below b2)
      have B2 := Lib.hid (B1.out.trans (b2.mono B1.out.size))
      clear SG b2 d0 d1 P1 S1 B1
      obtain ⟨_, d0, d1⟩ := S2.out
      have SG := Lib.hid (rSet_any p n c P f u x w2 P2.out)
      go_wp2_with fail
      refine SG.out.mono ?_; rintro e w3 hr
      obtain ⟨rfl, b3⟩ := hr.bad HK.out
      rw [← KE.out]
      have P3 := Lib.hid (P2.out.below b3)
      have S3 := Lib.hid (S2.out.below b3)
      have B3 := Lib.hid (B2.out.trans (b3.mono B2.out.size))
      clear SG hr b3 d0 d1 P2 S2 B2
      obtain ⟨_, d0, d1⟩ := S3.out
      have SG := Lib.hid (Clear_bad p n c P f u w3 P3.out HK.out)
      rw [← KE.out] at SG
      go_wp2_with fail
      refine SG.out.mono ?_; rintro e w4 ⟨rfl, b4⟩
      have P4 := Lib.hid (P3.out.below b4)
      have S4 := Lib.hid (S3.out.below b4)
      have B4 := Lib.hid (B3.out.trans (b4.mono B3.out.size))
      clear SG b4 d0 d1 P3 S3 B3
      obtain ⟨_, d0, d1⟩ := S4.out
      have SG := Lib.hid (rClear_any p n c P f u w4 P4.out)
      go_wp2_with fail
      refine SG.out.mono ?_; rintro e w5 hr
      obtain ⟨rfl, b5⟩ := hr.bad HK.out
      rw [← KE.out]
      have B5 := Lib.hid (B4.out.trans (b5.mono B4.out.size))
      clear SG hr b5 d0 d1 P4 S4 B4 HK KE
      go_wp2_with fail
      refine (Same_true none none 0 0 0 0 (fun _ => default) (fun _ => default) w5 (IsP.zero _) (IsP.zero _) rfl).mono ?_; rintro e w6 ⟨rfl, b6⟩
      have B6 := Lib.hid (B5.out.trans (b6.mono B5.out.size))
      clear b6 B5
      go_wp2_with fail
      refine (Same_true none none 0 0 0 0 (fun _ => default) (fun _ => default) w6 (IsP.zero _) (IsP.zero _) rfl).mono ?_; rintro e w7 ⟨rfl, b7⟩
      have B7 := Lib.hid (B6.out.trans (b7.mono B6.out.size))
      clear b7 B6
      go_wp2_with fail
      go_ret
      exact ⟨by first | rfl | simp, B7.out⟩
end Go.Proofs.Ytekigilhmdphnaa
