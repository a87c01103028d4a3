/- Over and Changes. -/
import Derived.Test.YtekigilhmdphnaaVF
import Derived.Laws.MakeOwn
namespace Go.Proofs.Ytekigilhmdphnaa
open Go.RowKit Go.Shelf

/-- The first fault of two lists. -/
def ck2 (P : Nat → Pc) (n : Nat) (Q : Nat → Pc) (m : Nat) : Int := if ckV P n = 0 then ckV Q m else ckV P n
set_option maxHeartbeats 2000000 in
theorem checkBoth_any (p q : Option Addr) (n c m c2 : Nat) (P Q : Nat → Pc) (w : World) (hA : IsP w p n c P) (hB : IsP w q m c2 Q) :
    Calls Try.prog 40 #[.slice p n c, .slice q m c2] w (RetV (ck2 P n Q m) w) := by
  have C := Lib.hid (Check_any p n c P w hA)
  have HB := Lib.hid hB
  have D := Lib.hid (fun V hV => Check_any q m c2 Q V hV)
  have CV := Lib.hid (show ck2 P n Q m = if ckV P n = 0 then ckV Q m else ckV P n from rfl)
  generalize ckV P n = k at *
  generalize ckV Q m = l at *
  clear hA hB
  go_enter Try.func40, Try.ntmps40
  go_wp2_with fail
  refine C.out.mono ?_; rintro e w1 ⟨rfl, b1⟩
  have B1 := Lib.hid b1
  have HB1 := Lib.hid (HB.out.below b1)
  clear b1 C
  by_cases k0 : k = 0
  · subst k0
    go_wp2_with fail
    refine (D.out _ HB1.out).mono ?_; rintro e w2 ⟨rfl, b2⟩
    have B2 := Lib.hid (B1.out.trans (b2.mono B1.out.size))
    clear b2
    go_wp2_with fail
    go_ret
    exact ⟨by rw [CV.out]; rfl, B2.out⟩
  · have k1 : (k == 0) = false := by simpa using k0
    go_wp2_with fail
    go_ret
    exact ⟨by rw [CV.out, if_neg k0]; rfl, B1.out⟩

theorem boxes (p q : Option Addr) (n c m c2 : Nat) (P Q : Nat → Pc) (w : World) (hA : IsP w p n c P) (hB : IsP w q m c2 Q) :
    BoxL ((w.alloc (.cells #[.slice p n c] 22)).alloc (.cells #[.slice q m c2] 22)) w.heap.size p n c P ∧ BoxL ((w.alloc (.cells #[.slice p n c] 22)).alloc (.cells #[.slice q m c2] 22)) (w.heap.size + 1) q m c2 Q ∧
      Below w.heap.size w ((w.alloc (.cells #[.slice p n c] 22)).alloc (.cells #[.slice q m c2] 22)) := by
  have al := ((Below.refl w.heap.size w).alloc (Nat.le_refl _) (.cells #[.slice p n c] 22)).alloc (by simp) (.cells #[.slice q m c2] 22)
  exact ⟨⟨by simp; omega, by simp, hA.below al⟩, ⟨by simp, by simp, hB.below al⟩, al⟩
/-- A list that says what V says. -/
def GoodL (V : Int → Int × Bool) (K : Nat) (w : World) (e : Ending) (w' : World) : Prop := ∃ v L, e = .returned (.tuple #[v, .int .i64 0]) ∧ LRes w' v L ∧ Gd L ∧ HvV V L ∧ L.length ≤ K ∧ Below w.heap.size w w'
theorem CombR.good {V : Int → Int × Bool} {A B : List Pc} {w w' : World} {e : Ending} (h : CombR V A B w e w') (ok : VOk V A B) (hA : Gd A) (hB : Gd B) :
    ∃ v L, e = .returned v ∧ LRes w' v L ∧ Gd L ∧ HvV V L ∧ L.length ≤ 2 * (A.length + B.length) ∧ Below w.heap.size w w' := by
  obtain ⟨ds, v, hd, hl, rfl, hr, hb⟩ := h
  obtain ⟨g, hv⟩ := comb_good ok hA hB hd
  have l1 := fold_len (segN V (fun i => ds.getD i 0) (ds.length - 1)) []
  have l2 := segN_len V (fun i => ds.getD i 0) (ds.length - 1)
  exact ⟨v, _, rfl, hr, g, hv, by unfold joinL; rw [List.length_nil] at l1; omega, hb⟩
theorem ck2_good {P Q : Nat → Pc} {n m : Nat} (gA : Gd (toL P n)) (gB : Gd (toL Q m)) (hn : n ≤ 1024) (hm : m ≤ 1024) : ck2 P n Q m = 0 := by
  unfold ck2
  rw [if_pos (ck_of_gd gA hn), ck_of_gd gB hm]
theorem ck2_zero {P Q : Nat → Pc} {n m : Nat} (h : ck2 P n Q m = 0) : (n ≤ 1024 ∧ Gd (toL P n)) ∧ (m ≤ 1024 ∧ Gd (toL Q m)) := by
  have one : ∀ {P : Nat → Pc} {n : Nat}, ckV P n = 0 → n ≤ 1024 ∧ Gd (toL P n) := fun {P n} k => by
    unfold ckV at k
    split at k
    · exact absurd k (by decide)
    · exact ⟨by omega, (ck_gd P n).1 k⟩
  unfold ck2 at h
  split at h
  · rename_i k
    exact ⟨one k, one h⟩
  · rename_i k; exact absurd h k

set_option maxHeartbeats 4000000 in
theorem Over_good (p q : Option Addr) (n c m c2 : Nat) (P Q : Nat → Pc) (w : World) (hA : IsP w p n c P) (hB : IsP w q m c2 Q) (gA : Gd (toL P n)) (gB : Gd (toL Q m)) (hn : n + m ≤ 400) :
    Calls Try.prog 27 #[.slice p n c, .slice q m c2] w (GoodL (ovF (toL P n) (toL Q m)) (2 * (n + m)) w) := by
  obtain ⟨bA, bB, al⟩ := boxes p q n c m c2 P Q w hA hB
  have l0 := bA.2.1
  have m0 := bB.2.1
  have BA := Lib.hid bA
  have BB := Lib.hid bB
  have AL := Lib.hid al
  have CK := Lib.hid (fun V hV hW => checkBoth_any p q n c m c2 P Q V hV hW)
  rw [ck2_good gA gB (by omega) (by omega)] at CK
  have CM := Lib.hid (fun (V : World) (hV : BoxL V w.heap.size p n c P) (hW : BoxL V (w.heap.size + 1) q m c2 Q) => combined_any p q n c m c2 P Q 46 (.pointer (some ⟨w.heap.size + 1, 0, none⟩)) (.pointer (some ⟨w.heap.size, 0, none⟩)) (ovF (toL P n) (toL Q m)) V hV.2.2 hW.2.2 gA gB (by omega) (by omega)
    (enters_of Try.func46 (by kernel_rfl) rfl) (fun d W hb => ovFn_any w.heap.size (w.heap.size + 1) p q n c m c2 P Q d W (hV.below hb) (hW.below hb) gA gB (by omega) (by omega)))
  have CG := Lib.hid (fun (V : World) (e : Ending) (V' : World) (h : CombR (ovF (toL P n) (toL Q m)) (toL P n) (toL Q m) V e V') => h.good (ovF_ok _ _) gA gB)
  rw [toL_length, toL_length] at CG
  obtain ⟨W, hW⟩ : ∃ W, W = ovF (toL P n) (toL Q m) := ⟨_, rfl⟩
  rw [← hW] at CM CG ⊢
  clear hA hB bA bB gA gB al hW
  generalize toL P n = A at *
  generalize toL Q m = B at *
  go_enter Try.func27, Try.ntmps27
  go_wp2_with fail
  generalize (w.alloc (.cells #[.slice p n c] 22)).alloc (.cells #[.slice q m c2] 22) = w0 at *
  refine (CK.out w0 BA.out.2.2 BB.out.2.2).mono ?_; rintro e w1 ⟨rfl, b1⟩
  have BA1 := Lib.hid (BA.out.below b1)
  have BB1 := Lib.hid (BB.out.below b1)
  have B1 := Lib.hid (AL.out.trans (b1.mono AL.out.size))
  have l0 := BA1.out.2.1
  have m0 := BB1.out.2.1
  clear b1 BA BB AL CK
  go_wp2_with fail
  refine (CM.out w1 BA1.out BB1.out).mono ?_; rintro e w2 h2
  obtain ⟨v, L, rfl, h3, h4, h5, h6, h7⟩ := CG.out _ _ _ h2
  obtain ⟨p3, c3, Q3, rfl, i3, e3⟩ := h3
  have HL := Lib.hid (show LRes w2 (.slice p3 L.length c3) L from ⟨p3, c3, Q3, rfl, i3, e3⟩)
  have H4 := Lib.hid h4
  have H5 := Lib.hid h5
  have H6 := Lib.hid h6
  have B2 := Lib.hid (B1.out.trans (h7.mono B1.out.size))
  have LI := limited_any p3 L.length c3 w2 (by omega)
  rw [if_neg (by omega)] at LI
  have LI := Lib.hid LI
  clear h2 h4 h5 h6 h7 i3 e3 CM CG
  go_wp2_with fail
  refine LI.out.mono ?_; rintro e w3 ⟨rfl, rfl⟩
  go_wp2_with fail
  go_ret2
  exact ⟨_, L, rfl, HL.out, H4.out, H5.out, H6.out, B2.out⟩

set_option maxHeartbeats 4000000 in
theorem Over_bad (p q : Option Addr) (n c m c2 : Nat) (P Q : Nat → Pc) (w : World) (hA : IsP w p n c P) (hB : IsP w q m c2 Q) (hk : ck2 P n Q m ≠ 0) :
    Calls Try.prog 27 #[.slice p n c, .slice q m c2] w fun e w' => e = .returned (.tuple #[.slice none 0 0, .int .i64 (ck2 P n Q m)]) ∧ Below w.heap.size w w' := by
  obtain ⟨bA, bB, al⟩ := boxes p q n c m c2 P Q w hA hB
  have l0 := bA.2.1
  have m0 := bB.2.1
  have AL := Lib.hid al
  have CK := Lib.hid (checkBoth_any p q n c m c2 P Q _ bA.2.2 bB.2.2)
  generalize ck2 P n Q m = k at *
  have k1 : (k == 0) = false := by simpa using hk
  clear hA hB bA bB al
  go_enter Try.func27, Try.ntmps27
  go_wp2_with fail
  refine CK.out.mono ?_; rintro e w1 ⟨rfl, b1⟩
  have B1 := Lib.hid (AL.out.trans (b1.mono AL.out.size))
  clear b1
  go_wp2_with fail
  go_ret2
  exact ⟨rfl, B1.out⟩
set_option maxHeartbeats 4000000 in
theorem Changes_bad (p q : Option Addr) (n c m c2 : Nat) (P Q : Nat → Pc) (w : World) (hA : IsP w p n c P) (hB : IsP w q m c2 Q) (hk : ck2 P n Q m ≠ 0) :
    Calls Try.prog 25 #[.slice p n c, .slice q m c2] w fun e w' => e = .returned (.tuple #[.slice none 0 0, .int .i64 (ck2 P n Q m)]) ∧ Below w.heap.size w w' := by
  obtain ⟨bA, bB, al⟩ := boxes p q n c m c2 P Q w hA hB
  have l0 := bA.2.1
  have m0 := bB.2.1
  have AL := Lib.hid al
  have CK := Lib.hid (checkBoth_any p q n c m c2 P Q _ bA.2.2 bB.2.2)
  generalize ck2 P n Q m = k at *
  have k1 : (k == 0) = false := by simpa using hk
  clear hA hB bA bB al
  go_enter Try.func25, Try.ntmps25
  go_wp2_with fail
  refine CK.out.mono ?_; rintro e w1 ⟨rfl, b1⟩
  have B1 := Lib.hid (AL.out.trans (b1.mono AL.out.size))
  clear b1
  go_wp2_with fail
  go_ret2
  exact ⟨rfl, B1.out⟩
end Go.Proofs.Ytekigilhmdphnaa
