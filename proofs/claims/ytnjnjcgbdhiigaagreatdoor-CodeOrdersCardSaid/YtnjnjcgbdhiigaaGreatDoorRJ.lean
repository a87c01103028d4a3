/- CodeOrders. -/
import Derived.Test.YtnjnjcgbdhiigaaGreatDoorRI
import Derived.Test.YtnjnjcgbdhiigaaGreatDoorAid2
namespace Go.Proofs.YtnjnjcgbdhiigaaGreatDoor
open Go.RowKit Go.Shelf

theorem FrG.one {ts : List Txt} {l : List UInt8} {t u : Txt} (h : FrG ts l t) (g : FrG ts l u) : t = u := by
  obtain ⟨ns, i, a1, a2, a3, a4, a5, a6, a7, a8, a9⟩ := h
  obtain ⟨ms, j, b1, b2, b3, b4, b5, b6, b7, b8, b9⟩ := g
  obtain rfl := a1.one b1
  have : i = j := by
    rcases Nat.lt_trichotomy i j with h | h | h
    · obtain ⟨x, hx, hp⟩ := b8 i a3 h; exact absurd hp (a7 x hx)
    · exact h
    · obtain ⟨x, hx, hp⟩ := a8 j b3 h; exact absurd hp (b7 x hx)
  subst this
  exact Txt.ext (a9.trans b9.symm)
theorem FrG.not {ts : List Txt} {l : List UInt8} {t : Txt} (h : FrG ts l t) {k : Int} (g : FrE ts l k) : False := by
  obtain ⟨ns, i, a1, a2, a3, a4, a5, a6, a7, a8, a9⟩ := h
  rcases g with ⟨_, h⟩ | ⟨_, _, h | ⟨x, hx, h⟩⟩ | ⟨_, _, ms, h1, _, h⟩
  · omega
  · exact h ns a1
  · obtain ⟨ms, hp⟩ := a6 x hx; exact h ms hp
  · obtain rfl := a1.one h1
    rcases h with h | h
    · omega
    · obtain ⟨x, hx, hp⟩ := h i a3 a4; exact a7 x hx hp
theorem FrE.one {ts : List Txt} {l : List UInt8} {k j : Int} (h : FrE ts l k) (g : FrE ts l j) : k = j := by
  rcases h with ⟨rfl, h⟩ | ⟨rfl, h0, h⟩ | ⟨rfl, h0, ns, h1, h2, _⟩ <;> rcases g with ⟨rfl, g⟩ | ⟨rfl, g0, g⟩ | ⟨rfl, g0, ms, g1, g2, _⟩
  · rfl
  · omega
  · omega
  · omega
  · rfl
  · rcases h with h | ⟨x, hx, h⟩
    · exact absurd g1 (h ms)
    · obtain ⟨a, b⟩ := g2 x hx; exact absurd b (h a)
  · omega
  · rcases g with g | ⟨x, hx, g⟩
    · exact absurd h1 (g ns)
    · obtain ⟨a, b⟩ := h2 x hx; exact absurd b (g a)
  · rfl
theorem free_same (ts : List Txt) (s : Txt) : ∃ (t : ByteArray) (k : Int),
    (∀ V v, Lw V → IsT V v ts → Calls Tryz.prog 18 #[v, .string s.1] V fun e w' => e = .returned (.tuple #[.string t, .int .i64 k]) ∧ Below V.heap.size V w') ∧
    (∀ V v, IsT V v ts → Calls Tryz.prog 19 #[v, .string s.1] V fun e w' => e = .returned (.tuple #[.string t, .int .i64 k]) ∧ Below V.heap.size V w') := by
  have key : ∃ (t : ByteArray) (k : Int), ∀ V e w', FreeR ts (bts s) V e w' → e = .returned (.tuple #[.string t, .int .i64 k]) ∧ Below V.heap.size V w' := by
    by_cases h : ∃ t, FrG ts (bts s) t
    · obtain ⟨t, ht⟩ := h
      refine ⟨t.1, 0, ?_⟩
      rintro V e w' ⟨⟨u, hu, rfl⟩ | ⟨k, hk, rfl⟩, b⟩
      · rw [hu.one ht]; exact ⟨rfl, b⟩
      · exact (ht.not hk).elim
    · by_cases h2 : ∃ k, FrE ts (bts s) k
      · obtain ⟨k, hk⟩ := h2
        refine ⟨⟨#[]⟩, k, ?_⟩
        rintro V e w' ⟨⟨u, hu, rfl⟩ | ⟨j, hj, rfl⟩, b⟩
        · exact absurd ⟨u, hu⟩ h
        · rw [hj.one hk]; exact ⟨rfl, b⟩
      · refine ⟨⟨#[]⟩, 0, ?_⟩
        rintro V e w' ⟨⟨u, hu, rfl⟩ | ⟨j, hj, rfl⟩, b⟩
        · exact absurd ⟨u, hu⟩ h
        · exact absurd ⟨j, hj⟩ h2
  obtain ⟨t, k, K⟩ := key
  exact ⟨t, k, fun V v hV hv => (Free_any v ts s V hV hv).mono (K V), fun V v hv => (rFree_any v ts s V hv).mono (K V)⟩

set_option maxRecDepth 100000 in
set_option maxHeartbeats 8000000 in
theorem orders_any (a b : ByteArray) (q : Option Addr) (n c : Nat) (S : Nat → ByteArray) (w : World) (hw : Lw w) (hq : IsS w q n S) (hnc : n ≤ c) :
    Calls Tryz.prog 4 #[.string a, .string b, .slice q n c] w fun e w' => e = .returned (.bool true) ∧ Below w.heap.size w w' := by
  have AW := Lib.hid (awake_any w hw)
  have HW := Lib.hid hw
  have HQ := Lib.hid hq
  clear hw hq
  by_cases la : 100 < a.size
  · have d : decide (100 < (a.size : Int)) = true := by simpa using (by omega : (100 : Int) < (a.size : Int))
    clear la
    go_enter Tryz.func4, Tryz.ntmps4
    go_wp2_with fail
    refine AW.out.mono ?_; rintro e w1 ⟨rfl, b1⟩
    have B1 := Lib.hid b1
    clear b1
    go_wp2_with fail
    go_ret
    exact ⟨rfl, B1.out⟩
  have da : decide (100 < (a.size : Int)) = false := by simpa using (by omega : (a.size : Int) ≤ 100)
  by_cases lb : 100 < b.size
  · have d : decide (100 < (b.size : Int)) = true := by simpa using (by omega : (100 : Int) < (b.size : Int))
    clear lb la
    go_enter Tryz.func4, Tryz.ntmps4
    go_wp2_with fail
    refine AW.out.mono ?_; rintro e w1 ⟨rfl, b1⟩
    have B1 := Lib.hid b1
    clear b1
    go_wp2_with fail
    go_ret
    exact ⟨rfl, B1.out⟩
  have db : decide (100 < (b.size : Int)) = false := by simpa using (by omega : (b.size : Int) ≤ 100)
  obtain ⟨xa, rfl⟩ : ∃ x : Txt, x.1 = a := ⟨⟨a, by omega⟩, rfl⟩
  obtain ⟨xb, rfl⟩ : ∃ x : Txt, x.1 = b := ⟨⟨b, by omega⟩, rfl⟩
  clear la lb
  go_enter Tryz.func4, Tryz.ntmps4
  go_wp2_with fail
  refine AW.out.mono ?_; rintro e w1 ⟨rfl, b1⟩
  have B1 := Lib.hid b1
  have FW := Lib.hid (few_any q n c S w1 (HQ.out.below b1))
  clear b1 AW
  go_wp2_with fail
  refine FW.out.mono ?_; rintro e w2 ⟨z, rfl, hz, rfl⟩
  cases z with
  | false =>
    clear hz FW
    go_wp2_with fail
    go_ret
    exact ⟨rfl, B1.out⟩
  | true =>
    have FP := hz.1 rfl
    obtain ⟨ts, h1, h2⟩ := txts_of n S FP.2.2
    have IT := Lib.hid (fun V (hV : Below w.heap.size w V) => isT_of (HQ.out.below hV) hnc h1 h2)
    obtain ⟨x, k, C1, C2⟩ := compare_same xa xb
    obtain ⟨t, j, F1, F2⟩ := free_same ts xa
    obtain ⟨o, W1, W2⟩ := within_same xa xb
    have C1 := Lib.hid C1
    have C2 := Lib.hid C2
    have F1 := Lib.hid F1
    have F2 := Lib.hid F2
    have W1 := Lib.hid W1
    have W2 := Lib.hid W2
    clear hz FW FP h1 h2
    go_wp2_with fail
    refine (C1.out w1 (HW.out.below B1.out HW.out.n0)).mono ?_; rintro e w2 ⟨rfl, b2⟩
    have B2 := Lib.hid (B1.out.trans (b2.mono B1.out.size))
    clear b2 C1 B1
    go_wp2_with fail
    refine (C2.out w2).mono ?_; rintro e w3 ⟨rfl, b3⟩
    have B3 := Lib.hid (B2.out.trans (b3.mono B2.out.size))
    clear b3 C2 B2
    go_wp2_with fail
    refine (F1.out w3 _ (HW.out.below B3.out HW.out.n0) (IT.out w3 B3.out)).mono ?_; rintro e w4 ⟨rfl, b4⟩
    have B4 := Lib.hid (B3.out.trans (b4.mono B3.out.size))
    clear b4 F1 B3
    go_wp2_with fail
    refine (F2.out w4 _ (IT.out w4 B4.out)).mono ?_; rintro e w5 ⟨rfl, b5⟩
    have B5 := Lib.hid (B4.out.trans (b5.mono B4.out.size))
    clear b5 F2 B4
    go_wp2_with fail
    refine (W1.out w5 (HW.out.below B5.out HW.out.n0)).mono ?_; rintro e w6 ⟨rfl, b6⟩
    have B6 := Lib.hid (B5.out.trans (b6.mono B5.out.size))
    clear b6 W1 B5
    go_wp2_with fail
    refine (W2.out w6).mono ?_; rintro e w7 ⟨rfl, b7⟩
    have B7 := Lib.hid (B6.out.trans (b7.mono B6.out.size))
    clear b7 W2 B6
    go_wp2_with fail
    go_ret
    exact ⟨rfl, B7.out⟩
end Go.Proofs.YtnjnjcgbdhiigaaGreatDoor
