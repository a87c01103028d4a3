/- The walk of DigestStreams. -/
import Derived.Test.YtfjbchmneojgaaaDoorClones
namespace Go.Proofs.YtfjbchmneojgaaaDoor
open Go.RowKit

/-- A list of strings in memory, or none. -/
def Inner (w : World) (q : Option Addr) (m c : Nat) (S : Nat → ByteArray) : Prop :=
  (q = none ∧ m = 0 ∧ c = 0) ∨ ∃ a : Addr, q = some a ∧ m ≤ 9223372036854775807 ∧ (0 < m → a.spot = none ∧ Strs w a.block a.off m S)
theorem Inner.below {w w' : World} {q : Option Addr} {m c : Nat} {S : Nat → ByteArray} (h : Inner w q m c S) (hb : Below w.heap.size w w') : Inner w' q m c S := by
  rcases h with h | ⟨a, h1, h2, h3⟩
  · exact Or.inl h
  · exact Or.inr ⟨a, h1, h2, fun h0 => ⟨(h3 h0).1, (h3 h0).2.below hb⟩⟩
theorem Inner.row {w : World} {q : Option Addr} {m c : Nat} {S : Nat → ByteArray} (h : Inner w q m c S) (h0 : 0 < m) : ∃ b off, q = some ⟨b, off, none⟩ ∧ Strs w b off m S := by
  rcases h with ⟨_, h, _⟩ | ⟨⟨b, off, sp⟩, h1, _, h⟩
  · omega
  · obtain ⟨h2, h3⟩ := h h0
    simp only at h2
    subst h2
    exact ⟨b, off, h1, h3⟩
/-- Lists of strings in a row in memory. -/
def Outer (w : World) (b off n : Nat) (Q : Nat → Option Addr) (M C : Nat → Nat) (S : Nat → Nat → ByteArray) : Prop :=
  b < w.heap.size ∧ ∀ i, i < n → w.cell? ⟨b, off + i, none⟩ = some (.slice (Q i) (M i) (C i)) ∧ Inner w (Q i) (M i) (C i) (S i)
theorem Outer.below {w w' : World} {b off n : Nat} {Q : Nat → Option Addr} {M C : Nat → Nat} {S : Nat → Nat → ByteArray} (h : Outer w b off n Q M C S) (hb : Below w.heap.size w w') : Outer w' b off n Q M C S :=
  ⟨Nat.lt_of_lt_of_le h.1 hb.size, fun i hi => ⟨(hb.cell (p := ⟨b, off + i, none⟩) h.1).trans (h.2 i hi).1, (h.2 i hi).2.below hb⟩⟩

theorem Write_in (g m c : Nat) (q : Option Addr) (L : List UInt8) (S : Nat → ByteArray) (V w : World) (hT : Tabs V) (hV : Below V.heap.size V w) (hgV : V.heap.size ≤ g) (hR : HL w g L) (hS : Inner V q m c S)
    (hl : ∀ j, j ≤ m → L.length + (catL S j).length ≤ 4611686018427387904) (hm : m ≤ 5) :
    Calls Tryd.prog 21 #[.pointer (some ⟨g, 0, none⟩), .slice q m c] w fun e w' => e = .returned (.int .i64 ((L ++ catL S m).length : Nat)) ∧ HL w' g (L ++ catL S m) ∧ But g w w' := by
  by_cases h0 : m = 0
  · subst h0
    show Calls Tryd.prog _ _ w fun e w' => e = .returned (.int .i64 ((L ++ []).length : Nat)) ∧ HL w' g (L ++ []) ∧ But g w w'
    rw [List.append_nil]
    exact Write_none _ _ g c q w hR
  · obtain ⟨b, off, rfl, hs⟩ := hS.row (by omega)
    exact Write_L g b off m c L S V w hT hV hgV hR (hs.below hV) (by have := hs.1; omega) hl (by omega)

set_option maxRecDepth 100000 in
set_option maxHeartbeats 4000000 in
theorem law_streams_few (p : Option Addr) (n c : Nat) (Q : Nat → Option Addr) (M C : Nat → Nat) (S : Nat → Nat → ByteArray) (w : World) (hT : Tabs w) (hn : n ≤ 12) (hO : 0 < n → ∃ b off, p = some ⟨b, off, none⟩ ∧ Outer w b off n Q M C S) :
    Calls Tryd.prog 7 #[.slice p n c] w fun e w' => e = .returned (.bool true) ∧ Below w.heap.size w w' := by
  have e1 : ¬ (12 : Int) < (n : Int) := by omega
  have T := Lib.hid hT
  have O := Lib.hid hO
  clear hT hO
  go_enter Tryd.func7, Tryd.ntmps7
  go_wp2_with fail
  refine (awake_any w T.out).mono ?_; rintro e w0 ⟨rfl, b0⟩
  have B0 := Lib.hid b0
  clear b0
  go_wp2_with fail
  refine (New_L w0).mono ?_; rintro e w1 ⟨rfl, h1, b1⟩
  have H1 := Lib.hid h1
  have B1 := Lib.hid (B0.out.trans (b1.mono B0.out.size))
  clear h1 b1
  go_wp2_with fail
  refine (Sum_L w0.heap.size _ w1 (T.out.below B1.out) H1.out).mono ?_; rintro e w2 ⟨rfl, b2⟩
  have H2 := Lib.hid (H1.out.below b2)
  have B2 := Lib.hid (B1.out.trans (b2.mono B1.out.size))
  clear b2
  go_wp2_with fail
  have ca := Sum_any ⟨#[]⟩ w2 (T.out.below B2.out) (by decide)
  rw [show (⟨#[]⟩ : ByteArray).data.toList = [] from rfl] at ca
  refine ca.mono ?_; rintro e w3 ⟨rfl, b3⟩
  have H3 := Lib.hid (H2.out.below b3)
  have B3 := Lib.hid (B2.out.trans (b3.mono B2.out.size))
  have ZZ := Lib.hid B0.out.size
  clear b3 ca H1 B1 H2 B2
  generalize dgS [] = D0
  generalize w0.heap.size = g at *
  clear B0
  go_wp2_with fail
  go_loopw [4, 25] (fun s4 s25 wr => ∃ (i : Nat) (t : ByteArray), i ≤ n ∧ s4 = .string t ∧ s25 = .int .i64 i ∧ t.size ≤ 750 * i ∧ HL wr g t.data.toList ∧ Below w.heap.size w wr) (fun _ s25 _ => n - (intOf s25).toNat)
  case atStart => exact ⟨0, ⟨#[]⟩, Nat.zero_le _, rfl, rfl, Nat.le_refl _, H3.out, B3.out⟩
  case round =>
    obtain ⟨i, t, hi, rfl, rfl, ht, hH, hB⟩ := hrel
    by_cases hlt : i < n
    · have c1 : (i : Int) < (n : Int) := by omega
      have c0 : (0 : Int) ≤ (i : Int) := by omega
      obtain ⟨b, off, rfl, hO⟩ := O.out (by omega)
      have OB := Lib.hid hO
      clear O hO
      obtain ⟨oc, oi⟩ := (OB.out.below hB).2 i hlt
      have OI := Lib.hid oi
      have HH := Lib.hid hH
      have HB := Lib.hid hB
      clear oi hH hB H3 B3
      by_cases h5 : M i ≤ 5
      · have c5 : ¬ (5 : Int) < (M i : Int) := by omega
        go_wp2_with fail
        go_loop [4, 8, 34] (fun s4 _ s34 => ∃ (j : Nat) (u : ByteArray), j ≤ M i ∧ s4 = .string u ∧ s34 = .int .i64 j ∧ u.data.toList = t.data.toList ++ catL (S i) j ∧ u.size ≤ 750 * i + 150 * j) (fun _ _ s34 => M i - (intOf s34).toNat)
        case atStart => exact ⟨0, t, Nat.zero_le _, rfl, rfl, (List.append_nil _).symm, by omega⟩
        case round =>
          obtain ⟨j, u, hj, rfl, rfl, hu, hz⟩ := hrel
          by_cases hjt : j < M i
          · have d1 : (j : Int) < (M i : Int) := by omega
            have d0 : (0 : Int) ≤ (j : Int) := by omega
            obtain ⟨b', off', hq, hs⟩ := OI.out.row (by omega)
            have sc := hs.2 j hjt
            have HQ := Lib.hid hs
            have HU := Lib.hid hu
            rw [hq] at *
            clear hq hs hu
            by_cases h150 : (S i j).size ≤ 150
            · have f1 : ¬ (150 : Int) < ((S i j).size : Int) := by omega
              have m1 : ¬ (9223372036854775807 < u.size + (S i j).size) := by omega
              have e1 : (u ++ S i j).data.toList = t.data.toList ++ catL (S i) (j + 1) := by
                rw [app_list, HU.out, List.append_assoc]; rfl
              have e2 : (u ++ S i j).size ≤ 750 * i + 150 * (j + 1) := by rw [ByteArray.size_append]; omega
              have E1 := Lib.hid e1
              have E2 := Lib.hid e2
              clear e1 e2
              go_wp2_with fail
              go_round
              case rel => exact ⟨j + 1, u ++ S i j, by omega, rfl, by go_num, E1.out, E2.out⟩
              case measure => simp [intOf]; omega
            · have f1 : (150 : Int) < ((S i j).size : Int) := by omega
              go_wp2_with fail
              go_ret
              exact ⟨rfl, HB.out⟩
          · obtain rfl : j = M i := by omega
            have lu : u.data.toList.length = u.size := by rw [Array.length_toList]; rfl
            have hl : ∀ k, k ≤ M i → t.data.toList.length + (catL (S i) k).length ≤ 4611686018427387904 := fun k hk => by
              have mono : ∀ k d, (catL (S i) k).length ≤ (catL (S i) (k + d)).length := fun k d => by
                induction d with
                | zero => exact Nat.le_refl _
                | succ d ih =>
                  show _ ≤ (catL (S i) (k + d) ++ (S i (k + d)).data.toList).length
                  rw [List.length_append]; omega
              have a := mono k (M i - k)
              rw [show k + (M i - k) = M i from by omega] at a
              have b := congrArg List.length hu
              rw [List.length_append, lu] at b
              omega
            have CW := Lib.hid (Write_in g (M i) (C i) (Q i) t.data.toList (S i) w wr T.out HB.out ZZ.out HH.out (OB.out.2 i hlt).2 hl h5)
            rw [← hu, lu] at CW
            have hz9 : u.size ≤ 4611686018427387904 := by omega
            have HZ := Lib.hid hz
            have SU := Lib.hid (fun W hW => Sum_any u W hW hz9)
            clear hl hu lu hz9
            go_wp2_with fail
            refine CW.out.mono ?_; rintro e w4 ⟨rfl, h4, b4⟩
            have H4 := Lib.hid h4
            have B4 := Lib.hid (HB.out.trans (b4.below ZZ.out HB.out.size))
            clear h4 b4 CW HH
            go_wp2_with fail
            refine (Sum_L g _ w4 (T.out.below B4.out) H4.out).mono ?_; rintro e w5 ⟨rfl, b5⟩
            have H5 := Lib.hid (H4.out.below b5)
            have B5 := Lib.hid (B4.out.trans (b5.mono B4.out.size))
            clear b5
            go_wp2_with fail
            refine (SU.out w5 (T.out.below B5.out)).mono ?_; rintro e w6 ⟨rfl, b6⟩
            have H6 := Lib.hid (H5.out.below b6)
            have B6 := Lib.hid (B5.out.trans (b6.mono B5.out.size))
            clear b6 H5 H4 B4 B5 SU
            generalize dgS u.data.toList = D1
            go_wp2_with fail
            go_roundw
            case rel => exact ⟨i + 1, u, by omega, rfl, by go_num, by have := HZ.out; omega, H6.out, B6.out⟩
            case measure => simp [intOf]; omega
      · have c5 : (5 : Int) < (M i : Int) := by omega
        go_wp2_with fail
        go_ret
        exact ⟨rfl, HB.out⟩
    · obtain rfl : i = n := by omega
      have HB := Lib.hid hB
      clear hH hB H3 B3
      go_wp2_with fail
      go_ret
      exact ⟨rfl, HB.out⟩

set_option maxRecDepth 100000 in
set_option maxHeartbeats 1000000 in
theorem law_streams (p : Option Addr) (n c : Nat) (Q : Nat → Option Addr) (M C : Nat → Nat) (S : Nat → Nat → ByteArray) (w : World) (hT : Tabs w) (hm : n ≤ 9223372036854775807) (hO : 0 < n → ∃ b off, p = some ⟨b, off, none⟩ ∧ Outer w b off n Q M C S) :
    Calls Tryd.prog 7 #[.slice p n c] w fun e w' => e = .returned (.bool true) ∧ Below w.heap.size w w' := by
  by_cases hn : n ≤ 12
  · exact law_streams_few p n c Q M C S w hT hn hO
  · have e1 : (12 : Int) < (n : Int) := by omega
    clear hO
    go_enter Tryd.func7, Tryd.ntmps7
    go_wp2_with fail
    refine (awake_any w hT).mono ?_; rintro e w0 ⟨rfl, b0⟩
    go_wp2_with fail
    go_ret
    exact ⟨rfl, b0⟩
end Go.Proofs.YtfjbchmneojgaaaDoor
