/- Changes: a list of spans. -/
import Derived.Test.YtekigilhmdphnaaVG
namespace Go.Proofs.Ytekigilhmdphnaa
open Go.RowKit Go.Shelf

def cellsS : List Pc → List Value
  | [] => []
  | p :: L => .int .i64 p.f :: .int .i64 p.u :: cellsS L
theorem cellsS_append : ∀ (L M : List Pc), cellsS (L ++ M) = cellsS L ++ cellsS M
  | [], _ => rfl
  | p :: L, M => by rw [List.cons_append]; simp [cellsS, cellsS_append L M]
theorem cellsS_one : ∀ (L : List Pc), ∀ v ∈ cellsS L, v.oneCell' = true
  | [], v, h => by cases h
  | p :: L, v, h => by
    simp only [cellsS, List.mem_cons] at h
    rcases h with rfl | rfl | h
    · rfl
    · rfl
    · exact cellsS_one L v h
theorem cellsS_get : ∀ (L : List Pc) (j : Nat) (h : j < L.length), (cellsS L)[j * 2]? = some (.int .i64 (L[j]).f) ∧ (cellsS L)[j * 2 + 1]? = some (.int .i64 (L[j]).u)
  | [], j, h => absurd h (Nat.not_lt_zero j)
  | p :: L, 0, h => ⟨rfl, rfl⟩
  | p :: L, j + 1, h => by
    have ih := cellsS_get L j (by simpa using h)
    have e1 : (j + 1) * 2 = j * 2 + 1 + 1 := by omega
    rw [e1]
    exact ih
/-- A list of spans in memory. -/
def IsS (w : World) (p : Option Addr) (c : Nat) (L : List Pc) : Prop :=
  (p = none ∧ L.length = 0 ∧ c = 0) ∨ ∃ a : Addr, p = some a ∧ L.length ≤ 9223372036854775807 ∧ (0 < L.length → a.spot = none ∧ a.block < w.heap.size ∧ ∀ j (h : j < L.length), w.cell? ⟨a.block, a.off + j * 2, none⟩ = some (.int .i64 (L[j]).f) ∧ w.cell? ⟨a.block, a.off + j * 2 + 1, none⟩ = some (.int .i64 (L[j]).u))
theorem IsS.below {w w' : World} {p : Option Addr} {c : Nat} {L : List Pc} (h : IsS w p c L) (hb : Below w.heap.size w w') : IsS w' p c L := by
  rcases h with h | ⟨a, h1, h2, h3⟩
  · exact Or.inl h
  · refine Or.inr ⟨a, h1, h2, fun h0 => ?_⟩
    obtain ⟨h4, h5, h6⟩ := h3 h0
    exact ⟨h4, Nat.lt_of_lt_of_le h5 hb.size, fun j hj => ⟨(hb.cell (p := ⟨a.block, a.off + j * 2, none⟩) h5).trans (h6 j hj).1, (hb.cell (p := ⟨a.block, a.off + j * 2 + 1, none⟩) h5).trans (h6 j hj).2⟩⟩
theorem IsS.row {w : World} {p : Option Addr} {c : Nat} {L : List Pc} (h : IsS w p c L) (h0 : 0 < L.length) : ∃ b off, p = some ⟨b, off, none⟩ ∧ b < w.heap.size ∧ ∀ j (h : j < L.length), w.cell? ⟨b, off + j * 2, none⟩ = some (.int .i64 (L[j]).f) ∧ w.cell? ⟨b, off + j * 2 + 1, none⟩ = some (.int .i64 (L[j]).u) := by
  rcases h with ⟨_, h, _⟩ | ⟨⟨b, off, sp⟩, h1, _, h⟩
  · omega
  · obtain ⟨h2, h3⟩ := h h0
    simp only at h2
    subst h2
    exact ⟨b, off, h1, h3⟩
def SRes (w : World) (v : Value) (L : List Pc) : Prop := ∃ p c, v = .slice p L.length c ∧ IsS w p c L
theorem SRes.below {w w' : World} {v : Value} {L : List Pc} (h : SRes w v L) (hb : Below w.heap.size w w') : SRes w' v L := by
  obtain ⟨p, c, h1, h2⟩ := h
  exact ⟨p, c, h1, h2.below hb⟩
theorem own_sres {w : World} {K : Nat} {v : Value} {L : List Pc} (h : w.ownsRow K 33 2 v L.length (cellsS L)) : SRes w v L := by
  rcases h.2 with ⟨rfl, h0⟩ | ⟨g, cap, cur, rfl, hb, hg, hc, hm, hs, ht⟩
  · exact ⟨none, 0, by rw [h0], Or.inl ⟨rfl, h0, rfl⟩⟩
  · refine ⟨_, cap, rfl, Or.inr ⟨_, rfl, by unfold maxLen at hm; omega, fun h0 => ⟨rfl, (Array.getElem?_eq_some_iff.1 hg).1, fun j hj => ?_⟩⟩⟩
    have c1 := h.cells (g := g) rfl _ _ (cellsS_get L j hj).1
    have c2 := h.cells (g := g) rfl _ _ (cellsS_get L j hj).2
    rw [Addr.add_lit, Nat.zero_add] at c1 c2
    refine ⟨?_, ?_⟩
    · show w.cell? ⟨g, 0 + j * 2, none⟩ = _; rw [Nat.zero_add]; exact c1
    · show w.cell? ⟨g, 0 + j * 2 + 1, none⟩ = _; rw [Nat.zero_add]; exact c2
theorem news2 {w : World} {g : Nat} {y : Pc} (h0 : w.cell? ⟨g, 0, none⟩ = some (.int .i64 y.f)) (h1 : w.cell? ⟨g, 1, none⟩ = some (.int .i64 y.u)) : ∀ j u, (cellsS [y])[j]? = some u → w.cell? ((⟨g, 0, none⟩ : Addr).add j) = some u := fun j u hj => by
  rw [Addr.add_lit, Nat.zero_add]
  match j, hj with
  | 0, hj => simp [cellsS] at hj; subst hj; exact h0
  | 1, hj => simp [cellsS] at hj; subst hj; exact h1
/-- The spans of a list that says what V says. -/
def GoodS (V : Int → Int × Bool) (K : Nat) (w : World) (e : Ending) (w' : World) : Prop := ∃ v L, e = .returned (.tuple #[v, .int .i64 0]) ∧ SRes w' v L ∧ Gd L ∧ HvV V L ∧ L.length ≤ K ∧ Below w.heap.size w w'

set_option maxRecDepth 100000 in
set_option maxHeartbeats 4000000 in
theorem Changes_good (p q : Option Addr) (n c m c2 : Nat) (P Q : Nat → Pc) (w : World) (hA : IsP w p n c P) (hB : IsP w q m c2 Q) (gA : Gd (toL P n)) (gB : Gd (toL Q m)) (hn : n + m ≤ 400) :
    Calls Try.prog 25 #[.slice p n c, .slice q m c2] w (GoodS (chF (toL P n) (toL Q m)) (2 * (n + m)) w) := by
  obtain ⟨i0, hi, hz0, hz1, hz2⟩ := info_parts (P := Try.prog) (e := 33) (z := .agg #[.int .i64 0, .int .i64 0]) (size := 2) (bytes := 16) (by kernel_rfl)
  have US : Try.prog.underlying 39 = some (.slice 33) := by kernel_rfl
  obtain ⟨bA, bB, al⟩ := boxes p q n c m c2 P Q w hA hB
  have l0 := bA.2.1
  have m0 := bB.2.1
  have BA := Lib.hid bA
  have BB := Lib.hid bB
  have AL := Lib.hid al
  have CK := Lib.hid (fun V hV hW => checkBoth_any p q n c m c2 P Q V hV hW)
  rw [ck2_good gA gB (by omega) (by omega)] at CK
  have CM := Lib.hid (fun (V : World) (hV : BoxL V w.heap.size p n c P) (hW : BoxL V (w.heap.size + 1) q m c2 Q) => combined_any p q n c m c2 P Q 42 (.pointer (some ⟨w.heap.size, 0, none⟩)) (.pointer (some ⟨w.heap.size + 1, 0, none⟩)) (chF (toL P n) (toL Q m)) V hV.2.2 hW.2.2 gA gB (by omega) (by omega)
    (enters_of Try.func42 (by kernel_rfl) rfl) (fun d W hb => chFn_any w.heap.size (w.heap.size + 1) p q n c m c2 P Q d W (hV.below hb) (hW.below hb) gA gB (by omega) (by omega)))
  have CG := Lib.hid (fun (V : World) (e : Ending) (V' : World) (h : CombR (chF (toL P n) (toL Q m)) (toL P n) (toL Q m) V e V') => h.good (chF_ok _ _) gA gB)
  rw [toL_length, toL_length] at CG
  obtain ⟨W, hW⟩ : ∃ W, W = chF (toL P n) (toL Q m) := ⟨_, rfl⟩
  rw [← hW] at CM CG ⊢
  clear hA hB bA bB gA gB al hW
  generalize toL P n = A at *
  generalize toL Q m = B at *
  go_enter Try.func25, Try.ntmps25
  go_wp2_with fail
  generalize (w.alloc (.cells #[.slice p n c] 22)).alloc (.cells #[.slice q m c2] 22) = w0 at *
  refine (CK.out w0 BA.out.2.2 BB.out.2.2).mono ?_; rintro e w1 ⟨rfl, b1⟩
  have BA1 := Lib.hid (BA.out.below b1)
  have BB1 := Lib.hid (BB.out.below b1)
  have B1 := Lib.hid (AL.out.trans (b1.mono AL.out.size))
  have l0 := BA1.out.2.1
  have m0 := BB1.out.2.1
  clear b1 BA BB AL CK
  go_wp2_with fail
  refine (CM.out w1 BA1.out BB1.out).mono ?_; rintro e w2 h2
  obtain ⟨v, L, rfl, h3, h4, h5, h6, h7⟩ := CG.out _ _ _ h2
  obtain ⟨p3, c3, Q3, rfl, i3, e3⟩ := h3
  have LI := limited_any p3 L.length c3 w2 (by omega)
  rw [if_neg (by omega)] at LI
  have LI := Lib.hid LI
  have H3 := Lib.hid i3
  have E3 := Lib.hid e3
  have H4 := Lib.hid h4
  have H5 := Lib.hid h5
  have H6 := Lib.hid h6
  have B2 := Lib.hid (B1.out.trans (h7.mono B1.out.size))
  have NL : L.length ≤ 800 := by omega
  obtain ⟨l, hl⟩ : ∃ l, l = L.length := ⟨_, rfl⟩
  rw [← hl] at LI H3 E3 NL ⊢
  have HLL := Lib.hid hl
  clear h2 h4 h5 h6 h7 i3 e3 CM CG l0 m0 hl hn
  go_wp2_with fail
  refine LI.out.mono ?_; rintro e w3 ⟨rfl, rfl⟩
  obtain ⟨w4, mk, own4, g4⟩ := run_make_own (P := Try.prog) w3 w3.heap.size 39 33 i0 _ 2 US hi hz0 hz1 .i64 .i64 l (by rw [hz2]; omega) (by unfold maxLen; omega) (Nat.le_refl _)
  have O4 := Lib.hid own4
  have W4 := Lib.hid ((Below.refl w3.heap.size w3).grown g4 (Nat.le_refl _) (fun j hj => by cases hj))
  clear own4 g4 LI
  go_wp2_with fail
  go_loopg [9, 34] l (fun gg s9 s34 wr => ∃ k : Nat, k ≤ l ∧ l - k ≤ gg ∧ s34 = .int .i64 k ∧ Aside (wr.ownsRow w3.heap.size 33 2 s9 k (cellsS (toL Q3 k))) ∧ Aside (Below w3.heap.size w3 wr))
  case atStart => exact ⟨0, Nat.zero_le _, by omega, rfl, O4.out, W4.out⟩
  case round =>
    obtain ⟨k, hk, hg, rfl, OW, BW⟩ := hrel
    by_cases hlt : k < l
    · have hltz : (k : Int) < (l : Int) := by omega
      have hz0' : (0 : Int) ≤ (k : Int) := by omega
      obtain ⟨b, off, rfl, hp⟩ := (H3.out.below BW.out).row (by omega)
      obtain ⟨k0, k1, k2⟩ := hp.2 k hlt
      have TS := Lib.hid (show cellsS (toL Q3 (k + 1)) = cellsS (toL Q3 k) ++ cellsS [Q3 k] by rw [toL_succ, cellsS_append])
      clear hp mk
      generalize Q3 k = x at *
      generalize cellsS (toL Q3 k) = S at *
      have WA := Lib.hid ((BW.out.alloc BW.out.size (.cells #[.int .i64 x.f, .int .i64 x.u, .int .i64 x.v] 47)).alloc (by have := BW.out.size; simp; omega) (.cells #[.int .i64 x.f, .int .i64 x.u] 33))
      have OA := Lib.hid ((OW.out.alloc (.cells #[.int .i64 x.f, .int .i64 x.u, .int .i64 x.v] 47)).alloc (.cells #[.int .i64 x.f, .int .i64 x.u] 33))
      have NB := Lib.hid (news2 (w := (wr.alloc (.cells #[.int .i64 x.f, .int .i64 x.u, .int .i64 x.v] 47)).alloc (.cells #[.int .i64 x.f, .int .i64 x.u] 33)) (g := wr.heap.size + 1) (y := x) (by simp) (by simp))
      clear OW BW
      have S1 : k + 1 ≤ maxLen := by unfold maxLen; omega
      have S2 : (k + 1) * 16 ≤ 140737488355328 := by omega
      have S1 := Lib.hid S1
      have S2 := Lib.hid S2
      go_wp2_with (at_builtin; refine wpList_append_own_block rfl (.tmp 38) (.tmp 41) 39 rfl w3.heap.size 33 i0 (.agg #[.int .i64 0, .int .i64 0]) 2 16 US hi hz0 hz1 hz2 rfl (by decide) _ k S rfl OA.out ⟨wr.heap.size + 1, 0, none⟩ 1 1 (cellsS [x]) rfl rfl NB.out (cellsS_one _) S1.out S2.out WA.out.size Nat.one_pos ?_; intro v5 w5 own5 g5 _)
      have O5 := Lib.hid (show w5.ownsRow w3.heap.size 33 2 v5 (k + 1) (cellsS (toL Q3 (k + 1))) by rw [TS.out]; exact own5)
      have W5 := Lib.hid (WA.out.grown g5 WA.out.size (own_base OA.out))
      clear own5 g5 WA OA NB S1 S2 k0 k1 k2
      go_wp2_with fail
      go_roundg (l - (k + 1))
      case measure => omega
      case rel => exact ⟨k + 1, by omega, by omega, by go_num, O5.out, W5.out⟩
    · obtain rfl : k = l := by omega
      have hltz : ¬ (k : Int) < (k : Int) := by omega
      have OF := Lib.hid (show wr.ownsRow w3.heap.size 33 2 u9 L.length (cellsS L) by have := OW.out; rw [E3.out] at this; rw [← HLL.out]; exact this)
      have BF := Lib.hid (B2.out.trans (BW.out.mono B2.out.size))
      clear OW BW mk
      go_wp2_with fail
      go_ret2
      exact ⟨_, L, rfl, own_sres OF.out, H4.out, H5.out, H6.out, BF.out⟩
end Go.Proofs.Ytekigilhmdphnaa
