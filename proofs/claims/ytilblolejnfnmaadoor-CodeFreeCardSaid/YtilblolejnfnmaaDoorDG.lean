/- CodeFree. -/
import Derived.Test.YtilblolejnfnmaaDoorDF
namespace Go.Proofs.YtilblolejnfnmaaDoor
open Go.RowKit Go.Shelf

theorem set_last {w w' : World} {K cap : Nat} {g : Nat} {ns : List Nat} {i k : Nat} (h : w.ownsRow K 3 1 (.slice (some ⟨g, 0, none⟩) (ns.length + 1) cap) (ns.length + 1) ((ns ++ [i]).map encN)) (hw : w' = w.setCell ⟨g, ns.length, none⟩ (.int .i64 (k : Nat))) :
    IsN w' (.slice (some ⟨g, 0, none⟩) (ns.length + 1) cap) (ns ++ [k]) := by
  rcases h.2 with ⟨h0, _⟩ | ⟨g', cap', cur, hv, hb, hg, hc, _⟩
  · cases h0
  · obtain ⟨e1, _, rfl⟩ := Value.slice.inj hv
    cases e1
    have hlt := (Array.getElem?_eq_some_iff.1 hg).1
    have cell : ∀ j, j < ns.length + 1 → w.cell? ⟨g, j, none⟩ = (((ns ++ [i]).map encN)[j]?) := fun j hj => by
      obtain ⟨v, hv⟩ : ∃ v, ((ns ++ [i]).map encN)[j]? = some v := ⟨_, List.getElem?_eq_getElem (by simpa using hj)⟩
      have := h.cells (g := g) rfl j v hv
      rw [Addr.add_lit, Nat.zero_add] at this
      rw [this, hv]
    refine ⟨g, 0, cap, by simp, by rw [hw]; simpa using hlt, by simp; exact hc, fun j hj => ?_⟩
    have hj' : j < ns.length + 1 := by simpa using hj
    rw [Nat.zero_add, hw]
    by_cases e : j = ns.length
    · subst e
      rw [World.cell?_setCell_same' _ _ _ (by rw [cell _ hj']; simp)]
      simp
    · rw [World.cell?_setCell_other _ _ _ _ (fun h => e (by cases h; rfl)), cell j hj']
      have : j < ns.length := by omega
      rw [List.map_append, List.getElem?_append_left (by simpa using this), List.getElem?_map, List.getElem?_eq_getElem this, List.getElem_append_left this]
      rfl
theorem own_free {w : World} {K cap n : Nat} {g : Nat} {xs : List Value} (h : w.ownsRow K 3 1 (.slice (some ⟨g, 0, none⟩) n cap) n xs) (j : Nat) : w.frozen? ⟨g, j, none⟩ = false := by
  rcases h.2 with ⟨h0, _⟩ | ⟨g', cap', cur, hv, hb, hg, _⟩
  · cases h0
  · obtain ⟨e1, _, _⟩ := Value.slice.inj hv
    cases e1
    simp [World.frozen?, hg]
/-- The strings as texts. -/
theorem txts_of (n : Nat) (S : Nat → ByteArray) (h : ∀ j, j < n → (S j).size ≤ 100) : ∃ ts : List Txt, ts.length = n ∧ ∀ (j : Nat) x, ts[j]? = some x → x.1 = S j := by
  induction n with
  | zero => exact ⟨[], rfl, fun j x h => by simp at h⟩
  | succ n ih =>
    obtain ⟨ts, h1, h2⟩ := ih (fun j hj => h j (by omega))
    refine ⟨ts ++ [⟨S n, by have := h n (by omega); omega⟩], by simp [h1], fun j x hx => ?_⟩
    by_cases e : j < n
    · rw [List.getElem?_append_left (by omega)] at hx
      exact h2 j x hx
    · by_cases e2 : j = n
      · subst e2
        rw [List.getElem?_append_right (by omega), h1] at hx
        simp at hx
        rw [← hx]
      · rw [List.getElem?_eq_none (by simp; omega)] at hx
        cases hx
theorem isT_of {w : World} {q : Option Addr} {n c : Nat} {S : Nat → ByteArray} (hq : IsS w q n S) (hc : n ≤ c) {ts : List Txt} (h1 : ts.length = n) (h2 : ∀ (j : Nat) x, ts[j]? = some x → x.1 = S j) : IsT w (.slice q n c) ts := by
  subst h1
  refine ⟨q, c, rfl, hc, fun h0 => ?_⟩
  obtain ⟨g, off, e, hg, hcell⟩ := hq h0
  exact ⟨g, off, e, hg, fun j x hx => by rw [hcell j ((List.getElem?_eq_some_iff.1 hx).1), h2 j x hx]⟩
/-- The parent of what Free gives is the code above. -/
theorem parentFree (t ab : Txt) {ns : List Nat} {i : Nat} (pt : PR (bts t) (ns ++ [i])) (ha : Abv (bts ab) ns) (w : World) (hw : Lw w) :
    Calls Tryd.prog 11 #[.string t.1] w fun e w' => (∃ o, e = .returned (.tuple #[.string ab.1, .bool o])) ∧ Below w.heap.size w w' := by
  rcases parentOk t pt w hw with ⟨h2, p, pp, c⟩ | ⟨h1, c⟩
  · rw [List.dropLast_concat] at pp
    rcases ha with ⟨_, rfl⟩ | ha
    · simp at h2
    · obtain rfl : p = ab := Txt.ext (pp.text ha)
      exact c.mono fun e w' ⟨h, b⟩ => ⟨⟨_, h⟩, b⟩
  · have n0 : ns = [] := by simpa using h1
    rcases ha with ⟨ha, _⟩ | ha
    · have : ab.1 = ⟨#[]⟩ := bts_eq ha
      rw [this]
      exact c.mono fun e w' ⟨h, b⟩ => ⟨⟨_, h⟩, b⟩
    · have := ha.pos
      rw [n0] at this
      simp at this

set_option maxRecDepth 100000 in
set_option maxHeartbeats 8000000 in
theorem free_law (q : Option Addr) (n c : Nat) (S : Nat → ByteArray) (above : ByteArray) (m : Int) (m0 : 0 ≤ m) (m1 : m ≤ 65535) (w : World) (hw : Lw w) (hq : IsS w q n S) (hnc : n ≤ c) :
    Calls Tryd.prog 6 #[.slice q n c, .string above, .int .u16 m] w fun e w' => e = .returned (.bool true) ∧ Below w.heap.size w w' := by
  have AW := Lib.hid (awake_any w hw)
  have HW := Lib.hid hw
  have HQ := Lib.hid hq
  clear hw hq
  by_cases ln : 30 < n
  · have d : decide (30 < (n : Int)) = true := by simpa using (by omega : (30 : Int) < (n : Int))
    clear ln
    go_enter Tryd.func6, Tryd.ntmps6
    go_wp2_with fail
    refine AW.out.mono ?_; rintro e w1 ⟨rfl, b1⟩
    have B1 := Lib.hid b1
    clear b1
    go_wp2_with fail
    go_ret
    exact ⟨rfl, B1.out⟩
  have dn : decide (30 < (n : Int)) = false := by simpa using (by omega : (n : Int) ≤ 30)
  have L30 := Lib.hid (show n ≤ 30 by omega)
  clear ln
  have cab : (∃ d : decide (100 < (above.size : Int)) = true, True) ∨ (decide (100 < (above.size : Int)) = false ∧ above.size ≤ 100) := by
    by_cases h : 100 < above.size
    · exact Or.inl ⟨by simpa using (by omega : (100 : Int) < (above.size : Int)), trivial⟩
    · exact Or.inr ⟨by simpa using (by omega : (above.size : Int) ≤ 100), by omega⟩
  have CAB := Lib.hid cab
  clear cab
  go_enter Tryd.func6, Tryd.ntmps6
  go_wp2_with fail
  refine AW.out.mono ?_; rintro e w1 ⟨rfl, b1⟩
  have B1 := Lib.hid b1
  have FW := Lib.hid (few_any q n c S w1 (HQ.out.below b1))
  clear b1 AW
  go_wp2_with fail
  refine FW.out.mono ?_; rintro e w2 ⟨z, rfl, hz, rfl⟩
  cases z with
  | false =>
    clear hz FW
    go_wp2_with fail
    go_ret
    exact ⟨rfl, B1.out⟩
  | true =>
    have FP := Lib.hid (hz.1 rfl)
    clear hz FW
    rcases CAB.out with ⟨d, _⟩ | ⟨d, la⟩
    · clear CAB
      go_wp2_with fail
      go_ret
      exact ⟨rfl, B1.out⟩
    · obtain ⟨ts, h1, h2⟩ := txts_of n S FP.out.2.2
      have IT := Lib.hid (fun V (hV : Below w.heap.size w V) => isT_of (HQ.out.below hV) hnc h1 h2)
      obtain ⟨xa, rfl⟩ : ∃ x : Txt, x.1 = above := ⟨⟨above, by omega⟩, rfl⟩
      have FR := Lib.hid (Free_any (.slice q n c) ts xa w1 (HW.out.below B1.out HW.out.n0) (IT.out w1 B1.out))
      have TL := Lib.hid (show ts.length ≤ 9223372036854775807 by have := L30.out; omega)
      clear CAB h1 h2 la
      go_wp2_with fail
      refine FR.out.mono ?_; rintro e w2 ⟨⟨t, ⟨ns, i, g1, g2, g3, g4, g5, g6, g7, g8, g9⟩, rfl⟩ | ⟨k, fe, rfl⟩, b2⟩
      · have B2 := Lib.hid (B1.out.trans (b2.mono B1.out.size))
        have ok : OkN (ns ++ [i]) := ⟨by simp, by simp; omega, fun a ha => by
          rcases List.mem_append.1 ha with h | h
          · exact g1.rng a h
          · obtain rfl : a = i := by simpa using h
            exact ⟨g3, g4⟩⟩
        have pt : PR (bts t) (ns ++ [i]) := by rw [g9]; exact ok.pr
        have PT := Lib.hid pt
        have P1 := Lib.hid (Parse_any t w2 (HW.out.below B2.out HW.out.n0))
        have P2 := Lib.hid (fun V hV => parentFree t xa pt g1 V hV)
        have C1 := Lib.hid (fun V (hV : Below w.heap.size w V) => contains_any (.slice q n c) ts t.1 V (IT.out V hV) TL.out)
        have NO := Lib.hid (show ¬ ∃ y ∈ ts, y.1 = t.1 from fun ⟨y, hy, e⟩ => g7 y hy (by rw [show y = t from Subtype.ext e]; exact pt))
        have IR := Lib.hid (And.intro g3 g4)
        have OKA := Lib.hid (fun (k : Nat) (a : 1 ≤ k) (b : k ≤ 999) => show OkN (ns ++ [k]) from ⟨by simp, by simp; omega, fun a ha => by
          rcases List.mem_append.1 ha with h | h
          · exact g1.rng a h
          · obtain rfl : a = k := by simpa using h
            exact ⟨by omega, by omega⟩⟩)
        have TK := Lib.hid g8
        have L5 := Lib.hid g2
        clear b2 FR g1 g2 g3 g4 g5 g6 g7 g8 g9 ok pt
        go_wp2_with fail
        refine P1.out.mono ?_; rintro e w3 ⟨⟨v, ms, p1, rfl, ow⟩ | ⟨no, _⟩, b3⟩
        rotate_right
        · exact absurd PT.out (no _)
        obtain rfl := p1.one PT.out
        have B3 := Lib.hid (B2.out.trans (b3.mono B2.out.size))
        rcases ow.2 with ⟨_, h0⟩ | ⟨g, cap, cur, rfl, hb, hg, hcc, _⟩
        · simp at h0
        have OW := Lib.hid (show w3.ownsRow (w2.heap.size + 6) 3 1 (.slice (some ⟨g, 0, none⟩) (ns.length + 1) cap) (ns.length + 1) ((ns ++ [i]).map encN) by rw [show ns.length + 1 = (ns ++ [i]).length by simp]; exact ow)
        have GB := Lib.hid (show w.heap.size ≤ g by have := B2.out.size; omega)
        have GL := Lib.hid ((Array.getElem?_eq_some_iff.1 hg).1)
        rw [show (ns ++ [i]).length = ns.length + 1 by simp]
        obtain ⟨L, hL⟩ : ∃ L, L = ns.length := ⟨_, rfl⟩
        have HL := Lib.hid hL
        rw [← hL] at OW L5 ⊢
        have P2' := Lib.hid (P2.out w3 (HW.out.below B3.out HW.out.n0))
        clear p1 ow hb hg hcc b3 P1 P2 hL B2
        go_wp2_with fail
        refine P2'.out.mono ?_; rintro e w4 ⟨⟨o, rfl⟩, b4⟩
        have B4 := Lib.hid (B3.out.trans (b4.mono B3.out.size))
        have OW4 := Lib.hid (OW.out.kept (gb_below (r := none) b4) (Or.inr (by simp [Value.ownBlock])))
        have GL4 := Lib.hid (Nat.lt_of_lt_of_le GL.out b4.size)
        have C4 := Lib.hid (C1.out w4 B4.out)
        clear b4 P2' B3 OW GL
        go_wp2_with fail
        refine C4.out.mono ?_; rintro e w5 ⟨z, rfl, hz, hw5⟩
        obtain rfl : w4 = w5 := hw5.symm
        obtain rfl : z = false := by
          cases z with
          | false => rfl
          | true => exact absurd (hz.1 rfl) NO.out
        have l5 : L < 6 := L5.out
        have cl : w4.cell? ⟨g, L, none⟩ = some (.int .i64 (i : Nat)) := by
          have := OW4.out.cells (g := g) rfl L (.int .i64 (i : Nat)) (by rw [HL.out]; simp [encN])
          rwa [Addr.add_lit, Nat.zero_add] at this
        have fr := own_free OW4.out L
        clear hz C4
        by_cases hge : (i : Int) ≤ 1 + m % 999
        · have D : decide ((i : Int) ≤ 1 + m % 999) = true := by simpa using hge
          clear hge
          go_wp2_with fail
          go_ret
          exact ⟨rfl, B4.out⟩
        · have D : decide ((i : Int) ≤ 1 + m % 999) = false := by simpa using hge
          obtain ⟨k, hk⟩ : ∃ k : Nat, 1 + m % 999 = (k : Int) := ⟨(1 + m % 999).toNat, by omega⟩
          have kr : 1 ≤ k ∧ k ≤ 999 ∧ k < i := by omega
          have okk := OKA.out k kr.1 kr.2.1
          obtain ⟨w5, hw5⟩ : ∃ w5, w5 = w4.setCell ⟨g, L, none⟩ (.int .i64 (1 + m % 999)) := ⟨_, rfl⟩
          have B5 : Below w.heap.size w w5 := by rw [hw5]; exact B4.out.setCell (p := ⟨g, L, none⟩) GB.out _
          have I5 : IsN w5 (.slice (some ⟨g, 0, none⟩) (L + 1) cap) (ns ++ [k]) := by
            have h := set_last (k := k) (w' := w5) (ns := ns) (i := i) (K := w2.heap.size + 6) (cap := cap) (g := g) (w := w4) (by rw [← HL.out]; exact OW4.out) (by rw [hw5, HL.out, hk])
            rwa [← HL.out] at h
          have FM := fmtOk _ okk rfl w5 (HW.out.below B5 HW.out.n0) I5.z (fmtT _ okk) (fmtT_bts _ okk)
          rw [hw5] at FM
          have FMh := Lib.hid FM
          have B5h := Lib.hid (show Below w.heap.size w (w4.setCell ⟨g, L, none⟩ (.int .i64 (1 + m % 999))) by rw [← hw5]; exact B5)
          have YES := Lib.hid (show ∃ y ∈ ts, y.1 = (fmtT _ okk).1 by
            obtain ⟨y, hy, hp⟩ := TK.out k kr.1 kr.2.2
            exact ⟨y, hy, by rw [show y = fmtT _ okk from Txt.ext (hp.ok.2.trans (fmtT_bts _ okk).symm)]⟩)
          have C6 := Lib.hid (fun V (hV : Below w.heap.size w V) => contains_any (.slice q n c) ts (fmtT _ okk).1 V (IT.out V hV) TL.out)
          generalize fmtT _ okk = t6 at *
          clear hge hk kr okk hw5 B5 I5 FM
          go_wp2_with fail
          refine FMh.out.mono ?_; rintro e w6 ⟨rfl, b6⟩
          have B6 := Lib.hid (B5h.out.trans (b6.mono B5h.out.size))
          have C6' := Lib.hid (C6.out w6 B6.out)
          clear b6 FMh C6
          go_wp2_with fail
          refine C6'.out.mono ?_; rintro e w7 ⟨z, rfl, hz, hw7⟩
          obtain rfl : w6 = w7 := hw7.symm
          obtain rfl : z = true := hz.2 YES.out
          clear hz C6'
          go_wp2_with fail
          go_ret
          exact ⟨rfl, B6.out⟩
      · have B2 := Lib.hid (B1.out.trans (b2.mono B1.out.size))
        clear b2 FR
        rcases fe with ⟨rfl, _⟩ | ⟨rfl, _⟩ | ⟨rfl, _⟩
        all_goals
          go_wp2_with fail
          go_ret
          exact ⟨rfl, B2.out⟩
end Go.Proofs.YtilblolejnfnmaaDoor
