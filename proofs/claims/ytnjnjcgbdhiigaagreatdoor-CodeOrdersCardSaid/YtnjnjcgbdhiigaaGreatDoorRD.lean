/- The reference's Format, Parent, SameInts. -/
import Derived.Test.YtnjnjcgbdhiigaaGreatDoorRC
namespace Go.Proofs.YtnjnjcgbdhiigaaGreatDoor
open Go.RowKit Go.Shelf

theorem jn_snoc : ∀ (L : List (List UInt8)) (p : List UInt8), L ≠ [] → jn (L ++ [p]) = jn L ++ 46 :: p
  | [], _, h => absurd rfl h
  | [a], _, _ => rfl
  | a :: b :: r, p, _ => by
    have ih := jn_snoc (b :: r) p (by simp)
    show a ++ 46 :: jn (b :: (r ++ [p])) = (a ++ 46 :: jn (b :: r)) ++ 46 :: p
    rw [show b :: (r ++ [p]) = (b :: r) ++ [p] from rfl, ih]
    simp
/-- The text of some numbers of the list. -/
def jz (zs : List Int) : List UInt8 := jn (zs.map fun z => dec z.toNat)
theorem jz_snoc (zs : List Int) (z : Int) : jz (zs ++ [z]) = (if zs = [] then [] else jz zs ++ [46]) ++ dec z.toNat := by
  unfold jz
  by_cases h : zs = []
  · subst h; simp [jn]
  · rw [if_neg h, List.map_append, List.map_cons, List.map_nil, jn_snoc _ _ (by simpa using h)]
    simp
theorem jz_len : ∀ zs : List Int, (∀ z ∈ zs, 1 ≤ z ∧ z ≤ 999) → (jz zs).length ≤ 4 * zs.length := fun zs h => by
  have := jn_len (zs.map fun z => dec z.toNat) (fun p hp => by
    obtain ⟨z, hz, rfl⟩ := List.mem_map.1 hp
    have := h z hz
    exact (dec_dot (by omega)).2)
  rw [List.length_map] at this
  exact this
set_option maxRecDepth 100000 in
set_option maxHeartbeats 4000000 in
theorem rFormat_any (v : Value) (zs : List Int) (w : World) (hv : IsZ w v zs) : Calls Tryz.prog 11 #[v] w (FmR zs w) := by
  obtain ⟨p, c, rfl, hc, hp⟩ := hv
  by_cases h0 : zs.length < 1
  · have N := Lib.hid (show ∀ ns, zs = ints ns → ¬ OkN ns from fun ns e o => o.1 (by have := congrArg List.length e; exact List.length_eq_zero_iff.1 (by simp [ints] at this; omega)))
    have d : decide ((zs.length : Int) < 1) = true := by simpa using (by omega : (zs.length : Int) < 1)
    clear hp h0
    generalize zs.length = n at *
    go_enter Tryz.func11, Tryz.ntmps11
    go_wp2_with fail
    go_ret2
    exact ⟨Or.inr ⟨N.out, rfl⟩, Below.refl _ _⟩
  have d0 : decide ((zs.length : Int) < 1) = false := by simpa using (by omega : (1 : Int) ≤ (zs.length : Int))
  by_cases h6 : 6 < zs.length
  · have N := Lib.hid (show ∀ ns, zs = ints ns → ¬ OkN ns from fun ns e o => by have := congrArg List.length e; have h := o.2.1; simp [ints] at this; omega)
    have d : decide (6 < (zs.length : Int)) = true := by simpa using (by omega : (6 : Int) < (zs.length : Int))
    clear hp h0 h6
    generalize zs.length = n at *
    go_enter Tryz.func11, Tryz.ntmps11
    go_wp2_with fail
    go_ret2
    exact ⟨Or.inr ⟨N.out, rfl⟩, Below.refl _ _⟩
  have d6 : decide (6 < (zs.length : Int)) = false := by simpa using (by omega : (zs.length : Int) ≤ 6)
  obtain ⟨g, off, rfl, hg, hcell⟩ := hp (by omega)
  have HC := Lib.hid hcell
  have L6 := Lib.hid (show zs.length ≤ 6 by omega)
  have L0 := Lib.hid (show 0 < zs.length by omega)
  clear hp hcell hg h0 h6
  obtain ⟨n, hn⟩ : ∃ n, n = zs.length := ⟨_, rfl⟩
  rw [← hn] at d0 d6 hc L6 L0 ⊢
  have HN := Lib.hid hn
  clear hn
  go_enter Tryz.func11, Tryz.ntmps11
  go_wp2_with fail
  clear d0 d6
  go_loopw [4, 5] (fun st si wr => ∃ (k : Nat) (t : ByteArray), k ≤ n ∧ st = .string t ∧ si = .int .i64 k ∧ t.size ≤ 100 ∧ Hid (t.data.toList = jz (zs.take k) ∧ (∀ z ∈ zs.take k, 1 ≤ z ∧ z ≤ 999) ∧ ∃ q, wr = w.drewN q)) (fun _ si _ => n - (intOf si).toNat)
  case atStart => exact ⟨0, ⟨#[]⟩, Nat.zero_le _, rfl, rfl, by decide, rfl, (fun z h => by simp at h), 0, rfl⟩
  case round =>
    obtain ⟨k, t, hk, rfl, rfl, ht, hrel⟩ := hrel
    obtain ⟨qd, rfl⟩ := hrel.out.2.2
    have L6' := L6.out
    by_cases hlt : k < n
    · have hlt' : k < zs.length := by rw [← HN.out]; exact hlt
      obtain ⟨z, hz⟩ : ∃ z, zs[k]? = some z := ⟨_, List.getElem?_eq_getElem hlt'⟩
      have cz : (w.drewN qd).cell? ⟨g, off + k, none⟩ = some (.int .i64 z) := by
        show w.cell? ⟨g, off + k, none⟩ = _
        rw [HC.out k hlt', show z = zs[k] from (Option.some.inj ((List.getElem?_eq_getElem hlt').symm.trans hz)).symm]
      have HZ := Lib.hid hz
      clear hz hlt'
      by_cases z1 : z < 1
      · have N := Lib.hid (show ∀ ns, zs = ints ns → ¬ OkN ns from fun ns e o => by
          have hm : z ∈ ints ns := by rw [← e]; exact List.mem_of_getElem? HZ.out
          obtain ⟨m, hm1, hm2⟩ := List.mem_map.1 hm
          have := o.2.2 m hm1
          have : (m : Int) = z := hm2
          omega)
        have BB := Lib.hid (below_drewN w qd)
        have D : decide (z < 1) = true := by simpa using z1
        clear hrel z1
        go_wp2_with fail
        go_ret2
        exact ⟨Or.inr ⟨N.out, rfl⟩, BB.out⟩
      have D1 : decide (z < 1) = false := by simpa using z1
      by_cases z2 : 999 < z
      · have N := Lib.hid (show ∀ ns, zs = ints ns → ¬ OkN ns from fun ns e o => by
          have hm : z ∈ ints ns := by rw [← e]; exact List.mem_of_getElem? HZ.out
          obtain ⟨m, hm1, hm2⟩ := List.mem_map.1 hm
          have := o.2.2 m hm1
          have : (m : Int) = z := hm2
          omega)
        have BB := Lib.hid (below_drewN w qd)
        have D : decide (999 < z) = true := by simpa using z2
        clear hrel z1 z2
        go_wp2_with fail
        go_ret2
        exact ⟨Or.inr ⟨N.out, rfl⟩, BB.out⟩
      have D2 : decide (999 < z) = false := by simpa using z2
      have DC := decimal_any z.toNat (by omega) (w.drewN qd)
      rw [show ((z.toNat : Nat) : Int) = z by omega] at DC
      obtain ⟨td, htd⟩ : ∃ td : ByteArray, td = ⟨(dec z.toNat).toArray⟩ := ⟨_, rfl⟩
      rw [← htd] at DC
      have DCh := Lib.hid DC
      have tds : td.size ≤ 3 := by rw [htd, mk_size]; exact (dec_dot (by omega)).2
      have RG := Lib.hid (show ∀ y ∈ zs.take (k + 1), 1 ≤ y ∧ y ≤ 999 from fun y hy => by
        rw [List.take_add_one, HZ.out] at hy
        rcases List.mem_append.1 hy with a | a
        · exact hrel.out.2.1 y a
        · obtain rfl : y = z := by simpa using a
          omega)
      have JL := Lib.hid (show (jz (zs.take (k + 1))).length ≤ 100 by
        have := jz_len _ RG.out
        rw [List.length_take] at this
        omega)
      have JS := Lib.hid (show jz (zs.take (k + 1)) = (if zs.take k = [] then [] else jz (zs.take k) ++ [46]) ++ dec z.toNat by
        rw [List.take_add_one, HZ.out]; exact jz_snoc _ _)
      clear DC z1 z2
      have TT := Lib.hid hrel.out.1
      have ZC := Lib.hid (show 0 < k → zs.take k ≠ [] from fun h e => by
        have := congrArg List.length e
        rw [List.length_take, List.length_nil] at this
        have := HN.out
        omega)
      have HTD := Lib.hid (show td.data.toList = dec z.toNat by rw [htd, mk_list])
      clear htd hrel
      by_cases k0 : 0 < k
      · have D3 : decide (0 < k) = true := decide_eq_true k0
        have RES := Lib.hid (show ((t ++ ⟨#[46]⟩) ++ td).data.toList = jz (zs.take (k + 1)) by
          rw [JS.out, if_neg (ZC.out k0), ← TT.out, ← HTD.out]
          simp)
        have RS := Lib.hid (show ((t ++ ⟨#[46]⟩) ++ td).size ≤ 100 by have := JL.out; rw [← RES.out, len_sz] at this; exact this)
        have sz1 : (t ++ ⟨#[46]⟩).size ≤ 101 := by rw [ByteArray.size_append]; show t.size + 1 ≤ 101; omega
        clear k0
        go_wp2_with fail
        refine DCh.out.mono ?_; rintro e w1 ⟨rfl, q2, rfl⟩
        go_wp2_with fail
        go_roundw
        case rel => exact ⟨k + 1, _, by omega, rfl, by go_num, RS.out, RES.out, RG.out, _, rfl⟩
        case measure => simp [intOf]; omega
      · have D3 : decide (0 < k) = false := decide_eq_false k0
        have RES := Lib.hid (show (t ++ td).data.toList = jz (zs.take (k + 1)) by
          rw [JS.out, show k = 0 by omega, List.take_zero, if_pos rfl, List.nil_append, ← HTD.out]
          have : t.data.toList = [] := by rw [TT.out, show k = 0 by omega]; rfl
          simp [this])
        have RS := Lib.hid (show (t ++ td).size ≤ 100 by have := JL.out; rw [← RES.out, len_sz] at this; exact this)
        clear k0
        go_wp2_with fail
        refine DCh.out.mono ?_; rintro e w1 ⟨rfl, q2, rfl⟩
        go_wp2_with fail
        go_roundw
        case rel => exact ⟨k + 1, _, by omega, rfl, by go_num, RS.out, RES.out, RG.out, _, rfl⟩
        case measure => simp [intOf]; omega
    · obtain rfl : k = n := by omega
      have e1 : zs.take k = zs := List.take_of_length_le (by rw [← HN.out]; exact Nat.le_refl _)
      have h1 := hrel.out.1
      have h2 := hrel.out.2.1
      rw [e1] at h1 h2
      obtain ⟨ns, e2, e3, e4, e5⟩ := ints_of h2
      have OK := Lib.hid (show OkN ns from ⟨fun e => by have h1 := L0.out; have h2 := HN.out; rw [e] at e3; simp at e3; omega, by have h1 := L6.out; have h2 := HN.out; omega, e4⟩)
      have TX := Lib.hid (show t.data.toList = cd ns by
        rw [h1]; unfold jz cd; rw [e5]; unfold txts; rw [List.map_map]; congr 1)
      have E2 := Lib.hid e2
      have BB := Lib.hid (below_drewN w qd)
      clear h1 h2 e1 e2 e3 e4 e5 hrel
      go_wp2_with fail
      go_ret2
      exact ⟨Or.inl ⟨ns, ⟨t, by omega⟩, OK.out, E2.out, TX.out, rfl⟩, BB.out⟩
end Go.Proofs.YtnjnjcgbdhiigaaGreatDoor
