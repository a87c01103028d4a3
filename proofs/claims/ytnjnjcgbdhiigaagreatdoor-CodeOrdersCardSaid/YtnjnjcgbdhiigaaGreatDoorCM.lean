/- Format: the walk. -/
import Derived.Test.YtnjnjcgbdhiigaaGreatDoorCL
import Derived.OwnWalk
namespace Go.Proofs.YtnjnjcgbdhiigaaGreatDoor
open Go.RowKit Go.Shelf

def encT' (l : List ByteArray) : List Value := l.map Value.string
set_option maxRecDepth 100000 in
set_option maxHeartbeats 2000000 in
theorem Format_any (v : Value) (zs : List Int) (w : World) (hw : Lw w) (hv : IsZ w v zs) (hr : ∀ z ∈ zs, -9223372036854775808 ≤ z ∧ z ≤ 9223372036854775807) : Calls Tryz.prog 10 #[v] w (FmR zs w) := by
  obtain ⟨p, c, rfl, hc, hp⟩ := hv
  by_cases h0 : zs.length = 0
  · have N := Lib.hid (show ∀ ns, zs = ints ns → ¬ OkN ns from fun ns e o => o.1 (by have := congrArg List.length e; rw [h0] at this; exact List.length_eq_zero_iff.1 (by simpa [ints] using this.symm)))
    rw [h0]
    clear hp h0
    go_enter Tryz.func10, Tryz.ntmps10
    go_wp2_with fail
    go_ret2
    exact ⟨Or.inr ⟨N.out, rfl⟩, Below.refl _ _⟩
  by_cases h6 : 6 < zs.length
  · have N := Lib.hid (show ∀ ns, zs = ints ns → ¬ OkN ns from fun ns e o => by have := congrArg List.length e; have h := o.2.1; simp [ints] at this; omega)
    have d : decide (6 < (zs.length : Int)) = true := by simpa using (by omega : (6 : Int) < (zs.length : Int))
    have d0 : ((zs.length : Int) == 0) = false := by simpa using h0
    clear hp
    generalize zs.length = n at *
    go_enter Tryz.func10, Tryz.ntmps10
    go_wp2_with fail
    go_ret2
    exact ⟨Or.inr ⟨N.out, rfl⟩, Below.refl _ _⟩
  have US : Tryz.prog.underlying 33 = some (.slice 9) := by kernel_rfl
  obtain ⟨i0, hi, hz0, hz1, hz2⟩ := info_parts (P := Tryz.prog) (e := 9) (z := .string ⟨#[]⟩) (size := 1) (bytes := 16) (by kernel_rfl)
  obtain ⟨g, off, rfl, hg, hcell⟩ := hp (by omega)
  have d : decide (6 < (zs.length : Int)) = false := by simpa using (by omega : (zs.length : Int) ≤ 6)
  have d0 : ((zs.length : Int) == 0) = false := by simpa using h0
  have HW := Lib.hid hw
  have HC := Lib.hid hcell
  have HR := Lib.hid hr
  have HG := Lib.hid hg
  have L6 := Lib.hid (show zs.length ≤ 6 by omega)
  have L0 := Lib.hid (show 0 < zs.length by omega)
  clear hw hp hcell hr hg h0 h6
  obtain ⟨n, hn⟩ : ∃ n, n = zs.length := ⟨_, rfl⟩
  rw [← hn] at d d0 hc L6 L0 ⊢
  have HN := Lib.hid hn
  clear hn
  have b1 := Lib.hid (show i0.bytes * n ≤ 281474976710656 by rw [hz2]; have := L6.out; omega)
  have b2 := Lib.hid (show n ≤ maxLen by unfold maxLen; have := L6.out; omega)
  go_enter Tryz.func10, Tryz.ntmps10
  go_wp2_with (at_make; refine wpList_make_own _ rfl _ _ 33 rfl w.heap.size 9 i0 (.string ⟨#[]⟩) 1 US hi hz0 hz1 _ _ _ n rfl rfl rfl b1.out b2.out (Nat.le_refl _) ?_)
  intro w4 own4 grow4
  have B4 := (Below.refl w.heap.size w).grown grow4 (Nat.le_refl _) (fun k hk => by cases hk)
  have O4 := Lib.hid own4
  have G4 := Lib.hid B4
  clear own4 grow4 B4 d d0
  go_wp2_with fail
  go_loopw [4, 20] (fun sd si wr => ∃ k : Nat, k ≤ n ∧ sd = .slice (some ⟨w.heap.size, 0, none⟩) k n ∧ si = .int .i64 k ∧ Hid (wr.ownsRow w.heap.size 9 1 (.slice (some ⟨w.heap.size, 0, none⟩) k n) k (encT' (txts (zs.take k))) ∧ Below w.heap.size w wr ∧ ∀ z ∈ zs.take k, 1 ≤ z ∧ z ≤ 999))
    (fun _ si _ => n - (intOf si).toNat)
  case atStart => exact ⟨0, Nat.zero_le _, rfl, rfl, O4.out, G4.out, fun z h => by simp at h⟩
  case round =>
    obtain ⟨k, hk, rfl, rfl, hrel⟩ := hrel
    clear O4 G4
    by_cases hlt : k < n
    · have hlt' : k < zs.length := by rw [← HN.out]; exact hlt
      obtain ⟨z, hz⟩ : ∃ z, zs[k]? = some z := ⟨_, List.getElem?_eq_getElem hlt'⟩
      have zr := HR.out z (List.mem_of_getElem? hz)
      have cz : wr.cell? ⟨g, off + k, none⟩ = some (.int .i64 z) := by rw [show z = zs[k] from (Option.some.inj ((List.getElem?_eq_getElem hlt').symm.trans hz)).symm, ← HC.out k hlt']; exact hrel.out.2.1.cell (p := ⟨g, off + k, none⟩) HG.out
      have IN := Lib.hid (fun V => isNumber_any z V)
      have HZ := Lib.hid hz
      have ZR := Lib.hid zr
      clear hz zr hlt'
      by_cases hb : 1 ≤ z ∧ z ≤ 999
      · rw [decide_eq_true hb] at IN
        have IT := Lib.hid (Any.strconv_Itoa Tryz.laysM171 z ZR.out.1 ZR.out.2 wr (HW.out.below hrel.out.2.1 HW.out.n0).tab)
        rw [itoa_dec hb.1] at IT
        have HB := Lib.hid hb
        clear hb
        go_wp2_with fail
        refine (IN.out _).mono ?_; rintro e w5 ⟨rfl, h5⟩; obtain rfl : wr = w5 := h5.symm
        go_wp2_with fail
        refine IT.out.mono ?_; rintro e w6 ⟨rfl, q, os, h6⟩
        have b6 : Below wr.heap.size wr w6 := by rw [h6]; exact Lib.below_grow wr.heap.size wr (Nat.le_refl _) q os
        have OA := Lib.hid ((hrel.out.1.kept (gb_below (r := none) b6) (Or.inr (by simp [Value.ownBlock]))).alloc (.cells #[.string ⟨(dec z.toNat).toArray⟩] 9))
        have B6 := Lib.hid ((hrel.out.2.1.trans (b6.mono hrel.out.2.1.size)).alloc (by have := hrel.out.2.1.size; have := b6.size; omega) (.cells #[.string ⟨(dec z.toNat).toArray⟩] 9))
        clear h6 b6
        go_wp2_with (at_builtin; refine wpList_append_fits _ rfl _ _ 33 rfl w.heap.size 9 i0 1 US hi hz1 w.heap.size k n _ rfl OA.out ⟨w6.heap.size, 0, none⟩ 1 1 [.string ⟨(dec z.toNat).toArray⟩] rfl rfl (cell_one_new _ _ _) (by simp [Value.oneCell']) (by omega) ?_)
        intro w7 own7 g7
        have B7 := Lib.hid (B6.out.grown g7 B6.out.size (fun k hk => by cases hk; exact Nat.le_refl _))
        have O7 := Lib.hid (show w7.ownsRow w.heap.size 9 1 (.slice (some ⟨w.heap.size, 0, none⟩) (k + 1) n) (k + 1) (encT' (txts (zs.take (k + 1)))) by
          rw [List.take_add_one, HZ.out]
          unfold txts encT' at own7 ⊢
          rw [List.map_append, List.map_append]
          exact own7)
        have R7 := Lib.hid (show ∀ z ∈ zs.take (k + 1), 1 ≤ z ∧ z ≤ 999 from fun y hy => by
          rw [List.take_add_one, HZ.out] at hy
          rcases List.mem_append.1 hy with a | a
          · exact hrel.out.2.2 y a
          · obtain rfl : y = z := by simpa using a
            exact HB.out)
        clear own7 g7 OA B6 hrel
        have k6 : k < 6 := by have := L6.out; omega
        go_wp2_with fail
        go_roundw
        case rel => exact ⟨k + 1, by omega, rfl, by go_num, O7.out, B7.out, R7.out⟩
        case measure => simp [intOf]; omega
      · rw [decide_eq_false hb] at IN
        have N := Lib.hid (show ∀ ns, zs = ints ns → ¬ OkN ns from fun ns e o => by
          have hm : z ∈ ints ns := by rw [← e]; exact List.mem_of_getElem? HZ.out
          obtain ⟨m, hm1, hm2⟩ := List.mem_map.1 hm
          have := o.2.2 m hm1
          have : (m : Int) = z := hm2
          omega)
        have BB := Lib.hid hrel.out.2.1
        clear hb hrel
        go_wp2_with fail
        refine (IN.out _).mono ?_; rintro e w5 ⟨rfl, h5⟩; obtain rfl : wr = w5 := h5.symm
        go_wp2_with fail
        go_ret2
        exact ⟨Or.inr ⟨N.out, rfl⟩, BB.out⟩
    · obtain rfl : k = n := by omega
      clear hlt hk
      obtain ⟨own, B, R⟩ := hrel.out
      rw [List.take_of_length_le (by rw [← HN.out]; exact Nat.le_refl _)] at own R
      obtain ⟨ns, e1, e2, e3, e4⟩ := ints_of R
      have OK : OkN ns := ⟨fun e => by have h1 := L0.out; have h2 := HN.out; rw [e] at e2; simp at e2; omega, by have h1 := L6.out; have h2 := HN.out; omega, e3⟩
      have ln : (txts zs).length = k := by rw [HN.out]; simp [txts]
      have cells : ∀ (j : Nat) x, (txts zs)[j]? = some x → wr.cell? ⟨w.heap.size, 0 + j, none⟩ = some (.string x) := fun j x hj => by
        have h := own.cells (g := w.heap.size) rfl j (.string x) (by unfold encT'; rw [List.getElem?_map, hj]; rfl)
        rw [Addr.add_lit] at h
        exact h
      have hs : w.heap.size < wr.heap.size := by
        rcases own.2 with ⟨h, _⟩ | ⟨g', cap, cur, h, _, hg', _⟩
        · cases h
        · cases h
          exact (Array.getElem?_eq_some_iff.1 hg').1
      have tx : Lib.join ((txts zs).map (·.data.toList)) [46] = cd ns := by rw [join_jn, ← e4]; rfl
      have JO := Any.strings_Join Tryz.lays156 Tryz.Builder_Extra_156 w.heap.size 0 k (txts zs) ⟨#[46]⟩ wr cells hs (by have := L6.out; omega) (by omega) (by
        show (Lib.join ((txts zs).map (·.data.toList)) [46]).length ≤ _
        rw [tx]; have := OK.size; omega)
      rw [show (⟨#[46]⟩ : ByteArray).data.toList = [46] from rfl, tx, ln] at JO
      have JO := Lib.hid JO
      have BB := Lib.hid B
      have E := Lib.hid (And.intro OK e1)
      clear own B R e1 e2 e3 e4 OK cells hs tx hrel ln
      go_wp2_with fail
      refine JO.out.mono ?_; rintro e w8 ⟨rfl, b8⟩
      have B8 := Lib.hid (BB.out.trans (b8.mono BB.out.size))
      clear b8
      go_wp2_with fail
      go_ret2
      refine ⟨Or.inl ⟨ns, ⟨⟨(cd ns).toArray⟩, ?_⟩, E.out.1, E.out.2, ?_, rfl⟩, B8.out⟩
      · have := E.out.1.size
        show (cd ns).toArray.size ≤ _
        simp; omega
      · show (cd ns).toArray.toList = _
        simp
end Go.Proofs.YtnjnjcgbdhiigaaGreatDoor
