/- The reference's Reach. -/
import Derived.Test.YtlmgjgcdfhccaaaPC
namespace Go.Proofs.Ytlmgjgcdfhccaaa
open Go.RowKit Go.Maps Go.Shelf

/-- What the last loop keeps. -/
structure OuL (os : List Of) (f : Of → Bool) (V : World) (k : Nat) (u : Value) (wr : World) : Prop where
  own : wr.ownsRow V.heap.size 3 1 u (((os.take k).filter f).map (·.id)).length ((((os.take k).filter f).map (·.id)).map encZ)
  bel : Below V.heap.size V wr
theorem out_len {os : List Of} {f : Of → Bool} (k : Nat) : (((os.take k).filter f).map (·.id)).length ≤ os.length := by
  rw [List.length_map]
  exact Nat.le_trans (List.length_filter_le _ _) (by rw [List.length_take]; omega)
set_option maxRecDepth 100000 in
set_option maxHeartbeats 8000000 in
theorem rReach_any (v : Value) (os : List Of) (id : Int) (w : World) (hv : IsO w v os) (hn : os.length ≤ 1000) (hr : NumO os) :
    Calls Try.prog 17 #[v, .int .i64 id] w fun e w' => ∃ u l, e = .returned u ∧ RV os id l ∧ IsZ w' u l ∧ Below w.heap.size w w' := by
  have G0 := Lib.hid (rGood_any v os w hv hn hr)
  have FD := Lib.hid (fun (V : World) (x : Int) (hb : Below w.heap.size w V) => rFind_any v os x V (hv.below hb) hn)
  by_cases g : (ckV os).2 = 0
  rotate_left
  · have RN := Lib.hid (show RV os id [] from Or.inr ⟨fun h => g h.1, rfl⟩)
    have g1 : ((ckV os).2 == 0) = false := by simpa using g
    rw [g1] at G0
    clear hv hn hr g g1
    go_enter Try.func17, Try.ntmps17
    go_wp2_with fail
    refine G0.out.mono ?_; rintro e w1 ⟨rfl, b1⟩
    have B1 := Lib.hid b1
    clear b1
    go_wp2_with fail
    go_ret
    exact ⟨_, _, rfl, RN.out, isZ_nil _, B1.out⟩
  have g1 : ((ckV os).2 == 0) = true := by simpa using g
  rw [g1] at G0
  cases h : ixO os id with
  | none =>
    have RN := Lib.hid (show RV os id [] from Or.inr ⟨fun k => k.2 h, rfl⟩)
    have hi : ixZ os id = -1 := by unfold ixZ; rw [h]
    have F := Lib.hid (fun (V : World) (hb : Below w.heap.size w V) => FD.out V id hb)
    rw [hi] at F
    clear hv hn hr g g1 h hi FD
    go_enter Try.func17, Try.ntmps17
    go_wp2_with fail
    refine G0.out.mono ?_; rintro e w1 ⟨rfl, b1⟩
    have B1 := Lib.hid b1
    have F1 := Lib.hid (F.out w1 b1)
    clear b1 F
    go_wp2_with fail
    refine F1.out.mono ?_; rintro e w2 ⟨rfl, rfl⟩
    go_wp2_with fail
    go_ret
    exact ⟨_, _, rfl, RN.out, isZ_nil _, B1.out⟩
  | some i0 =>
    have hi : ixZ os id = (i0 : Int) := by unfold ixZ; rw [h]
    have F := Lib.hid (fun (V : World) (hb : Below w.heap.size w V) => FD.out V id hb)
    rw [hi] at F
    have D0 : decide ((i0 : Int) < 0) = false := by simp
    obtain ⟨p, c, rfl, hcap, hp⟩ := hv
    obtain ⟨n, hnn⟩ : ∃ n, n = os.length := ⟨_, rfl⟩
    have i0n : i0 < n := by rw [hnn]; exact ixO_lt h
    obtain ⟨gb, off, rfl, hcell⟩ := hp (by have := ixO_lt h; omega)
    rw [← hnn] at hcap hn G0 FD F ⊢
    have HN := Lib.hid hnn
    have HCL := Lib.hid hcell
    have HH := Lib.hid h
    have HG := Lib.hid g
    have HR := Lib.hid hr
    obtain ⟨ai, hii, hz0, hz1, hz2⟩ := info_parts (P := Try.prog) (e := 3) (z := .int .i64 0) (size := 1) (bytes := 8) (by kernel_rfl)
    have US : Try.prog.underlying 28 = some (.slice 3) := by kernel_rfl
    clear hr g g1 h hp hnn hi hcell
    go_enter Try.func17, Try.ntmps17
    go_wp2_with fail
    refine G0.out.mono ?_; rintro e w1 ⟨rfl, b1⟩
    have B1 := Lib.hid b1
    have F1 := Lib.hid (F.out w1 b1)
    clear b1 G0 F
    go_wp2_with fail
    refine F1.out.mono ?_; rintro e w2 ⟨rfl, hw2⟩
    obtain rfl : w1 = w2 := hw2.symm
    clear F1
    go_wp2_with fail
    have S0 := Lib.hid (show SeL os id w.heap.size w [id] (.slice (some ⟨w1.heap.size, 0, none⟩) 1 1) (w1.alloc (.cells #[.int .i64 id] 3)) from
      ⟨own_oneZ w1 id w.heap.size B1.out.size, B1.out.alloc B1.out.size _, List.nodup_cons.2 ⟨List.not_mem_nil, List.nodup_nil⟩, fun x hx => ⟨i0, by rw [List.mem_singleton.1 hx]; exact HH.out⟩, fun x hx => by rw [List.mem_singleton.1 hx]; exact .refl, List.mem_singleton.2 rfl⟩)
    clear B1
    go_loopw [5, 6] (fun s5 si wr => ∃ (i : Nat) (sn : List Int), i ≤ sn.length ∧ si = .int .i64 i ∧ Hid (SeL os id w.heap.size w sn s5 wr ∧ ClI os sn i)) (fun _ si _ => n - (intOf si).toNat)
    case atStart => exact ⟨0, [id], Nat.zero_le _, rfl, S0.out, fun j y hj => by omega⟩
    case round =>
      obtain ⟨i, sn, hi, rfl, hrel⟩ := hrel
      have SE := Lib.hid hrel.out.1
      have CI := Lib.hid hrel.out.2
      have ZS := own_isZ hrel.out.1.own
      have LN := acc_len hrel.out.1.nd hrel.out.1.ids
      have HZS := Lib.hid ZS
      rw [← HN.out] at LN
      clear hrel
      obtain ⟨p5, c5, rfl, hc5, hcell5⟩ := ZS
      obtain ⟨m, hm⟩ : ∃ m, m = sn.length := ⟨_, rfl⟩
      rw [← hm] at hi LN hc5 SE HZS ⊢
      have HM := Lib.hid hm
      by_cases hlt : i < m
      · obtain ⟨g5, o5, rfl, _, hc⟩ := hcell5 (by omega)
        obtain ⟨y, hy⟩ : ∃ y, sn[i]? = some y := ⟨_, List.getElem?_eq_getElem (by omega)⟩
        have cy : wr.cell? ⟨g5, o5 + i, none⟩ = some (.int .i64 y) := by
          obtain ⟨h, e⟩ := List.getElem?_eq_some_iff.1 hy
          rw [hc i h, e]
        obtain ⟨jy, hjy⟩ := SE.out.ids y (List.mem_of_getElem? hy)
        obtain ⟨o, ho, _⟩ := ixO_at hjy
        have OA := (HCL.out jy o ho).below SE.out.bel
        have FY := FD.out wr y SE.out.bel
        rw [show ixZ os y = (jy : Int) by unfold ixZ; rw [hjy]] at FY
        replace FY := Lib.hid FY
        have jn : jy < n := by rw [HN.out]; exact ixO_lt hjy
        have GO := Lib.hid (good_ok HG.out ho)
        have HJ := Lib.hid hjy
        have HO := Lib.hid ho
        have HY := Lib.hid hy
        obtain ⟨lt0, -, -, -, -, c4, hz⟩ := OA
        obtain ⟨id1, nm1, fr1, un1, nx1, q1, cc1⟩ := o
        replace c4 : wr.cell? ⟨gb, off + jy * 5 + 4, none⟩ = some (.slice q1 nx1.length cc1) := c4
        replace hz : IsZ wr (.slice q1 nx1.length cc1) nx1 := hz
        obtain ⟨q', cc', e1, hcc, hzc⟩ := hz
        obtain ⟨rfl, _, rfl⟩ := Value.slice.inj e1
        have CELL := Lib.hid (fun (k : Nat) (h : k < nx1.length) => show ∃ g off, q1 = some ⟨g, off, none⟩ ∧ g < w.heap.size ∧ ∃ x, nx1[k]? = some x ∧ w.cell? ⟨g, off + k, none⟩ = some (.int .i64 x) from by
          have OW := HCL.out jy _ HO.out
          obtain ⟨q'', c'', e2, _, hzw⟩ := OW.nx
          obtain ⟨rfl, _, rfl⟩ := Value.slice.inj (show Value.slice q1 nx1.length cc1 = _ from e2)
          obtain ⟨g, off, e, hg, hcl⟩ := hzw (Nat.lt_of_le_of_lt (Nat.zero_le _) h)
          exact ⟨g, off, e, hg, nx1[k], List.getElem?_eq_getElem h, hcl k h⟩)
        have L8 : nx1.length ≤ 8 := GO.out.len
        have ED := Lib.hid (fun (z : Int) (hz : z ∈ nx1) => show Ed os y z from ⟨jy, _, HJ.out, HO.out, hz⟩)
        have EC := Lib.hid (fun (z : Int) (hz : Ed os y z) => show z ∈ nx1 from by
          obtain ⟨j2, o2, h1, h2, h3⟩ := hz
          rw [HJ.out] at h1; cases h1
          rw [HO.out] at h2; cases h2
          exact h3)
        have EX := Lib.hid (fun (z : Int) (hz : z ∈ nx1) => show ∃ j, ixO os z = some j from by
          obtain ⟨j, _, h, _⟩ := GO.out.ix z hz
          exact ⟨j, h⟩)
        obtain ⟨nl, hnl⟩ : ∃ m, m = nx1.length := ⟨_, rfl⟩
        rw [← hnl] at c4 hcc CELL L8
        have HNL := Lib.hid hnl
        have S1 := Lib.hid (show SeL os id w.heap.size w sn (.slice (some ⟨g5, o5, none⟩) m c5) wr ∧ ClI os sn i ∧ sn[i]? = some y ∧ ∀ z ∈ nx1.take 0, z ∈ sn from ⟨SE.out, CI.out, HY.out, fun z h => by simp at h⟩)
        have MN := Lib.hid (show i < n by omega)
        clear hm hy hc hcell5 hjy ho hzc e1 hnl GO HO HJ CI HZS HY lt0
        go_wp2_with fail
        refine FY.out.mono ?_; rintro e w2 ⟨rfl, hw2⟩
        obtain rfl : wr = w2 := hw2.symm
        clear FY
        go_wp2_with fail
        go_loopw [5, 8] (fun s5 s8 w3 => ∃ (k : Nat) (sn2 : List Int), k ≤ nl ∧ s8 = .int .i64 k ∧ Hid (SeL os id w.heap.size w sn2 s5 w3 ∧ ClI os sn2 i ∧ sn2[i]? = some y ∧ ∀ z ∈ nx1.take k, z ∈ sn2)) (fun _ s8 _ => nl - (intOf s8).toNat)
        case atStart => exact ⟨0, sn, Nat.zero_le _, rfl, S1.out⟩
        case round =>
          obtain ⟨k, sn2, hk, rfl, hrel⟩ := hrel
          have SE2 := Lib.hid hrel.out.1
          have CI2 := Lib.hid hrel.out.2.1
          have HY2 := Lib.hid hrel.out.2.2.1
          have TK2 := Lib.hid hrel.out.2.2.2
          have ZS := own_isZ hrel.out.1.own
          have LN2 := acc_len hrel.out.1.nd hrel.out.1.ids
          rw [← HN.out] at LN2
          clear hrel
          by_cases hlk : k < nl
          · obtain ⟨g6, o6, hq6, hg6, z, hz6, cz⟩ := CELL.out k hlk
            have cz2 : ∀ W', Below w.heap.size w W' → W'.cell? ⟨g6, o6 + k, none⟩ = some (.int .i64 z) := fun W' hb => (hb.cell (p := ⟨g6, o6 + k, none⟩) hg6).trans cz
            have cz3 := cz2 _ SE2.out.bel
            have HAS := rhas_any _ sn2 z _ ZS (by omega)
            have ZM := Lib.hid (List.mem_of_getElem? hz6)
            have HZ6 := Lib.hid hz6
            subst hq6
            clear hz6 cz
            by_cases hin : z ∈ sn2
            · rw [decide_eq_true hin] at HAS
              replace HAS := Lib.hid HAS
              have N := Lib.hid (show SeL os id w.heap.size w sn2 _ _ ∧ ClI os sn2 i ∧ sn2[i]? = some y ∧ ∀ z ∈ nx1.take (k + 1), z ∈ sn2 from ⟨SE2.out, CI2.out, HY2.out, fun a ha => by
                rw [List.take_add_one, HZ6.out] at ha
                rcases List.mem_append.1 ha with h | h
                · exact TK2.out a h
                · obtain rfl : a = z := by simpa using h
                  exact hin⟩)
              clear hin cz2
              go_wp2_with fail
              refine HAS.out.mono ?_; rintro e w4 ⟨rfl, rfl⟩
              go_wp2_with fail
              go_roundw
              case rel => exact ⟨k + 1, sn2, by omega, by go_num, N.out⟩
              case measure => simp [intOf]; omega
            · rw [decide_eq_false hin] at HAS
              replace HAS := Lib.hid HAS
              have HIN := Lib.hid hin
              have NB := Lib.hid LN2
              have NB2 := Lib.hid hn
              have OA := Lib.hid (SE2.out.own.alloc (.cells #[.int .i64 z] 3))
              have BA := Lib.hid (SE2.out.bel.alloc SE2.out.bel.size (.cells #[.int .i64 z] 3))
              have SZ := Lib.hid (show w.heap.size ≤ (wr.alloc (.cells #[.int .i64 z] 3)).heap.size by have := SE2.out.bel.size; simp; omega)
              clear hin
              go_wp2_with fail
              refine HAS.out.mono ?_; rintro e w4 ⟨rfl, hw4⟩
              obtain rfl : wr = w4 := hw4
              clear HAS
              go_wp2_with (at_builtin; refine wpList_append_own _ rfl _ _ 28 rfl w.heap.size 3 ai (.int .i64 0) 1 8 US hii hz0 hz1 hz2 rfl (by decide) _ _ _ rfl OA.out ⟨wr.heap.size, 0, none⟩ 1 1 [.int .i64 z] rfl rfl (cell_one_new _ _ _) (by simp [Value.oneCell']) (by have := NB.out; have := NB2.out; unfold maxLen; omega) (by have := NB.out; have := NB2.out; omega) SZ.out ?_)
              intro v5 w5 own5 gr5 _
              have B5 := Lib.hid (BA.out.grown gr5 BA.out.size (fun k hk => own_from OA.out k hk))
              have N := Lib.hid (show SeL os id w.heap.size w (sn2 ++ [z]) v5 w5 ∧ ClI os (sn2 ++ [z]) i ∧ (sn2 ++ [z])[i]? = some y ∧ ∀ z' ∈ nx1.take (k + 1), z' ∈ sn2 ++ [z] from by
                have il : i < sn2.length := (List.getElem?_eq_some_iff.1 HY2.out).1
                refine ⟨⟨by simpa [encZ] using own5, B5.out, List.nodup_append.2 ⟨SE2.out.nd, by simp, fun a ha b hb e => HIN.out (by rw [List.mem_singleton.1 hb] at e; rw [← e]; exact ha)⟩, fun x hx => ?_, fun x hx => ?_, List.mem_append_left _ SE2.out.mem⟩, fun j y' hj hy' z' hz' => ?_, ?_, fun a ha => ?_⟩
                · rcases List.mem_append.1 hx with h | h
                  · exact SE2.out.ids x h
                  · rw [List.mem_singleton.1 h]; exact EX.out z ZM.out
                · rcases List.mem_append.1 hx with h | h
                  · exact SE2.out.rc x h
                  · rw [List.mem_singleton.1 h]; exact (SE2.out.rc y (List.mem_of_getElem? HY2.out)).step (ED.out z ZM.out)
                · rw [List.getElem?_append_left (by omega)] at hy'
                  exact List.mem_append_left _ (CI2.out j y' hj hy' z' hz')
                · rw [List.getElem?_append_left il]; exact HY2.out
                · rw [List.take_add_one, HZ6.out] at ha
                  rcases List.mem_append.1 ha with h | h
                  · exact List.mem_append_left _ (TK2.out a h)
                  · obtain rfl : a = z := by simpa using h
                    exact List.mem_append_right _ (List.mem_singleton.2 rfl))
              clear own5 gr5 cz2 cz3
              go_wp2_with fail
              go_roundw
              case rel => exact ⟨k + 1, sn2 ++ [z], by omega, by go_num, N.out⟩
              case measure => simp [intOf]; omega
          · obtain rfl : k = nl := by omega
            have il : i < sn2.length := (List.getElem?_eq_some_iff.1 HY2.out).1
            have N := Lib.hid (show SeL os id w.heap.size w sn2 _ _ ∧ ClI os sn2 (i + 1) from ⟨SE2.out, fun j y' hj hy' z' hz' => by
              by_cases e : j = i
              · subst e
                rw [HY2.out] at hy'
                cases hy'
                exact TK2.out z' (by rw [List.take_of_length_le (by rw [← HNL.out]; exact Nat.le_refl _)]; exact EC.out z' hz')
              · exact CI2.out j y' (by omega) hy' z' hz'⟩)
            have MN2 := MN.out
            go_wp2_with fail
            go_roundw
            case rel => exact ⟨i + 1, sn2, by omega, by go_num, N.out⟩
            case measure => simp [intOf]; omega
      · obtain rfl : i = m := by omega
        have RVF := Lib.hid (rv_of HG.out HH.out SE.out.ids SE.out.rc SE.out.mem (by rw [← HM.out]; exact CI.out))
        obtain ⟨V, hV⟩ : ∃ V, V = wr := ⟨_, rfl⟩
        rw [← hV] at SE HZS
        have BWV := Lib.hid SE.out.bel
        obtain ⟨f, hf⟩ : ∃ f : Of → Bool, f = fun o => decide (o.id ∈ sn) := ⟨_, rfl⟩
        have HF := Lib.hid hf
        have HASX := Lib.hid (fun (x : Int) (W : World) (hb : Below V.heap.size V W) => rhas_any _ sn x W (HZS.out.below hb) (by omega))
        rw [← hf] at RVF
        have O1 := Lib.hid (show OuL os f V 0 (.slice (some ⟨V.heap.size, 0, none⟩) 0 0) (V.alloc (.cells #[] 3)) from ⟨own_emptyZ V, (Below.refl _ V).alloc (Nat.le_refl _) _⟩)
        clear hm hf CI SE HZS hc5 hcell5
        go_wp2_with fail
        rw [← hV]
        clear hV
        go_loopw [9, 10] (fun s9 si w3 => ∃ k : Nat, k ≤ n ∧ si = .int .i64 k ∧ Hid (OuL os f V k s9 w3)) (fun _ si _ => n - (intOf si).toNat)
        case atStart => exact ⟨0, Nat.zero_le _, rfl, O1.out⟩
        case round =>
          obtain ⟨k, hk, rfl, hrel⟩ := hrel
          have OW := Lib.hid hrel.out.own
          have BL := Lib.hid hrel.out.bel
          clear hrel
          by_cases hlt : k < n
          · obtain ⟨o, ho⟩ : ∃ o, os[k]? = some o := ⟨_, List.getElem?_eq_getElem (by rw [← HN.out]; exact hlt)⟩
            have BT := Lib.hid (BWV.out.trans (BL.out.mono BWV.out.size))
            have OA := (HCL.out k o ho).below BT.out
            have FS := Lib.hid (filter_snoc ho f)
            have c0 := OA.c0
            have HX := HASX.out o.id _ BL.out
            have DD := Lib.hid (show f o = decide (o.id ∈ sn) by rw [HF.out])
            obtain ⟨id1, hid1⟩ : ∃ i, i = o.id := ⟨_, rfl⟩
            rw [← hid1] at c0 FS HX DD
            clear ho hid1 OA
            by_cases hd : id1 ∈ sn
            · rw [decide_eq_true hd] at HX
              replace HX := Lib.hid HX
              have FS1 := Lib.hid (show ((os.take (k + 1)).filter f).map (·.id) = ((os.take k).filter f).map (·.id) ++ [id1] by rw [FS.out, DD.out, decide_eq_true hd]; simp)
              have LEN := Lib.hid (out_len (os := os) (f := f) k)
              obtain ⟨pre, hpre⟩ : ∃ pre, pre = ((os.take k).filter f).map (·.id) := ⟨_, rfl⟩
              rw [← hpre] at OW FS1 LEN
              have NB := Lib.hid (show os.length ≤ 1000 by rw [← HN.out]; exact hn)
              have OA := Lib.hid (OW.out.alloc (.cells #[.int .i64 id1] 3))
              have BA := Lib.hid (BL.out.alloc BL.out.size (.cells #[.int .i64 id1] 3))
              have SZ := Lib.hid (show V.heap.size ≤ (wr.alloc (.cells #[.int .i64 id1] 3)).heap.size by have := BL.out.size; simp; omega)
              clear hpre hd FS DD
              go_wp2_with fail
              refine HX.out.mono ?_; rintro e w4 ⟨rfl, hw4⟩
              obtain rfl : wr = w4 := hw4
              clear HX
              go_wp2_with (at_builtin; refine wpList_append_own _ rfl _ _ 28 rfl V.heap.size 3 ai (.int .i64 0) 1 8 US hii hz0 hz1 hz2 rfl (by decide) _ _ _ rfl OA.out ⟨wr.heap.size, 0, none⟩ 1 1 [.int .i64 id1] rfl rfl (cell_one_new _ _ _) (by simp [Value.oneCell']) (by have := LEN.out; have := NB.out; unfold maxLen; omega) (by have := LEN.out; have := NB.out; omega) SZ.out ?_)
              intro v5 w5 own5 gr5 _
              have B5 := Lib.hid (BA.out.grown gr5 BA.out.size (fun k hk => own_from OA.out k hk))
              have O5 := Lib.hid (show w5.ownsRow V.heap.size 3 1 v5 (((os.take (k + 1)).filter f).map (·.id)).length ((((os.take (k + 1)).filter f).map (·.id)).map encZ) by rw [FS1.out]; simpa [encZ] using own5)
              clear own5 gr5
              go_wp2_with fail
              go_roundw
              case rel => exact ⟨k + 1, by omega, by go_num, O5.out, B5.out⟩
              case measure => simp [intOf]; omega
            · rw [decide_eq_false hd] at HX
              replace HX := Lib.hid HX
              have FS1 := Lib.hid (show ((os.take (k + 1)).filter f).map (·.id) = ((os.take k).filter f).map (·.id) by rw [FS.out, DD.out, decide_eq_false hd]; simp)
              have O5 := Lib.hid (show wr.ownsRow V.heap.size 3 1 u9 (((os.take (k + 1)).filter f).map (·.id)).length ((((os.take (k + 1)).filter f).map (·.id)).map encZ) by rw [FS1.out]; exact OW.out)
              clear hd FS DD OW
              go_wp2_with fail
              refine HX.out.mono ?_; rintro e w4 ⟨rfl, rfl⟩
              go_wp2_with fail
              go_roundw
              case rel => exact ⟨k + 1, by omega, by go_num, O5.out, BL.out⟩
              case measure => simp [intOf]; omega
          · obtain rfl : k = n := by omega
            have FULL := Lib.hid (show os.take k = os from List.take_of_length_le (by rw [← HN.out]; exact Nat.le_refl _))
            rw [FULL.out] at OW
            have Z := Lib.hid (own_isZ OW.out)
            have BB := Lib.hid (BWV.out.trans (BL.out.mono BWV.out.size))
            clear OW
            go_wp2_with fail
            go_ret
            exact ⟨_, _, rfl, RVF.out, Z.out, BB.out⟩
end Go.Proofs.Ytlmgjgcdfhccaaa
