/- Duties and the reference's. -/
import Derived.Test.YtlmgjgcdfhccaaaOQ
namespace Go.Proofs.Ytlmgjgcdfhccaaa
open Go.RowKit Go.Maps Go.Shelf

noncomputable def chF (os : List Of) (id day : Int) : List Int := Classical.choose (cv_ex os id day)
theorem chF_spec (os : List Of) (id day : Int) : CV os id day (chF os id day) := Classical.choose_spec (cv_ex os id day)
noncomputable def hrF (os : List Of) (id day : Int) : Int × Bool := hrT os day (chF os id day)
/-- The duties of an office on a day. -/
noncomputable def isD (os : List Of) (id day : Int) (o : Of) : Bool := decide (hrF os o.id day = (id, true))
noncomputable def dutL (os : List Of) (id day : Int) : List Int := if (ckV os).2 = 0 ∧ ixO os id ≠ none then (os.filter (isD os id day)).map (·.id) else []
theorem ixO_of {os : List Of} {k : Nat} {o : Of} (ho : os[k]? = some o) : ∃ i, ixO os o.id = some i :=
  Option.ne_none_iff_exists'.1 (fun e => (ixO_none.1 e) o (List.mem_of_getElem? ho) rfl)
theorem filter_snoc {os : List Of} {k : Nat} {o : Of} (ho : os[k]? = some o) (p : Of → Bool) : ((os.take (k + 1)).filter p).map (·.id) = ((os.take k).filter p).map (·.id) ++ (if p o = true then [o.id] else []) := by
  rw [List.take_add_one, ho, List.filter_append, List.map_append]
  congr 1
  cases h : p o <;> simp [h]
structure DuL (os : List Of) (id day : Int) (K : Nat) (w : World) (k : Nat) (u : Value) (wr : World) : Prop where
  own : wr.ownsRow K 3 1 u (((os.take k).filter (isD os id day)).map (·.id)).length ((((os.take k).filter (isD os id day)).map (·.id)).map encZ)
  bel : Below w.heap.size w wr
theorem own_nilZ (w : World) (K : Nat) : w.ownsRow K 3 1 (.slice none 0 0) ([] : List Int).length (([] : List Int).map encZ) := World.ownsRow_nil _ _ _ _
theorem dut_len {os : List Of} {id day : Int} (k : Nat) : (((os.take k).filter (isD os id day)).map (·.id)).length ≤ os.length := by
  rw [List.length_map]
  exact Nat.le_trans (List.length_filter_le _ _) (by rw [List.length_take]; omega)
set_option maxRecDepth 100000 in
set_option maxHeartbeats 8000000 in
theorem Duties_any (v : Value) (os : List Of) (id day : Int) (w : World) (hw : Lw w) (hv : IsO w v os) (hn : os.length ≤ 1000) (hr : NumO os) (hid : W64 id) :
    Calls Try.prog 18 #[v, .int .i64 id, .int .i64 day] w fun e w' => ∃ u, e = .returned u ∧ IsZ w' u (dutL os id day) ∧ Below w.heap.size w w' := by
  by_cases g : (ckV os).2 = 0
  rotate_left
  · have KN := Lib.hid (known_no v os id w hw hv hn hr g)
    have hl := Lib.hid (show dutL os id day = [] from if_neg (fun h => g h.1))
    rw [hl.out]
    clear hw hv hn hr g
    go_enter Try.func18, Try.ntmps18
    go_wp2_with fail
    refine KN.out.mono ?_; rintro e w1 ⟨rfl, b1⟩
    have B1 := Lib.hid b1
    clear b1 KN
    go_wp2_with fail
    go_ret
    exact ⟨_, rfl, isZ_nil _, B1.out⟩
  have KN := Lib.hid (known_ok v os id w hw hv hn hr hid g)
  cases h : ixO os id with
  | none =>
    have hl := Lib.hid (show dutL os id day = [] from if_neg (fun k => k.2 h))
    rw [hl.out]
    rw [h] at KN
    clear hw hv hn hr g
    go_enter Try.func18, Try.ntmps18
    go_wp2_with fail
    refine KN.out.mono ?_; rintro e w1 ⟨b, rfl, ix, b1⟩
    have B1 := Lib.hid b1
    clear b1 ix KN
    go_wp2_with fail
    go_ret
    exact ⟨_, rfl, isZ_nil _, B1.out⟩
  | some i0 =>
    rw [h] at KN
    have hl := Lib.hid (show dutL os id day = ((os.take os.length).filter (isD os id day)).map (·.id) by
      rw [List.take_length]; exact if_pos ⟨g, by rw [h]; simp⟩)
    have HE := Lib.hid (fun (k : Nat) (o : Of) (ho : os[k]? = some o) (b : Nat) (V : World) (hb : Below w.heap.size w V) (ix : Ix V b os) => show Calls Try.prog 30 #[v, .map (some b), .int .i64 o.id, .int .i64 day] V fun e w' => e = .returned (.tuple #[.int .i64 (hrF os o.id day).1, .bool (hrF os o.id day).2]) ∧ Below V.heap.size V w' from by
      obtain ⟨i, hi⟩ := ixO_of ho
      have hc : Ch os day i (chF os o.id day) := by
        rcases chF_spec os o.id day with ⟨_, j, hj, hc⟩ | ⟨e | e, _⟩
        · rw [hi] at hj; cases hj; exact hc
        · exact absurd g e
        · rw [hi] at e; cases e
      have := heir_any v os b i o.id day V (hv.below hb) hn hr g ix (hr o (List.mem_of_getElem? ho)).1 hi hc
      unfold hrF
      rw [show hrT os day (chF os o.id day) = hrV os day (chF os o.id day) from if_neg (fun e => by have := hc.pos; rw [e] at this; simp at this)]
      exact this)
    rw [hl.out]
    obtain ⟨p, c, rfl, hcap, hp⟩ := hv
    obtain ⟨n, hnn⟩ : ∃ n, n = os.length := ⟨_, rfl⟩
    rw [← hnn] at hcap hn HE KN ⊢
    have HN := Lib.hid hnn
    have HP := Lib.hid hp
    obtain ⟨ai, hii, hz0, hz1, hz2⟩ := info_parts (P := Try.prog) (e := 3) (z := .int .i64 0) (size := 1) (bytes := 8) (by kernel_rfl)
    have US : Try.prog.underlying 28 = some (.slice 3) := by kernel_rfl
    clear hw hr g h hp hnn hl
    go_enter Try.func18, Try.ntmps18
    go_wp2_with fail
    refine KN.out.mono ?_; rintro e w1 ⟨b, rfl, ix, b1⟩
    have B1 := Lib.hid b1
    have IX1 := Lib.hid ix
    clear b1 ix KN
    go_wp2_with fail
    go_loopw [9, 24] (fun s9 si wr => ∃ k : Nat, k ≤ n ∧ si = .int .i64 k ∧ Hid (DuL os id day w1.heap.size w1 k s9 wr)) (fun _ si _ => n - (intOf si).toNat)
    case atStart => exact ⟨0, Nat.zero_le _, rfl, own_nilZ _ _, Below.refl _ _⟩
    case round =>
      obtain ⟨k, hk, rfl, hrel⟩ := hrel
      have OW := Lib.hid hrel.out.own
      have BL := Lib.hid hrel.out.bel
      clear hrel
      by_cases hlt : k < n
      · obtain ⟨o, ho⟩ : ∃ o, os[k]? = some o := ⟨_, List.getElem?_eq_getElem (by rw [← HN.out]; exact hlt)⟩
        obtain ⟨g, off, rfl, hcell⟩ := HP.out (by rw [← HN.out]; omega)
        have BW := Lib.hid (B1.out.trans (BL.out.mono B1.out.size))
        have OA := (hcell k o ho).below BW.out
        have FS := Lib.hid (filter_snoc ho (isD os id day))
        have ND := Lib.hid (Bx5.new wr o)
        have BN : Below wr.heap.size wr (wr.alloc (.cells #[.int .i64 o.id, .string o.nm.1, .int .i64 o.fr, .int .i64 o.un, o.nv] 43)) := (Below.refl _ wr).alloc (Nat.le_refl _) _
        have H1 := Lib.hid (HE.out k o ho b _ (BW.out.trans (BN.mono BW.out.size)) ((IX1.out.below BL.out).below BN))
        have BN1 := Lib.hid BN
        obtain ⟨x, hx⟩ : ∃ x, x = hrF os o.id day := ⟨_, rfl⟩
        have DD := Lib.hid (show isD os id day o = decide (x = (id, true)) by unfold isD; rw [hx])
        rw [← hx] at H1
        clear hx BN hcell ho
        obtain ⟨id1, nm1, fr1, un1, nx1, q1, cc1⟩ := o
        obtain ⟨lt0, c0, c1, c2, c3, c4, -⟩ := OA
        replace c0 : wr.cell? ⟨g, off + k * 5, none⟩ = some (.int .i64 id1) := c0
        replace c1 : wr.cell? ⟨g, off + k * 5 + 1, none⟩ = some (.string nm1.1) := c1
        replace c2 : wr.cell? ⟨g, off + k * 5 + 2, none⟩ = some (.int .i64 fr1) := c2
        replace c3 : wr.cell? ⟨g, off + k * 5 + 3, none⟩ = some (.int .i64 un1) := c3
        replace c4 : wr.cell? ⟨g, off + k * 5 + 4, none⟩ = some (.slice q1 nx1.length cc1) := c4
        obtain ⟨W, hW⟩ : ∃ W, W = wr.alloc (.cells #[.int .i64 id1, .string nm1.1, .int .i64 fr1, .int .i64 un1, .slice q1 nx1.length cc1] 43) := ⟨_, rfl⟩
        replace ND : Hid (Bx5 W wr.heap.size ⟨id1, nm1, fr1, un1, nx1, q1, cc1⟩) := by rw [hW]; exact ND
        replace BN1 : Hid (Below wr.heap.size wr W) := by rw [hW]; exact BN1
        replace H1 : Hid (Calls Try.prog 30 #[.slice (some ⟨g, off, none⟩) n c, .map (some b), .int .i64 id1, .int .i64 day] W fun e w' => e = .returned (.tuple #[.int .i64 x.1, .bool x.2]) ∧ Below W.heap.size W w') := by rw [hW]; exact H1
        have y0 : W.cell? ⟨wr.heap.size, 0, none⟩ = some (.int .i64 id1) := ND.out.c0
        obtain ⟨x1, x2⟩ := x
        replace H1 : Hid (Calls Try.prog 30 #[.slice (some ⟨g, off, none⟩) n c, .map (some b), .int .i64 id1, .int .i64 day] W fun e w' => e = .returned (.tuple #[.int .i64 x1, .bool x2]) ∧ Below W.heap.size W w') := H1
        go_upto_region 8 with (fail)
        rw [← hW]
        clear hW c0 c1 c2 c3 c4
        go_wp2_with fail
        refine H1.out.mono ?_; rintro e w2 ⟨rfl, b2⟩
        have B2 := Lib.hid (BL.out.trans ((BN1.out.trans (b2.mono BN1.out.size)).mono BL.out.size))
        have O2 := Lib.hid (own_below OW.out (BN1.out.trans (b2.mono BN1.out.size)))
        have y2 : w2.cell? ⟨wr.heap.size, 0, none⟩ = some (.int .i64 id1) := (ND.out.below b2).c0
        clear b2 H1 y0 OW BN1 ND
        by_cases hd : (x1, x2) = (id, true)
        · obtain ⟨rfl, rfl⟩ := Prod.mk.inj hd
          have FS1 := Lib.hid (show ((os.take (k + 1)).filter (isD os x1 day)).map (·.id) = ((os.take k).filter (isD os x1 day)).map (·.id) ++ [id1] by rw [FS.out, DD.out]; simp)
          have LEN := Lib.hid (dut_len (os := os) (id := x1) (day := day) k)
          obtain ⟨pre, hpre⟩ : ∃ pre, pre = ((os.take k).filter (isD os x1 day)).map (·.id) := ⟨_, rfl⟩
          rw [← hpre] at O2 FS1 LEN
          have NB := Lib.hid (show os.length ≤ 1000 by rw [← HN.out]; exact hn)
          have OA := Lib.hid (O2.out.alloc (.cells #[.int .i64 id1] 3))
          have BA := Lib.hid (B2.out.alloc B2.out.size (.cells #[.int .i64 id1] 3))
          have SZ := Lib.hid (show w1.heap.size ≤ (w2.alloc (.cells #[.int .i64 id1] 3)).heap.size by have := B2.out.size; simp; omega)
          clear hpre hd FS DD
          go_wp2_with (at_builtin; refine wpList_append_own _ rfl _ _ 28 rfl w1.heap.size 3 ai (.int .i64 0) 1 8 US hii hz0 hz1 hz2 rfl (by decide) _ _ _ rfl OA.out ⟨w2.heap.size, 0, none⟩ 1 1 [.int .i64 id1] rfl rfl (cell_one_new _ _ _) (by simp [Value.oneCell']) (by have := LEN.out; have := NB.out; unfold maxLen; omega) (by have := LEN.out; have := NB.out; omega) SZ.out ?_)
          intro v5 w5 own5 g5 _
          have B5 := Lib.hid (BA.out.grown g5 BA.out.size (fun k hk => own_from OA.out k hk))
          have O5 := Lib.hid (show w5.ownsRow w1.heap.size 3 1 v5 (((os.take (k + 1)).filter (isD os x1 day)).map (·.id)).length ((((os.take (k + 1)).filter (isD os x1 day)).map (·.id)).map encZ) by rw [FS1.out]; simpa [encZ] using own5)
          clear own5 g5
          go_wp2_with fail
          go_roundw
          case rel => exact ⟨k + 1, by omega, by go_num, O5.out, B5.out⟩
          case measure => simp [intOf]; omega
        · have FS1 := Lib.hid (show ((os.take (k + 1)).filter (isD os id day)).map (·.id) = ((os.take k).filter (isD os id day)).map (·.id) by rw [FS.out, DD.out, decide_eq_false hd]; simp)
          have O5 := Lib.hid (show w2.ownsRow w1.heap.size 3 1 u9 (((os.take (k + 1)).filter (isD os id day)).map (·.id)).length ((((os.take (k + 1)).filter (isD os id day)).map (·.id)).map encZ) by rw [FS1.out]; exact O2.out)
          clear FS DD O2
          cases x2 with
          | false =>
            clear hd
            go_wp2_with fail
            go_roundw
            case rel => exact ⟨k + 1, by omega, by go_num, O5.out, B2.out⟩
            case measure => simp [intOf]; omega
          | true =>
            have D : (x1 == id) = false := by
              rw [beq_eq_false_iff_ne]; intro e; exact hd (by rw [e])
            clear hd
            go_wp2_with fail
            go_roundw
            case rel => exact ⟨k + 1, by omega, by go_num, O5.out, B2.out⟩
            case measure => simp [intOf]; omega
      · obtain rfl : k = n := by omega
        have Z := Lib.hid (own_isZ OW.out)
        have BB := Lib.hid (B1.out.trans (BL.out.mono B1.out.size))
        clear OW
        go_wp2_with fail
        go_ret
        exact ⟨_, rfl, Z.out, BB.out⟩
end Go.Proofs.Ytlmgjgcdfhccaaa
