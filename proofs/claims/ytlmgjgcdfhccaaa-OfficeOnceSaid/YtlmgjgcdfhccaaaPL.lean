/- OfficeOnce. -/
import Derived.Test.YtlmgjgcdfhccaaaPK
import Derived.Test.YtlmgjgcdfhccaaaPB
namespace Go.Proofs.Ytlmgjgcdfhccaaa
open Go.RowKit Go.Maps Go.Shelf

set_option maxRecDepth 100000 in
set_option maxHeartbeats 8000000 in
theorem law_once (q : Option Addr) (n c : Nat) (S : Nat → Ow) (day : Int) (w : World) (hw : Lw w) (hS : IsW w q n S) (hnc : n ≤ c) :
    Calls Try.prog 6 #[.slice q n c, .int .i64 day] w fun e w' => e = .returned (.bool true) ∧ Below w.heap.size w w' := by
  have HW := Lib.hid hw
  have AW := Lib.hid (awake_any w hw)
  have HS := Lib.hid hS
  by_cases h32 : 32 < n
  · have CK := Lib.hid (fun V => Check_big q n c V h32)
    clear hw hS hnc h32
    go_enter Try.func6, Try.ntmps6
    go_wp2_with fail
    refine AW.out.mono ?_; rintro e w1 ⟨rfl, b1⟩
    have B1 := Lib.hid b1
    have K1 := Lib.hid (CK.out w1)
    clear b1 AW CK
    go_wp2_with fail
    refine K1.out.mono ?_; rintro e w2 ⟨rfl, b2⟩
    have B2 := Lib.hid (B1.out.trans (b2.mono B1.out.size))
    have FW := Lib.hid (few_any q n c S w2 (HS.out.below B2.out))
    clear b2 K1 B1
    go_wp2_with fail
    refine FW.out.mono ?_; rintro e w3 ⟨z, rfl, hz, b3⟩
    have B3 := Lib.hid (B2.out.trans (b3.mono B2.out.size))
    clear b3 FW B2 hz
    cases z
    all_goals
      go_wp2_with fail
      go_ret
      exact ⟨rfl, B3.out⟩
  obtain ⟨os, hl, hO, hr⟩ := HS.out.isO hnc
  have hn : os.length ≤ 1000 := by omega
  have CK := Lib.hid (fun V (hV : Below w.heap.size w V) => Check_any (.slice q n c) os V (HW.out.below hV) (hO.below hV) hn hr)
  by_cases g : (ckV os).2 = 0
  rotate_left
  · have g1 : ((ckV os).2 != 0) = true := by simpa using g
    have g2 : ((ckV os).2 == 0) = false := by simpa using g
    generalize (ckV os).1 = F1 at CK
    generalize (ckV os).2 = F2 at CK g1 g2
    clear hw hS hnc h32 hl hO hr hn g
    go_enter Try.func6, Try.ntmps6
    go_wp2_with fail
    refine AW.out.mono ?_; rintro e w1 ⟨rfl, b1⟩
    have B1 := Lib.hid b1
    have K1 := Lib.hid (CK.out w1 b1)
    clear b1 AW CK
    go_wp2_with fail
    refine K1.out.mono ?_; rintro e w2 ⟨rfl, b2⟩
    have B2 := Lib.hid (B1.out.trans (b2.mono B1.out.size))
    have FW := Lib.hid (few_any q n c S w2 (HS.out.below B2.out))
    clear b2 K1 B1
    go_wp2_with fail
    refine FW.out.mono ?_; rintro e w3 ⟨z, rfl, hz, b3⟩
    have B3 := Lib.hid (B2.out.trans (b3.mono B2.out.size))
    clear b3 FW B2 hz
    cases z
    all_goals
      go_wp2_with fail
      go_ret
      exact ⟨rfl, B3.out⟩
  rw [g] at CK
  generalize (ckV os).1 = F1 at CK
  have HG := Lib.hid g
  have HR := Lib.hid hr
  have HO := Lib.hid hO
  have HN := Lib.hid hn
  have HLL := Lib.hid hl
  have DU := Lib.hid (fun V (hV : Below w.heap.size w V) (x : Int) (hx : W64 x) => Duties_any (.slice q n c) os x day V (HW.out.below hV) (hO.below hV) hn hr hx)
  have HE := Lib.hid (fun V (hV : Below w.heap.size w V) (x : Int) (hx : W64 x) => show Calls Try.prog 11 #[.slice q n c, .int .i64 x, .int .i64 day] V fun e w' => e = .returned (.tuple #[.int .i64 (hrF os x day).1, .bool (hrF os x day).2]) ∧ Below V.heap.size V w' from Heir_any (.slice q n c) os x day V (HW.out.below hV) (hO.below hV) hn hr hx (chF_spec os x day))
  have n1000 : n ≤ 1000 := by omega
  clear hw hS h32 hl hO hr hn g
  go_enter Try.func6, Try.ntmps6
  go_wp2_with fail
  refine AW.out.mono ?_; rintro e w1 ⟨rfl, b1⟩
  have B1 := Lib.hid b1
  have K1 := Lib.hid (CK.out w1 b1)
  clear b1 AW CK
  go_wp2_with fail
  refine K1.out.mono ?_; rintro e w2 ⟨rfl, b2⟩
  have B2 := Lib.hid (B1.out.trans (b2.mono B1.out.size))
  have FW := Lib.hid (few_any q n c S w2 (HS.out.below B2.out))
  clear b2 K1 B1
  go_wp2_with fail
  refine FW.out.mono ?_; rintro e w3 ⟨z, rfl, hz, b3⟩
  have B3 := Lib.hid (B2.out.trans (b3.mono B2.out.size))
  clear b3 FW B2 hz
  cases z with
  | false =>
    go_wp2_with fail
    go_ret
    exact ⟨rfl, B3.out⟩
  | true =>
    have hmm := run_mkMap0
    go_wp2_with fail
    go_loopw [35] (fun si wr => ∃ k : Nat, k ≤ n ∧ si = .int .i64 k ∧ Hid (Below w3.heap.size w3 wr ∧ ∃ nn, nn ≤ k * 1000 ∧ Hd wr w3.heap.size nn (hoF os day k))) (fun si _ => n - (intOf si).toNat)
    case atStart => exact ⟨0, Nat.zero_le _, rfl, (Below.refl _ w3).alloc (Nat.le_refl _) _, 0, Nat.zero_le _, by rw [hoF_zero]; exact Hd.new w3⟩
    case round =>
      obtain ⟨k, hk, rfl, hrel⟩ := hrel
      clear hmm
      obtain ⟨w9, rfl⟩ : ∃ x, x = wr := ⟨_, rfl⟩
      have BL := Lib.hid hrel.out.1
      obtain ⟨nn, hnn, hd⟩ := hrel.out.2
      have HNN := Lib.hid hnn
      have HD := Lib.hid hd
      clear hrel hnn hd
      have BW := Lib.hid (B3.out.trans (BL.out.mono B3.out.size))
      by_cases hlt : k < n
      · obtain ⟨o, ho⟩ : ∃ o, os[k]? = some o := ⟨_, List.getElem?_eq_getElem (by rw [HLL.out]; exact hlt)⟩
        obtain ⟨p', c', e', hc', hp'⟩ := HO.out.below BW.out
        obtain ⟨rfl, -, rfl⟩ := Value.slice.inj e'
        obtain ⟨g, off, rfl, hcell⟩ := hp' (by rw [HLL.out]; omega)
        have OA := hcell k o ho
        have HO2 := Lib.hid ho
        have OWN := Lib.hid (own_dut HG.out ho day)
        have NIL := Lib.hid (fun h => nil_dut HG.out ho (day := day) h)
        have FRESH := Lib.hid (fun x h => hoF_fresh HG.out ho (day := day) (id := x) h)
        have STEP := Lib.hid (hoF_step HG.out ho day)
        have DLEN := Lib.hid (show (dutL os o.id day).length ≤ 1000 from Nat.le_trans (dut_len' os o.id day) HN.out)
        have ASC := Lib.hid (asc_dut HG.out o.id day)
        have MEM := Lib.hid (fun x (hx : x ∈ dutL os o.id day) => show W64 x from by
          obtain ⟨⟨i, hi⟩, _⟩ := (mem_dut HG.out (by rw [good_ix HG.out ho]; simp) day x).1 hx
          obtain ⟨o', ho', e'⟩ := ixO_at hi
          rw [← e']
          exact (HR.out o' (List.mem_of_getElem? ho')).1)
        have WF := Lib.hid (HR.out o (List.mem_of_getElem? ho)).1
        have DUx := Lib.hid (fun V hV => DU.out V hV o.id WF.out)
        clear hcell ho hp' e' hc'
        obtain ⟨id, nm, fr, un, nx, q2, cc⟩ := o
        obtain ⟨lt0, c0, c1, c2, c3, c4, -⟩ := OA
        replace c0 : w9.cell? ⟨g, off + k * 5, none⟩ = some (.int .i64 id) := c0
        replace c1 : w9.cell? ⟨g, off + k * 5 + 1, none⟩ = some (.string nm.1) := c1
        replace c2 : w9.cell? ⟨g, off + k * 5 + 2, none⟩ = some (.int .i64 fr) := c2
        replace c3 : w9.cell? ⟨g, off + k * 5 + 3, none⟩ = some (.int .i64 un) := c3
        replace c4 : w9.cell? ⟨g, off + k * 5 + 4, none⟩ = some (.slice q2 nx.length cc) := c4
        replace OWN : Hid (decide (id ∈ dutL os id day) = hasB fr un day) := OWN
        replace NIL : Hid (hasB fr un day = false → dutL os id day = []) := NIL
        replace FRESH : Hid (∀ x, x ∈ dutL os id day → hoF os day k x = 0) := FRESH
        replace STEP : Hid (putF (hoF os day k) (dutL os id day) id = hoF os day (k + 1)) := STEP
        replace DLEN : Hid ((dutL os id day).length ≤ 1000) := DLEN
        replace ASC : Hid ((dutL os id day).Pairwise (· < ·)) := ASC
        replace MEM : Hid (∀ x, x ∈ dutL os id day → W64 x) := MEM
        replace WF : Hid (W64 id) := WF
        replace DUx : Hid (∀ V, Below w.heap.size w V → Calls Try.prog 18 #[.slice (some ⟨g, off, none⟩) n c, .int .i64 id, .int .i64 day] V fun e w' => ∃ u, e = .returned u ∧ IsZ w' u (dutL os id day) ∧ Below V.heap.size V w') := DUx
        obtain ⟨D, hD⟩ : ∃ D, D = dutL os id day := ⟨_, rfl⟩
        rw [← hD] at OWN NIL FRESH STEP DLEN ASC MEM DUx
        obtain ⟨W1, hW1⟩ : ∃ W1, W1 = w9.alloc (.cells #[.int .i64 id, .string nm.1, .int .i64 fr, .int .i64 un, .slice q2 nx.length cc] 43) := ⟨_, rfl⟩
        have z0 : W1.cell? ⟨w9.heap.size, 0, none⟩ = some (.int .i64 id) := by rw [hW1]; exact World.cell?_alloc_mark w9 _ _ (0, 0) 0
        have z2 : W1.cell? ⟨w9.heap.size, 2, none⟩ = some (.int .i64 fr) := by rw [hW1]; exact World.cell?_alloc_mark w9 _ _ (0, 0) 2
        have z3 : W1.cell? ⟨w9.heap.size, 3, none⟩ = some (.int .i64 un) := by rw [hW1]; exact World.cell?_alloc_mark w9 _ _ (0, 0) 3
        have zs : w9.heap.size < W1.heap.size := by rw [hW1]; simp
        have R1 := Lib.hid (show Below w9.heap.size w9 W1 by rw [hW1]; exact (Below.refl _ w9).alloc (Nat.le_refl _) _)
        have DU1 := Lib.hid (DUx.out W1 (BW.out.trans (R1.out.mono BW.out.size)))
        clear hD DUx
        have CASES : (decide (fr ≤ day) = true ∧ decide (day < un) = true ∧ hasB fr un day = true) ∨ (decide (fr ≤ day) = true ∧ decide (day < un) = false ∧ hasB fr un day = false) ∨ (decide (fr ≤ day) = false ∧ hasB fr un day = false) := by
          by_cases a : fr ≤ day
          · by_cases b : day < un
            · exact Or.inl ⟨decide_eq_true a, decide_eq_true b, by unfold hasB; simp [a, b]⟩
            · exact Or.inr (Or.inl ⟨decide_eq_true a, decide_eq_false b, by unfold hasB; simp [b]⟩)
          · exact Or.inr (Or.inr ⟨decide_eq_false a, by unfold hasB; simp [a]⟩)
        obtain ⟨IN, hIN⟩ : ∃ z, z = hasB fr un day := ⟨_, rfl⟩
        have D0 : IN = false → D = [] := fun e => NIL.out (by rw [← hIN, e])
        have CASES2 : (decide (fr ≤ day) = true ∧ decide (day < un) = true ∧ IN = true ∧ n = n) ∨ (decide (fr ≤ day) = true ∧ decide (day < un) = false ∧ IN = false ∧ decide (0 < D.length) = false) ∨ (decide (fr ≤ day) = false ∧ n = n ∧ IN = false ∧ decide (0 < D.length) = false) := by
          rcases CASES with ⟨A, B, hB⟩ | ⟨A, B, hB⟩ | ⟨A, hB⟩
          · exact Or.inl ⟨A, B, by rw [hIN, hB], rfl⟩
          · exact Or.inr (Or.inl ⟨A, B, by rw [hIN, hB], by rw [D0 (by rw [hIN, hB])]; rfl⟩)
          · exact Or.inr (Or.inr ⟨A, rfl, by rw [hIN, hB], by rw [D0 (by rw [hIN, hB])]; rfl⟩)
        rw [← hIN] at OWN
        have HLN := Lib.hid (show Hid (D = []) ∨ IN = true from by
          cases IN with
          | true => exact Or.inr rfl
          | false => exact Or.inl (Lib.hid (D0 rfl)))
        clear NIL hIN D0 CASES
        rcases CASES2 with ⟨A, B, rfl, hE⟩ | ⟨A, B, rfl, hE⟩ | ⟨A, B, rfl, hE⟩
        all_goals
          go_upto_region 10 with (fail)
          rw [← hW1]
          clear hW1 c0 c1 c2 c3 c4
          go_wp2_with fail
          refine DU1.out.mono ?_; rintro e w4 ⟨u, rfl, zu, b4⟩
          have R4 := Lib.hid (R1.out.trans (b4.mono R1.out.size))
          have y0 := (b4.cell (p := ⟨w9.heap.size, 0, none⟩) zs).trans z0
          have ys : w9.heap.size < w4.heap.size := Nat.lt_of_lt_of_le zs b4.size
          have HD4 := Lib.hid (HD.out.below R4.out)
          have Z4 := Lib.hid zu
          obtain ⟨p4, c4, rfl, hc4, hcell4⟩ := zu
          have HC4 := Lib.hid (fun (j : Nat) (y : Int) (hy : D[j]? = some y) => show ∃ g off, p4 = some ⟨g, off, none⟩ ∧ g < w4.heap.size ∧ w4.cell? ⟨g, off + j, none⟩ = some (.int .i64 y) from by
            obtain ⟨hj, e⟩ := List.getElem?_eq_some_iff.1 hy
            obtain ⟨g', off', e', hg', hcl⟩ := hcell4 (by omega)
            exact ⟨g', off', e', hg', by rw [hcl j hj, e]⟩)
          have E1 := Lib.hid (contains_any p4 c4 D D.length id w4 Z4.out (Nat.le_refl _) (by have := DLEN.out; omega))
          rw [List.take_length, OWN.out] at E1
          have E2 := Lib.hid (isSorted_any _ D w4 ASC.out Z4.out (by have := DLEN.out; omega))
          have F0 := Lib.hid (show Hd w4 w3.heap.size nn (putF (hoF os day k) (D.take 0) id) from by rw [List.take_zero, putF_nil]; exact HD4.out)
          have NB := Lib.hid (HD.out.lt)
          have NN := Lib.hid (show D.Nodup from ASC.out.imp fun {a b} h e => by rw [e] at h; omega)
          obtain ⟨dl, hdl⟩ : ∃ m, m = D.length := ⟨_, rfl⟩
          rw [← hdl] at E1 E2 hc4 Z4 DLEN ⊢
          have HDL := Lib.hid hdl
          (try rw [← hdl] at hE)
          clear hdl
          clear b4 DU1 z0 z2 z3 zs hcell4 A B HLN
          go_wp2_with fail
          refine E1.out.mono ?_; rintro e w5 ⟨rfl, h5⟩
          obtain rfl : w4 = w5 := h5.symm
          clear E1 h5
          go_wp2_with fail
          refine E2.out.mono ?_; rintro e w5 ⟨rfl, q5, rfl⟩
          clear E2
          go_wp2_with fail
          go_loopw [78] (fun si wx => ∃ t : Nat, t ≤ dl ∧ si = .int .i64 t ∧ Hid (w4.grownBy wx (some w3.heap.size) ∧ ∃ mm, mm ≤ k * 1000 + t ∧ Hd wx w3.heap.size mm (putF (hoF os day k) (D.take t) id))) (fun si _ => dl - (intOf si).toNat)
          case atStart => exact ⟨0, Nat.zero_le _, rfl, ⟨rfl, rfl, rfl, Nat.le_refl _, fun _ _ _ => rfl⟩, nn, by have := HNN.out; omega, F0.out.below (below_drewN w4 _)⟩
          case round =>
            obtain ⟨t, ht, rfl, hrel⟩ := hrel
            obtain ⟨gr, mm, hmm, hd⟩ := hrel.out
            clear hrel
            have NE := Lib.hid (show w9.heap.size ≠ w3.heap.size from by have := NB.out; omega)
            have x0 : wr.cell? ⟨w9.heap.size, 0, none⟩ = some (.int .i64 id) := (grown_cell gr NE.out ys).trans y0
            by_cases hlt2 : t < dl
            · obtain ⟨y, hy⟩ : ∃ y, D[t]? = some y := ⟨_, List.getElem?_eq_getElem (by rw [← HDL.out]; exact hlt2)⟩
              obtain ⟨gy, oy, rfl, hgy, cy⟩ := HC4.out t y hy
              have NEY := Lib.hid (HD4.out.ne cy)
              have cy2 : wr.cell? ⟨gy, oy + t, none⟩ = some (.int .i64 y) := (grown_cell gr NEY.out hgy).trans cy
              have MY := List.mem_of_getElem? hy
              have W64Y := MEM.out y MY
              have NT : y ∉ D.take t := fun h => by
                obtain ⟨j, hj, e⟩ := List.mem_take_iff_getElem.1 h
                have h1 : D[j]? = D[t]? := by rw [hy, ← e]; exact List.getElem?_eq_getElem (by omega)
                have := (List.getElem?_inj (by omega) NN.out).1 h1
                omega
              have GET := hd.get W64Y
              rw [show putF (hoF os day k) (D.take t) id y = 0 by unfold putF; rw [if_neg NT]; exact FRESH.out y MY] at GET
              obtain ⟨w6, PUT, hd6, g6⟩ := hd.put W64Y WF.out (v := id) (by have := hk; have := DLEN.out; omega)
              have F6 := Lib.hid (show Hd w6 w3.heap.size (mm + 1) (putF (hoF os day k) (D.take (t + 1)) id) by
                rw [List.take_add_one, hy]
                show Hd w6 _ _ (putF _ (D.take t ++ [y]) id)
                rw [putF_snoc]
                exact hd6)
              have G6 := Lib.hid (grown_trans gr g6)
              have MM := Lib.hid hmm
              have DL1 : dl ≤ 1000 := DLEN.out
              clear hy cy MY W64Y NT hd6 g6 gr hd hgy hmm
              go_wp2_with fail
              go_roundw
              case rel => exact ⟨t + 1, by omega, by go_num, G6.out, mm + 1, by have := MM.out; omega, F6.out⟩
              case measure => simp [intOf]; omega
            · obtain rfl : t = dl := by omega
              have FN := Lib.hid (show Hd wr w3.heap.size mm (hoF os day (k + 1)) by
                rw [← STEP.out]
                have := hd
                rwa [List.take_of_length_le (by rw [← HDL.out]; exact Nat.le_refl _)] at this)
              have BN := Lib.hid ((BL.out.trans (R4.out.mono BL.out.size)).grown gr ((BL.out.trans (R4.out.mono BL.out.size)).size) (fun j e => by cases e; exact Nat.le_refl _))
              have MM := Lib.hid hmm
              clear hd gr hmm x0
              go_wp2_with fail
              go_roundw
              case rel => exact ⟨k + 1, by omega, by go_num, BN.out, mm, by have := MM.out; have := DLEN.out; omega, FN.out⟩
              case measure => simp [intOf]; omega
      · obtain rfl : k = n := by omega
        have HDn := Lib.hid (show Hd w9 w3.heap.size nn (hoF os day os.length) by rw [HLL.out]; exact HD.out)
        have BW3 := Lib.hid BW.out
        clear HD DU
        go_wp2_with fail
        go_loopw [94] (fun si wr => ∃ j : Nat, j ≤ k ∧ si = .int .i64 j ∧ Hid (Below w9.heap.size w9 wr)) (fun si _ => k - (intOf si).toNat)
        case atStart => exact ⟨0, Nat.zero_le _, rfl, Below.refl _ _⟩
        case round =>
          obtain ⟨j, hj, rfl, hrel⟩ := hrel
          have BL2 := Lib.hid hrel.out
          have BW2 := Lib.hid (BW.out.trans (BL2.out.mono BW.out.size))
          clear hrel
          by_cases hlt2 : j < k
          · obtain ⟨o, ho⟩ : ∃ o, os[j]? = some o := ⟨_, List.getElem?_eq_getElem (by rw [HLL.out]; exact hlt2)⟩
            obtain ⟨p', c', e', hc', hp'⟩ := HO.out.below BW2.out
            obtain ⟨rfl, -, rfl⟩ := Value.slice.inj e'
            obtain ⟨g, off, rfl, hcell⟩ := hp' (by rw [HLL.out]; omega)
            have OA := hcell j o ho
            have WF := (HR.out o (List.mem_of_getElem? ho)).1
            have ALL := hoF_all os o day
            have HEx := Lib.hid (fun V hV => HE.out V hV o.id WF)
            clear hcell ho hp' e' hc'
            obtain ⟨id, nm, fr, un, nx, q2, cc⟩ := o
            obtain ⟨lt0, c0, c1, c2, c3, c4, -⟩ := OA
            replace c0 : wr.cell? ⟨g, off + j * 5, none⟩ = some (.int .i64 id) := c0
            replace c1 : wr.cell? ⟨g, off + j * 5 + 1, none⟩ = some (.string nm.1) := c1
            replace c2 : wr.cell? ⟨g, off + j * 5 + 2, none⟩ = some (.int .i64 fr) := c2
            replace c3 : wr.cell? ⟨g, off + j * 5 + 3, none⟩ = some (.int .i64 un) := c3
            replace c4 : wr.cell? ⟨g, off + j * 5 + 4, none⟩ = some (.slice q2 nx.length cc) := c4
            replace ALL : (hrF os id day = (0, false) ∧ hoF os day os.length id = 0) ∨ (∃ h, h ≠ 0 ∧ hrF os id day = (h, true) ∧ hoF os day os.length id = h) := ALL
            replace WF : W64 id := WF
            replace HEx : Hid (∀ V, Below w.heap.size w V → Calls Try.prog 11 #[.slice (some ⟨g, off, none⟩) k c, .int .i64 id, .int .i64 day] V fun e w' => e = .returned (.tuple #[.int .i64 (hrF os id day).1, .bool (hrF os id day).2]) ∧ Below V.heap.size V w') := HEx
            obtain ⟨W1, hW1⟩ : ∃ W1, W1 = wr.alloc (.cells #[.int .i64 id, .string nm.1, .int .i64 fr, .int .i64 un, .slice q2 nx.length cc] 43) := ⟨_, rfl⟩
            have z0 : W1.cell? ⟨wr.heap.size, 0, none⟩ = some (.int .i64 id) := by rw [hW1]; exact World.cell?_alloc_mark wr _ _ (0, 0) 0
            have zs : wr.heap.size < W1.heap.size := by rw [hW1]; simp
            have R1 := Lib.hid (show Below wr.heap.size wr W1 by rw [hW1]; exact (Below.refl _ wr).alloc (Nat.le_refl _) _)
            have K1 := HEx.out W1 (BW2.out.trans (R1.out.mono BW2.out.size))
            have GETF := Lib.hid (fun V (hV : Below w9.heap.size w9 V) => (HDn.out.below hV).get WF)
            clear HEx WF
            rcases ALL with ⟨h1, h2⟩ | ⟨h, hne, h1, h2⟩
            all_goals
              rw [h1] at K1
              rw [h2] at GETF
              replace K1 := Lib.hid K1
              clear h1 h2
              (try have HNE : (h != 0) = true := by simpa using hne)
              (try clear hne)
              go_upto_region 25 with (fail)
              rw [← hW1]
              clear hW1 c0 c1 c2 c3 c4
              go_wp2_with fail
              refine K1.out.mono ?_; rintro e w4 ⟨rfl, b4⟩
              have R4 := Lib.hid (R1.out.trans (b4.mono R1.out.size))
              have y0 := (b4.cell (p := ⟨wr.heap.size, 0, none⟩) zs).trans z0
              have BN := Lib.hid (BL2.out.trans (R4.out.mono BL2.out.size))
              have GET := GETF.out w4 BN.out
              clear b4 K1 z0 zs
              go_wp2_with fail
              go_roundw
              case rel => exact ⟨j + 1, by omega, by go_num, BN.out⟩
              case measure => simp [intOf]; omega
          · obtain rfl : j = k := by omega
            have BX := Lib.hid BW2.out
            go_wp2_with fail
            go_ret
            exact ⟨rfl, BX.out⟩
end Go.Proofs.Ytlmgjgcdfhccaaa
