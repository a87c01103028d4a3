/- chain. -/
import Derived.Test.YtlmgjgcdfhccaaaOM
namespace Go.Proofs.Ytlmgjgcdfhccaaa
open Go.RowKit Go.Maps Go.Shelf

/-- A box that holds an office, and may be written. -/
def cells5 (o : Of) : Array Value := #[.int .i64 o.id, .string o.nm.1, .int .i64 o.fr, .int .i64 o.un, o.nv]
structure Bx5 (w : World) (B : Nat) (o : Of) : Prop where
  blk : w.heap[B]? = some (.cells (cells5 o) 43 (0, 0))
theorem Bx5.lt {w : World} {B : Nat} {o : Of} (h : Bx5 w B o) : B < w.heap.size := (Array.getElem?_eq_some_iff.1 h.blk).1
theorem Bx5.c0 {w : World} {B : Nat} {o : Of} (h : Bx5 w B o) : w.cell? ⟨B, 0, none⟩ = some (.int .i64 o.id) := by simp [World.cell?, h.blk, cells5]
theorem Bx5.c1 {w : World} {B : Nat} {o : Of} (h : Bx5 w B o) : w.cell? ⟨B, 1, none⟩ = some (.string o.nm.1) := by simp [World.cell?, h.blk, cells5]
theorem Bx5.c2 {w : World} {B : Nat} {o : Of} (h : Bx5 w B o) : w.cell? ⟨B, 2, none⟩ = some (.int .i64 o.fr) := by simp [World.cell?, h.blk, cells5]
theorem Bx5.c3 {w : World} {B : Nat} {o : Of} (h : Bx5 w B o) : w.cell? ⟨B, 3, none⟩ = some (.int .i64 o.un) := by simp [World.cell?, h.blk, cells5]
theorem Bx5.c4 {w : World} {B : Nat} {o : Of} (h : Bx5 w B o) : w.cell? ⟨B, 4, none⟩ = some o.nv := by simp [World.cell?, h.blk, cells5]
theorem Bx5.below {w w' : World} {B : Nat} {o : Of} (h : Bx5 w B o) (hb : Below w.heap.size w w') : Bx5 w' B o := ⟨(hb.block B h.lt).trans h.blk⟩
theorem Bx5.new (w : World) (o : Of) : Bx5 (w.alloc (.cells #[.int .i64 o.id, .string o.nm.1, .int .i64 o.fr, .int .i64 o.un, o.nv] 43)) w.heap.size o := ⟨heap_alloc_new w _⟩
theorem Bx5.set {w : World} {B : Nat} {o : Of} (h : Bx5 w B o) (o2 : Of) : Bx5 (w.setRow B #[.int .i64 o2.id, .string o2.nm.1, .int .i64 o2.fr, .int .i64 o2.un, o2.nv]) B o2 := ⟨setRow_heap w B _ _ _ _ h.blk⟩
theorem setRow_grown (w : World) (B : Nat) (cs : Array Value) : w.grownBy (w.setRow B cs) (some B) :=
  ⟨rfl, rfl, rfl, Nat.le_of_eq (setRow_size w B cs).symm, fun k _ hk => setRow_other w B k cs (fun e => hk (by rw [e]))⟩
theorem own_set {w : World} {K B n size : Nat} {e : TypeId} {v : Value} {xs : List Value} (h : w.ownsRow K e size v n xs) (hB : B < K) (cs : Array Value) : (w.setRow B cs).ownsRow K e size v n xs :=
  h.kept (setRow_grown w B cs) (Or.inr (fun g => by have := own_from h B g; omega))
theorem szOffice : (Try.prog.info? 43).map (·.size) = some 5 := by kernel_rfl
theorem one5 (i f u : Int) (s : ByteArray) (p : Option Addr) (n c : Nat) : (#[Value.int .i64 i, .string s, .int .i64 f, .int .i64 u, .slice p n c] : Array Value).all (·.oneCell') = true := by simp [Value.oneCell']
theorem size5 (a b c d e a' b' c' d' e' : Value) : (#[a, b, c, d, e] : Array Value).size = (#[a', b', c', d', e'] : Array Value).size := by simp
theorem szOffice5 (a b c d e : Value) : (Try.prog.info? 43).map (·.size) = some (#[a, b, c, d, e] : Array Value).size := szOffice

theorem own_below {w w' : World} {K n size : Nat} {e : TypeId} {v : Value} {xs : List Value} (h : w.ownsRow K e size v n xs) (b : Below w.heap.size w w') : w'.ownsRow K e size v n xs := by
  by_cases g : v.ownBlock = none
  · exact h.kept (gb_below (r := none) b) (Or.inl g)
  · exact h.kept (gb_below (r := none) b) (Or.inr g)
/-- What the loop of chain keeps. -/
structure ChL (os : List Of) (day : Int) (i0 : Nat) (b : Nat) (w : World) (i : Nat) (o : Of) (pre : List Int) (u : Value) (wr : World) : Prop where
  ho : os[i]? = some o
  bx : Bx5 wr w.heap.size o
  own : wr.ownsRow (w.heap.size + 1) 3 1 u (pre ++ [o.id]).length ((pre ++ [o.id]).map encZ)
  bel : Below w.heap.size w wr
  ch : ∀ L, Ch os day i L → Ch os day i0 (pre ++ L)
  len : (pre.length : Int) ≤ o.fr
set_option maxRecDepth 100000 in
set_option maxHeartbeats 8000000 in
theorem chain_any (v : Value) (os : List Of) (b i0 : Nat) (id day : Int) (w : World) (hv : IsO w v os) (hn : os.length ≤ 1000) (hr : NumO os) (hg : (ckV os).2 = 0) (hix : Ix w b os) (hid : W64 id) (h0 : ixO os id = some i0) :
    Calls Try.prog 33 #[v, .map (some b), .int .i64 id, .int .i64 day] w fun e w' => ∃ L u, Ch os day i0 L ∧ e = .returned u ∧ w'.ownsRow (w.heap.size + 1) 3 1 u L.length (L.map encZ) ∧ Below w.heap.size w w' := by
  have HV := Lib.hid hv
  obtain ⟨p, c, rfl, hc, hp⟩ := hv
  have hi0 := ixO_lt h0
  obtain ⟨o0, ho0⟩ : ∃ o, os[i0]? = some o := ⟨_, List.getElem?_eq_getElem hi0⟩
  obtain ⟨g, off, rfl, hcell⟩ := hp (by omega)
  obtain ⟨n, hnn⟩ : ∃ n, n = os.length := ⟨_, rfl⟩
  have HN := Lib.hid hnn
  have HC := Lib.hid hcell
  have HR := Lib.hid hr
  have HG := Lib.hid hg
  have HX := Lib.hid hix
  have OA := hcell i0 o0 ho0
  have LK := hix.get hid
  rw [h0] at LK
  replace LK : (Instr.lookup 39 (.map (some b)) (.int .i64 id) false).run Try.prog w = .ok (.int .i64 ((i0 : Nat) : Int)) w := LK
  have N0 := Lib.hid (Bx5.new w o0)
  have F0 := Lib.hid (show (0 : Int) ≤ o0.fr ∧ o0.fr ≤ 1048576 by
    have := of_decide_eq_true (good_ok hg ho0).sp; omega)
  have H0 := Lib.hid ho0
  rw [← hnn] at hn hc hi0 HV ⊢
  clear hp hcell hr hg hix hnn h0 ho0
  obtain ⟨id0, nm0, fr0, un0, nx0, q0, cc0⟩ := o0
  obtain ⟨lt0, c0, c1, c2, c3, c4, _⟩ := OA
  replace c0 : w.cell? ⟨g, off + i0 * 5, none⟩ = some (.int .i64 id0) := c0
  replace c1 : w.cell? ⟨g, off + i0 * 5 + 1, none⟩ = some (.string nm0.1) := c1
  replace c2 : w.cell? ⟨g, off + i0 * 5 + 2, none⟩ = some (.int .i64 fr0) := c2
  replace c3 : w.cell? ⟨g, off + i0 * 5 + 3, none⟩ = some (.int .i64 un0) := c3
  replace c4 : w.cell? ⟨g, off + i0 * 5 + 4, none⟩ = some (.slice q0 nx0.length cc0) := c4
  replace N0 : Hid (Bx5 (w.alloc (.cells #[.int .i64 id0, .string nm0.1, .int .i64 fr0, .int .i64 un0, .slice q0 nx0.length cc0] 43)) w.heap.size ⟨id0, nm0, fr0, un0, nx0, q0, cc0⟩) := N0
  replace F0 : Hid ((0 : Int) ≤ fr0 ∧ fr0 ≤ 1048576) := F0
  have y0 : (w.alloc (.cells #[.int .i64 id0, .string nm0.1, .int .i64 fr0, .int .i64 un0, .slice q0 nx0.length cc0] 43)).cell? ⟨w.heap.size, 0, none⟩ = some (.int .i64 id0) := N0.out.c0
  obtain ⟨ai, hi, hz0, hz1, hz2⟩ := info_parts (P := Try.prog) (e := 3) (z := .int .i64 0) (size := 1) (bytes := 8) (by kernel_rfl)
  have US : Try.prog.underlying 28 = some (.slice 3) := by kernel_rfl
  go_enter Try.func33, Try.ntmps33
  go_wp2_with fail
  go_loopg [10] 1048577 (fun gg s10 wr => ∃ (i : Nat) (o : Of) (pre : List Int), Hid (ChL os day i0 b w i o pre s10 wr ∧ (1048576 - o.fr).toNat ≤ gg))
  case atStart =>
    refine ⟨i0, ⟨id0, nm0, fr0, un0, nx0, q0, cc0⟩, [], ⟨H0.out, ?_, ?_, ?_, fun L h => h, F0.out.1⟩, by show (1048576 - fr0).toNat ≤ 1048577; have := F0.out; omega⟩
    · exact N0.out.below ((Below.refl _ _).alloc (Nat.le_refl _) _)
    · have h := own_oneZ (w.alloc (.cells #[.int .i64 id0, .string nm0.1, .int .i64 fr0, .int .i64 un0, .slice q0 nx0.length cc0] 43)) id0 (w.heap.size + 1) (by simp)
      rw [World.size_alloc] at h
      exact h
    · exact ((Below.refl _ w).alloc (Nat.le_refl _) _).alloc (by simp) _
  case round =>
    obtain ⟨i, o, pre, hrel⟩ := hrel
    have HO := Lib.hid hrel.out.1.ho
    have GO := Lib.hid (good_ok HG.out hrel.out.1.ho)
    have OW := Lib.hid hrel.out.1.own
    have BX := Lib.hid hrel.out.1.bx
    have BL := Lib.hid hrel.out.1.bel
    have CH := Lib.hid hrel.out.1.ch
    have LE := Lib.hid hrel.out.1.len
    have GG := Lib.hid hrel.out.2
    have NX := Lib.hid (((HC.out i o hrel.out.1.ho).below hrel.out.1.bel).nx)
    have STOP := Lib.hid (fun h => Ch.stop (day := day) hrel.out.1.ho h)
    have STEP := Lib.hid (fun (j : Nat) (x : Int) (r : List Int) (L : List Int) hb hx hj hL => Ch.step (day := day) (j := j) (x := x) (r := r) (L := L) hrel.out.1.ho hb hx hj hL)
    have NUM := Lib.hid (HR.out o (List.mem_of_getElem? hrel.out.1.ho)).2.2.2.1
    have HS := Lib.hid (has_any o.fr o.un day)
    clear hrel
    obtain ⟨id1, nm1, fr1, un1, nx1, q1, cc1⟩ := o
    have z2 : wr.cell? ⟨w.heap.size, 2, none⟩ = some (.int .i64 fr1) := BX.out.c2
    have z3 : wr.cell? ⟨w.heap.size, 3, none⟩ = some (.int .i64 un1) := BX.out.c3
    replace HS : Hid (∀ V, Calls Try.prog 50 #[.agg #[.int .i64 fr1, .int .i64 un1], .int .i64 day] V fun e w' => e = .returned (.bool (hasB fr1 un1 day)) ∧ Below V.heap.size V w') := HS
    cases hb : hasB fr1 un1 day with
    | true =>
      rw [hb] at HS
      have CC := Lib.hid (CH.out _ (STOP.out (Or.inl hb)))
      have H1 := Lib.hid (HS.out wr)
      clear hb HS NX STEP STOP CH GG
      go_wp2_with fail
      refine H1.out.mono ?_; rintro e w1 ⟨rfl, b1⟩
      have OW1 := Lib.hid (own_below OW.out b1)
      have B1 := Lib.hid (BL.out.trans (b1.mono BL.out.size))
      clear b1 H1
      go_wp2_with fail
      go_ret
      exact ⟨_, _, CC.out, rfl, OW1.out, B1.out⟩
    | false =>
      rw [hb] at HS
      have HB := Lib.hid hb
      have H1 := Lib.hid (HS.out wr)
      clear hb HS
      cases nx1 with
      | nil =>
        have CC := Lib.hid (CH.out _ (STOP.out (Or.inr rfl)))
        clear NX STEP STOP CH GG
        go_wp2_with fail
        refine H1.out.mono ?_; rintro e w1 ⟨rfl, b1⟩
        have OW1 := Lib.hid (own_below OW.out b1)
        have B1 := Lib.hid (BL.out.trans (b1.mono BL.out.size))
        have z4 : w1.cell? ⟨w.heap.size, 4, none⟩ = some (.slice q1 0 cc1) := (BX.out.below b1).c4
        clear b1 H1
        go_wp2_with fail
        go_ret
        exact ⟨_, _, CC.out, rfl, OW1.out, B1.out⟩
      | cons x r =>
        obtain ⟨j, o2, hj, ho2, hid2, hfr⟩ := GO.out.ix x (List.mem_cons_self ..)
        have hjn : j < n := by rw [HN.out]; exact (List.getElem?_eq_some_iff.1 ho2).1
        have X64 : W64 x := NUM.out x (List.mem_cons_self ..)
        have SP1 := of_decide_eq_true GO.out.sp
        have SP2 := of_decide_eq_true (good_ok HG.out ho2).sp
        replace hfr : o2.fr = un1 := hfr
        replace SP1 : 0 ≤ fr1 ∧ fr1 < un1 ∧ un1 ≤ 1048576 := SP1
        have LE2 := Lib.hid (show ((pre.length : Int) + 1 ≤ o2.fr) ∧ (1048576 - o2.fr).toNat < (1048576 - fr1).toNat ∧ (pre.length : Int) ≤ 1048576 by
          have := LE.out
          replace this : (pre.length : Int) ≤ fr1 := this
          omega)
        have CH2 := Lib.hid (fun (L : List Int) (h : Ch os day j L) => show Ch os day i0 ((pre ++ [id1]) ++ L) by
          have := CH.out _ (STEP.out j x r L HB.out rfl hj h)
          rw [List.append_assoc]; exact this)
        obtain ⟨qq, cq, eq1, hcq, hq⟩ := NX.out
        obtain ⟨g3, off3, rfl, hg3, hc3⟩ := hq (by simp)
        obtain ⟨rfl, _, rfl⟩ := Value.slice.inj eq1
        have x0 : wr.cell? ⟨g3, off3, none⟩ = some (.int .i64 x) := hc3 0 (by simp)
        have OB := (HC.out j o2 ho2).below BL.out
        have HO2 := Lib.hid ho2
        have LENr : 0 < r.length + 1 := by omega
        have D0 : decide (0 < r.length + 1) = true := by simp
        obtain ⟨l1, hl1⟩ : ∃ l, l = r.length + 1 := ⟨_, rfl⟩
        have IW := fun V (h : Below wr.heap.size wr V) => ((HX.out.below BL.out).below h).get X64
        rw [hj] at IW
        replace IW : ∀ V, Below wr.heap.size wr V → (Instr.lookup 39 (.map (some b)) (.int .i64 x) false).run Try.prog V = .ok (.int .i64 ((j : Nat) : Int)) V := IW
        clear NX STEP STOP CH GO NUM hc3 hq SP2 hj ho2 hid2 eq1 hfr
        go_wp2_with fail
        refine H1.out.mono ?_; rintro e w1 ⟨rfl, b1⟩
        have OW1 := Lib.hid (own_below OW.out b1)
        have B1 := Lib.hid (BL.out.trans (b1.mono BL.out.size))
        have BX1 := Lib.hid (BX.out.below b1)
        have z4 : w1.cell? ⟨w.heap.size, 4, none⟩ = some (.slice (some ⟨g3, off3, none⟩) (r.length + 1) cc1) := BX1.out.c4
        have y0 : w1.cell? ⟨w.heap.size, 0, none⟩ = some (.int .i64 id1) := BX1.out.c0
        have y1 : w1.cell? ⟨w.heap.size, 1, none⟩ = some (.string nm1.1) := BX1.out.c1
        have y2 : w1.cell? ⟨w.heap.size, 2, none⟩ = some (.int .i64 fr1) := BX1.out.c2
        have y3 : w1.cell? ⟨w.heap.size, 3, none⟩ = some (.int .i64 un1) := BX1.out.c3
        have x1 := (b1.cell (p := ⟨g3, off3, none⟩) hg3).trans x0
        have LK1 := IW w1 b1
        have OC := OB.below b1
        have BS := Lib.hid (BX1.out.set o2)
        obtain ⟨id2, nm2, fr2, un2, nx2, q2, cc2⟩ := o2
        obtain ⟨lt2, c0', c1', c2', c3', c4', _⟩ := OC
        replace c0' : w1.cell? ⟨g, off + j * 5, none⟩ = some (.int .i64 id2) := c0'
        replace c1' : w1.cell? ⟨g, off + j * 5 + 1, none⟩ = some (.string nm2.1) := c1'
        replace c2' : w1.cell? ⟨g, off + j * 5 + 2, none⟩ = some (.int .i64 fr2) := c2'
        replace c3' : w1.cell? ⟨g, off + j * 5 + 3, none⟩ = some (.int .i64 un2) := c3'
        replace c4' : w1.cell? ⟨g, off + j * 5 + 4, none⟩ = some (.slice q2 nx2.length cc2) := c4'
        have BLK := BX1.out.blk
        replace BLK : w1.heap[w.heap.size]? = some (.cells #[.int .i64 id1, .string nm1.1, .int .i64 fr1, .int .i64 un1, .slice (some ⟨g3, off3, none⟩) (r.length + 1) cc1] 43 (0, 0)) := BLK
        have HBLK := Lib.hid BLK
        obtain ⟨W5, hW5⟩ : ∃ W5, W5 = w1.setRow w.heap.size #[.int .i64 id2, .string nm2.1, .int .i64 fr2, .int .i64 un2, .slice q2 nx2.length cc2] := ⟨_, rfl⟩
        replace BS : Hid (Bx5 W5 w.heap.size ⟨id2, nm2, fr2, un2, nx2, q2, cc2⟩) := by rw [hW5]; exact BS
        have t0 : W5.cell? ⟨w.heap.size, 0, none⟩ = some (.int .i64 id2) := BS.out.c0
        have B5 := Lib.hid (show Below w.heap.size w W5 by
          have := B1.out.grown (setRow_grown w1 w.heap.size #[.int .i64 id2, .string nm2.1, .int .i64 fr2, .int .i64 un2, .slice q2 nx2.length cc2]) B1.out.size (fun k e => by cases e; exact Nat.le_refl _)
          rw [← hW5] at this; exact this)
        have OA5 := Lib.hid (show W5.ownsRow (w.heap.size + 1) 3 1 u10 (pre ++ [id1]).length ((pre ++ [id1]).map encZ) by
          rw [hW5]; exact own_set OW1.out (Nat.lt_succ_self _) _)
        have OA := Lib.hid (OA5.out.alloc (.cells #[.int .i64 id2] 3))
        have SZ := Lib.hid (show w.heap.size + 1 ≤ (W5.alloc (.cells #[.int .i64 id2] 3)).heap.size by have := BS.out.lt; simp; omega)
        have LEN := Lib.hid (show (pre ++ [id1]).length ≤ 1048577 by have := LE2.out.2.2; simp; omega)
        clear b1 H1 IW x0 OB OW1 BX1 B1 OW BX BL BLK
        go_upto_region 4 with (fail)
        go_upto_region 5 with (refine wpList_store_row rfl 43 _ _ rfl _ _ rfl rfl _ _ HBLK.out (szOffice5 _ _ _ _ _) (size5 _ _ _ _ _ _ _ _ _ _) (one5 _ _ _ _ _ _ _) ?_; rw [← hW5]; clear hW5 y0 y1 y2 y3 z4 x1 c0' c1' c2' c3' c4' LK1)
        go_wp2_with (at_builtin; refine wpList_append_own _ rfl _ _ 28 rfl (w.heap.size + 1) 3 ai (.int .i64 0) 1 8 US hi hz0 hz1 hz2 rfl (by decide) _ _ _ rfl OA.out ⟨W5.heap.size, 0, none⟩ 1 1 [.int .i64 id2] rfl rfl (cell_one_new _ _ _) (by simp [Value.oneCell']) (by have := LEN.out; unfold maxLen; omega) (by have := LEN.out; omega) SZ.out ?_)
        intro v5 w5 own5 g5 _
        have BA := Lib.hid (B5.out.alloc B5.out.size (.cells #[.int .i64 id2] 3))
        have B6 := Lib.hid (BA.out.grown g5 BA.out.size (fun k hk => Nat.le_of_succ_le (own_from OA.out k hk)))
        have X6 := Lib.hid (show Bx5 w5 w.heap.size ⟨id2, nm2, fr2, un2, nx2, q2, cc2⟩ from ⟨(g5.block w.heap.size (by have := BS.out.lt; simp; omega) (fun e => by have := own_from OA.out _ e.symm; omega)).trans ((Below.heap_alloc W5 _ w.heap.size BS.out.lt).trans BS.out.blk)⟩)
        have O6 := Lib.hid (show w5.ownsRow (w.heap.size + 1) 3 1 v5 ((pre ++ [id1]) ++ [id2]).length (((pre ++ [id1]) ++ [id2]).map encZ) by
          simpa [encZ] using own5)
        have L6 := Lib.hid (show (((pre ++ [id1]).length : Nat) : Int) ≤ fr2 by have := LE2.out.1; simp; exact this)
        have G6 := Lib.hid (show (1048576 - fr2).toNat < gk by
          have h1 : (1048576 - fr1).toNat ≤ gk := GG.out
          have h2 : (1048576 - fr2).toNat < (1048576 - fr1).toNat := LE2.out.2.1
          omega)
        clear own5 g5
        go_wp2_with fail
        go_roundg ((1048576 - fr2).toNat)
        case measure => exact G6.out
        case rel => exact ⟨j, ⟨id2, nm2, fr2, un2, nx2, q2, cc2⟩, pre ++ [id1], ⟨HO2.out, X6.out, O6.out, B6.out, CH2.out, L6.out⟩, Nat.le_refl _⟩
end Go.Proofs.Ytlmgjgcdfhccaaa
