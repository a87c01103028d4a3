/- Free: the walk. -/
import Derived.Test.YtnjnjcgbdhiigaaGreatDoorCV
namespace Go.Proofs.YtnjnjcgbdhiigaaGreatDoor
open Go.RowKit Go.Shelf

/-- Why Free gives nothing. -/
def FrE (ts : List Txt) (l : List UInt8) (k : Int) : Prop :=
  (k = 8 ∧ 1024 < ts.length) ∨ (k = 3 ∧ ts.length ≤ 1024 ∧ ((∀ ns, ¬ Abv l ns) ∨ ∃ x ∈ ts, ∀ ms, ¬ PR (bts x) ms)) ∨
  (k = 12 ∧ ts.length ≤ 1024 ∧ ∃ ns, Abv l ns ∧ (∀ x ∈ ts, ∃ ms, PR (bts x) ms) ∧ (ns.length = 6 ∨ ∀ j, 1 ≤ j → j ≤ 999 → ∃ x ∈ ts, PR (bts x) (ns ++ [j])))
/-- What Free gives. -/
def FrG (ts : List Txt) (l : List UInt8) (t : Txt) : Prop :=
  ∃ ns i, Abv l ns ∧ ns.length < 6 ∧ 1 ≤ i ∧ i ≤ 999 ∧ ts.length ≤ 1024 ∧ (∀ x ∈ ts, ∃ ms, PR (bts x) ms) ∧ (∀ x ∈ ts, ¬ PR (bts x) (ns ++ [i])) ∧ (∀ k, 1 ≤ k → k < i → ∃ x ∈ ts, PR (bts x) (ns ++ [k])) ∧ bts t = cd (ns ++ [i])
def FreeR (ts : List Txt) (l : List UInt8) (w : World) (e : Ending) (w' : World) : Prop :=
  ((∃ t : Txt, FrG ts l t ∧ e = .returned (.tuple #[.string t.1, .int .i64 0])) ∨ (∃ k, FrE ts l k ∧ e = .returned (.tuple #[.string ⟨#[]⟩, .int .i64 k]))) ∧ Below w.heap.size w w'
/-- What is known of the first k codes. -/
structure FK (ts : List Txt) (ns : List Nat) (k : Nat) (u : Nat → Bool) : Prop where
  good : ∀ x ∈ ts.take k, ∃ ms, PR (bts x) ms
  mark : ∀ j, u j = true ↔ ∃ x ∈ ts.take k, PR (bts x) (ns ++ [j])
theorem FK.next {ts : List Txt} {ns : List Nat} {k : Nat} {u : Nat → Bool} (h : FK ts ns k u) {x : Txt} (hx : ts[k]? = some x) {ms : List Nat} (hm : PR (bts x) ms) (hn : ∀ j, ms ≠ ns ++ [j]) : FK ts ns (k + 1) u where
  good y hy := by
    rw [List.take_add_one, hx] at hy
    rcases List.mem_append.1 hy with a | a
    · exact h.good y a
    · obtain rfl : y = x := by simpa using a
      exact ⟨ms, hm⟩
  mark j := by
    rw [h.mark j, List.take_add_one, hx]
    constructor
    · rintro ⟨y, hy, hp⟩; exact ⟨y, List.mem_append_left _ hy, hp⟩
    · rintro ⟨y, hy, hp⟩
      rcases List.mem_append.1 hy with a | a
      · exact ⟨y, a, hp⟩
      · obtain rfl : y = x := by simpa using a
        exact absurd (hm.one hp) (hn j)
theorem FK.hit {ts : List Txt} {ns : List Nat} {k : Nat} {u : Nat → Bool} (h : FK ts ns k u) {x : Txt} (hx : ts[k]? = some x) {i : Nat} (hm : PR (bts x) (ns ++ [i])) : FK ts ns (k + 1) (fun j => u j || decide (j = i)) where
  good y hy := by
    rw [List.take_add_one, hx] at hy
    rcases List.mem_append.1 hy with a | a
    · exact h.good y a
    · obtain rfl : y = x := by simpa using a
      exact ⟨_, hm⟩
  mark j := by
    rw [List.take_add_one, hx]
    simp only [Bool.or_eq_true, decide_eq_true_eq]
    rw [h.mark j]
    constructor
    · rintro (⟨y, hy, hp⟩ | rfl)
      · exact ⟨y, List.mem_append_left _ hy, hp⟩
      · exact ⟨x, List.mem_append_right _ (by simp), hm⟩
    · rintro ⟨y, hy, hp⟩
      rcases List.mem_append.1 hy with a | a
      · exact Or.inl ⟨y, a, hp⟩
      · obtain rfl : y = x := by simpa using a
        have := hm.one hp
        simp at this
        exact Or.inr this.symm
theorem wi_last {ms ns : List Nat} (h : wiL ms ns = true) (hl : ms.length = ns.length + 1) : ∃ j, ms = ns ++ [j] ∧ ms[ns.length]? = some j := by
  obtain ⟨_, h2⟩ := of_decide_eq_true h
  have hj : ms[ns.length]? = some (ms[ns.length]'(by omega)) := List.getElem?_eq_getElem (by omega)
  refine ⟨ms[ns.length]'(by omega), ?_, hj⟩
  conv => lhs; rw [← List.take_of_length_le (l := ms) (i := ns.length + 1) (by omega)]
  rw [List.take_add_one, h2, hj]; rfl
theorem wi_not {ms ns : List Nat} (h : wiL ms ns = false) (j : Nat) : ms ≠ ns ++ [j] := fun e => by
  have : wiL ms ns = true := decide_eq_true (by rw [e]; simp)
  rw [h] at this; cases this
theorem len_not {ms ns : List Nat} (h : ms.length ≠ ns.length + 1) (j : Nat) : ms ≠ ns ++ [j] := fun e => h (by rw [e]; simp)
theorem Abv.len {l : List UInt8} {ns : List Nat} (h : Abv l ns) : ns.length ≤ 6 := h.elim (fun h => by rw [h.2]; simp) (fun h => h.len)
theorem Abv.rng {l : List UInt8} {ns : List Nat} (h : Abv l ns) : ∀ n ∈ ns, 1 ≤ n ∧ n ≤ 999 := h.elim (fun h => by rw [h.2]; simp) (fun h => h.rng)
theorem own_less {w : World} {K K' n size : Nat} {e : TypeId} {v : Value} {xs : List Value} (h : w.ownsRow K e size v n xs) (hK : K' ≤ K) : w.ownsRow K' e size v n xs := ⟨h.1, h.2.imp id (fun ⟨g, cap, cur, e, hb, r⟩ => ⟨g, cap, cur, e, Nat.le_trans hK hb, r⟩)⟩
/-- The loop's state. -/
structure FL (ts : List Txt) (ns : List Nat) (w1 : World) (k : Nat) (W : World) : Prop where
  bel : Below w1.heap.size w1 W
  u : ∃ u, FK ts ns k u ∧ Us w1.heap.size u W

set_option maxRecDepth 100000 in
set_option maxHeartbeats 2000000 in
theorem Free_any (v : Value) (ts : List Txt) (s : Txt) (w : World) (hw : Lw w) (hv : IsT w v ts) : Calls Tryz.prog 18 #[v, .string s.1] w (FreeR ts (bts s) w) := by
  obtain ⟨p, c, rfl, hc, hp⟩ := hv
  by_cases h0 : 1024 < ts.length
  · have N := Lib.hid (show FrE ts (bts s) 8 from Or.inl ⟨rfl, h0⟩)
    have d : decide (1024 < (ts.length : Int)) = true := by simpa using (by omega : (1024 : Int) < (ts.length : Int))
    clear hp hw hc h0
    generalize ts.length = n at *
    go_enter Tryz.func18, Tryz.ntmps18
    go_wp2_with fail
    go_ret2
    exact ⟨Or.inr ⟨8, N.out, rfl⟩, Below.refl _ _⟩
  have AB := Lib.hid (above_any s w hw)
  have d : decide (1024 < (ts.length : Int)) = false := by simpa using (by omega : (ts.length : Int) ≤ 1024)
  obtain ⟨n, hn⟩ : ∃ n, n = ts.length := ⟨_, rfl⟩
  rw [← hn] at d hc ⊢
  have L6 := Lib.hid (show n ≤ 1024 by omega)
  have HN := Lib.hid hn
  have HW := Lib.hid hw
  have HP := Lib.hid hp
  clear hn hw hp h0
  obtain ⟨i0, i1, hz0, hz1, hz2⟩ := info_parts (P := Tryz.prog) (e := 3) (z := .int .i64 0) (size := 1) (bytes := 8) (by kernel_rfl)
  have US : Tryz.prog.underlying 22 = some (.slice 3) := by kernel_rfl
  go_enter Tryz.func18, Tryz.ntmps18
  go_wp2_with fail
  refine AB.out.mono ?_; rintro e w1 ⟨⟨v, ns, pa, rfl, ow⟩ | ⟨pa, rfl⟩, b1⟩
  · obtain ⟨q, cc, rfl⟩ : ∃ q cc, v = .slice q ns.length cc := by
      rcases ow.2 with ⟨rfl, h⟩ | ⟨g, cap, cur, rfl, _⟩
      · exact ⟨none, 0, by rw [h]⟩
      · exact ⟨_, _, rfl⟩
    have BG : ∀ (W : World) (v' : Value) (ms : List Nat), Below w1.heap.size w1 W → IsN W v' ms → Calls Tryz.prog 42 #[v', .slice q ns.length cc] W fun e w' => e = .returned (.bool (wiL ms ns)) ∧ Below W.heap.size W w' := fun W v' ms hW hv' => by
      rcases ow.2 with ⟨h, h0⟩ | ⟨g, cap, cur, h, hb, hg, hcc, hm, hs, ht⟩
      · obtain ⟨rfl, _, rfl⟩ := Value.slice.inj h
        obtain rfl := List.length_eq_zero_iff.1 h0
        exact begins_nil v' ms W hv'
      · have I : IsN w1 (.slice q ns.length cc) ns := by
          obtain ⟨rfl, _, rfl⟩ := Value.slice.inj h
          refine ⟨g, 0, cc, rfl, (Array.getElem?_eq_some_iff.1 hg).1, hcc, fun j hj => ?_⟩
          have := ow.cells (g := g) rfl j (.int .i64 (ns[j] : Nat)) (by simp [hj, encN])
          rw [Addr.add_lit] at this
          exact this
        exact begins_any v' _ ms ns W (by have := pa.len; omega) hv' (I.below hW)
    have HBG := Lib.hid BG
    have LN := Lib.hid (show ns.length ≤ 6 from pa.len)
    have OW := Lib.hid ow
    have PAb := Lib.hid pa
    have B1 := Lib.hid b1
    have W1 := Lib.hid (HW.out.below b1 HW.out.n0)
    have SZ0 := Lib.hid (show w.heap.size ≤ w1.heap.size from b1.size)
    clear BG ow pa b1
    obtain ⟨m, hm⟩ : ∃ m, m = ns.length := ⟨_, rfl⟩
    rw [← hm]
    rw [← hm] at HBG OW LN
    have HM := Lib.hid hm
    clear hm
    go_wp2_with fail
    go_loopw [27] (fun si wr => ∃ k : Nat, k ≤ n ∧ si = .int .i64 k ∧ Hid (FL ts ns w1 k wr)) (fun si _ => n - (intOf si).toNat)
    case atStart => exact ⟨0, Nat.zero_le _, rfl, (Below.refl _ w1).alloc (Nat.le_refl _) _, _, ⟨fun x h => by simp at h, fun j => by simp⟩, Us.new w1⟩
    case round =>
      obtain ⟨k, hk, rfl, hrel⟩ := hrel
      by_cases hlt : k < n
      · obtain ⟨x, hx⟩ : ∃ x, ts[k]? = some x := ⟨_, List.getElem?_eq_getElem (by rw [← HN.out]; exact hlt)⟩
        obtain ⟨g, off, rfl, hg, hcell⟩ := HP.out (by rw [← HN.out]; omega)
        have cx : wr.cell? ⟨g, off + k, none⟩ = some (.string x.1) := by
          rw [← hcell k x hx]
          exact (hrel.out.bel.cell (p := ⟨g, off + k, none⟩) (Nat.lt_of_lt_of_le hg B1.out.size)).trans (B1.out.cell (p := ⟨g, off + k, none⟩) hg)
        have Wr := W1.out.below hrel.out.bel W1.out.n0
        have kb : k < 1024 := by have := L6.out; omega
        have HX := Lib.hid hx
        clear hcell hg hx
        rcases Parse_two x wr Wr with ⟨ms, hms, PC⟩ | ⟨hno, PC⟩
        · have PC := Lib.hid PC
          have PM := Lib.hid hms
          have LM := Lib.hid hms.len
          clear hms Wr
          go_wp2_with fail
          refine PC.out.mono ?_; rintro e w2 ⟨v2, rfl, i2, b2⟩
          have BG2 := Lib.hid (HBG.out w2 v2 ms (hrel.out.bel.trans (b2.mono hrel.out.bel.size)) i2)
          obtain ⟨g2, off2, c2, rfl, hg2, hc2, cells2⟩ := i2
          obtain ⟨u, fk, us⟩ := hrel.out.u
          have U2 := us.below b2
          have B2 := hrel.out.bel.trans (b2.mono hrel.out.bel.size)
          have FKh := Lib.hid fk
          have HX2 := Lib.hid hc2
          by_cases hl : ms.length = m + 1
          · have hl' : ms.length = ns.length + 1 := by rw [← HM.out]; exact hl
            have D : ((ms.length : Int) == (m : Int) + 1) = true := by simp; omega
            have k6 : m ≤ 6 := LN.out
            cases hw : wiL ms ns with
            | true =>
              rw [hw] at BG2
              obtain ⟨j, ej, hj⟩ := wi_last hw hl'
              have cj : w2.cell? ⟨g2, off2 + m, none⟩ = some (.int .i64 (j : Nat)) := by
                rw [HM.out, cells2 ns.length (by omega)]
                congr 2
                exact congrArg Int.ofNat (Option.some.inj ((List.getElem?_eq_getElem (by omega)).symm.trans hj))
              have jr : 1 ≤ j ∧ j ≤ 999 := PM.out.rng j (by rw [ej]; simp)
              have FH := Lib.hid (fk.hit HX.out (i := j) (by rw [← ej]; exact PM.out))
              have U2h := Lib.hid U2
              have B2h := Lib.hid B2
              have CJ := Lib.hid cj
              have G2 := Lib.hid hg2
              have j0 : (0 : Int) ≤ (j : Int) := by omega
              have j1 : (j : Int) < 1000 := by omega
              have bl : m < ms.length := by omega
              clear cells2 hw ej hj hl hl' fk us U2 B2 hrel b2 cj hg2 FKh PC jr
              go_wp2_with fail
              refine BG2.out.mono ?_; rintro e w3 ⟨rfl, b3⟩
              have cj : w3.cell? ⟨g2, off2 + m, none⟩ = some (.int .i64 (j : Nat)) := (b3.cell (p := ⟨g2, off2 + m, none⟩) G2.out).trans CJ.out
              have U3 := U2h.out.below b3
              have cu := U3.cell j (by omega)
              have fu := U3.free j
              have U3h := Lib.hid U3
              have B3h := Lib.hid (B2h.out.trans (b3.mono B2h.out.size))
              clear b3 U3
              go_wp2_with fail
              go_roundw
              case rel => exact ⟨k + 1, by omega, by go_num, B3h.out.setCell (p := ⟨w1.heap.size, j, none⟩) (Nat.le_refl _) _, _, FH.out, U3h.out.set j (by omega)⟩
              case measure => simp [intOf]; omega
            | false =>
              rw [hw] at BG2
              have NXT := Lib.hid (fk.next HX.out PM.out (wi_not hw))
              have U2h := Lib.hid U2
              have B2h := Lib.hid B2
              clear cells2 hw hl hl' fk us U2 B2 hrel b2 hg2 FKh PC
              go_wp2_with fail
              refine BG2.out.mono ?_; rintro e w3 ⟨rfl, b3⟩
              have F3 := Lib.hid (show FL ts ns w1 (k + 1) w3 from ⟨B2h.out.trans (b3.mono B2h.out.size), u, NXT.out, U2h.out.below b3⟩)
              clear b3
              go_wp2_with fail
              go_roundw
              case rel => exact ⟨k + 1, by omega, by go_num, F3.out⟩
              case measure => simp [intOf]; omega
          · have D : ((ms.length : Int) == (m : Int) + 1) = false := by simp; omega
            have k6 : m ≤ 6 := LN.out
            have F3 := Lib.hid (show FL ts ns w1 (k + 1) w2 from ⟨B2, u, fk.next HX.out PM.out (len_not (by rw [← HM.out]; exact hl)), U2⟩)
            clear cells2 fk us U2 B2 hrel b2 hg2 FKh PC hl
            go_wp2_with fail
            go_roundw
            case rel => exact ⟨k + 1, by omega, by go_num, F3.out⟩
            case measure => simp [intOf]; omega
        · have PC := Lib.hid PC
          have N := Lib.hid (show FrE ts (bts s) 3 from Or.inr (Or.inl ⟨rfl, by have := L6.out; have := HN.out; omega, Or.inr ⟨x, List.mem_of_getElem? HX.out, hno⟩⟩))
          have BB := Lib.hid (B1.out.trans (hrel.out.bel.mono B1.out.size))
          clear hno Wr hrel
          go_wp2_with fail
          refine PC.out.mono ?_; rintro e w2 ⟨rfl, b2⟩
          have B2 := Lib.hid (BB.out.trans (b2.mono BB.out.size))
          clear b2
          go_wp2_with fail
          go_ret2
          exact ⟨Or.inr ⟨3, N.out, rfl⟩, B2.out⟩
      · obtain rfl : k = n := by omega
        obtain ⟨u, fk, us⟩ := hrel.out.u
        have tk : ts.take k = ts := List.take_of_length_le (by rw [← HN.out]; exact Nat.le_refl _)
        have good := fk.good
        have mark := fk.mark
        rw [tk] at good
        simp only [tk] at mark
        have IX := Lib.hid (index_any 999 (by omega) u w1.heap.size wr (fun j hj => us.cell j (by omega)))
        have L24 : ts.length ≤ 1024 := by rw [← HN.out]; exact L6.out
        have PA := PAb.out
        have E12 := Lib.hid (fun (h : ns.length = 6 ∨ ∀ j, 1 ≤ j → j ≤ 999 → ∃ x ∈ ts, PR (bts x) (ns ++ [j])) => show FrE ts (bts s) 12 from Or.inr (Or.inr ⟨rfl, L24, ns, PA, good, h⟩))
        have GG := Lib.hid (fun (i : Nat) (h1 : ns.length < 6) (h2 : 1 ≤ i) (h3 : i ≤ 999) (h4 : u i = false) (h5 : ∀ k, 1 ≤ k → k < i → u k = true) (t : Txt) (h6 : bts t = cd (ns ++ [i])) => show FrG ts (bts s) t from
          ⟨ns, i, PA, h1, h2, h3, L24, good, (fun x hx hp => by have := (mark i).2 ⟨x, hx, hp⟩; rw [h4] at this; cases this), fun k a b => (mark k).1 (h5 k a b), h6⟩)
        have MK := Lib.hid mark
        have U3 := Lib.hid us
        have BL := Lib.hid hrel.out.bel
        have uc := us.cell 0 (by omega)
        clear fk us tk good mark L24 PA hrel hk hlt uc
        go_wp2_with fail
        refine IX.out.mono ?_; rintro e w2 ⟨r, rfl, ir, b2⟩
        have B2 := Lib.hid (BL.out.trans (b2.mono BL.out.size))
        clear b2
        rcases ir with ⟨rfl, hall⟩ | ⟨i, i1, i2, hr, hu, hlo⟩
        · have N := Lib.hid (E12.out (Or.inr fun j a b => (MK.out j).1 (hall j a b)))
          have BB := Lib.hid (B1.out.trans (B2.out.mono B1.out.size))
          clear hall
          go_wp2_with fail
          go_ret2
          exact ⟨Or.inr ⟨12, N.out, rfl⟩, BB.out⟩
        · have r0 : 0 ≤ r := by omega
          have r1 : r < 999 := by omega
          have HE := Lib.hid (show r + 1 = (i : Int) by omega)
          have HI := Lib.hid (And.intro i1 (And.intro i2 (And.intro hu hlo)))
          clear i1 i2 hr hu hlo
          by_cases h6 : m = 6
          · have N := Lib.hid (E12.out (Or.inl (by rw [← HM.out]; exact h6)))
            have BB := Lib.hid (B1.out.trans (B2.out.mono B1.out.size))
            have D : ((m : Int) == 6) = true := by simp; omega
            clear h6
            go_wp2_with fail
            go_ret2
            exact ⟨Or.inr ⟨12, N.out, rfl⟩, BB.out⟩
          · have D : ((m : Int) == 6) = false := by simp; omega
            have L5 := Lib.hid (show m < 6 by have := LN.out; omega)
            have OA := Lib.hid (((own_less OW.out (Nat.le_add_right w.heap.size 6)).kept (gb_below (r := none) B2.out) (by cases (Value.slice q m cc).ownBlock; exact Or.inl rfl; exact Or.inr (by simp))).alloc (.cells #[.int .i64 (r + 1)] 3))
            have BA := Lib.hid ((B1.out.trans (B2.out.mono B1.out.size)).alloc (Nat.le_trans B1.out.size B2.out.size) (.cells #[.int .i64 (r + 1)] 3))
            have OF := Lib.hid (own_from OW.out)
            have SZ := Lib.hid (show w.heap.size ≤ (w2.alloc (.cells #[.int .i64 (r + 1)] 3)).heap.size by have := SZ0.out; have := B2.out.size; simp; omega)
            clear h6
            go_wp2_with (at_builtin; refine wpList_append_own _ rfl _ _ 22 rfl w.heap.size 3 i0 (.int .i64 0) 1 8 US i1 hz0 hz1 hz2 rfl (by decide) _ _ _ rfl OA.out ⟨w2.heap.size, 0, none⟩ 1 1 [.int .i64 (r + 1)] rfl rfl (cell_one_new _ _ _) (by simp [Value.oneCell']) (by have := L5.out; unfold maxLen; omega) (by have := L5.out; omega) SZ.out ?_)
            intro v5 w5 own5 g5 _
            have B5 := Lib.hid (BA.out.grown g5 BA.out.size (fun k hk => by have := OF.out k hk; omega))
            have NS := Lib.hid (show (ns ++ [i]).map encN = ns.map encN ++ [.int .i64 (r + 1)] by rw [HE.out]; simp [encN])
            have LI := Lib.hid (show (ns ++ [i]).length = m + 1 by rw [HM.out]; simp)
            have ISN : IsN w5 v5 (ns ++ [i]) := own_isN (K := w.heap.size) (by rw [LI.out, NS.out]; exact own5) (by simp)
            have FM := Lib.hid (Format_any v5 (ints (ns ++ [i])) w5 (HW.out.below B5.out HW.out.n0) ISN.z (fun z hz => by
              obtain ⟨a, ha, rfl⟩ := List.mem_map.1 hz
              rcases List.mem_append.1 ha with h | h
              · have := PAb.out.rng a h; show -9223372036854775808 ≤ (a : Int) ∧ (a : Int) ≤ 9223372036854775807; omega
              · obtain rfl : a = i := by simpa using h
                have := HI.out.2.1; show -9223372036854775808 ≤ (a : Int) ∧ (a : Int) ≤ 9223372036854775807; omega))
            clear own5 g5 ISN
            go_wp2_with fail
            refine FM.out.mono ?_; rintro e w6 ⟨⟨ms, t, ok, hms, ht, rfl⟩ | ⟨no, rfl⟩, b6⟩
            · have TT := Lib.hid (show FrG ts (bts s) t from GG.out i (by rw [← HM.out]; exact L5.out) HI.out.1 HI.out.2.1 HI.out.2.2.1 HI.out.2.2.2 t (by rw [ht, ints_inj.1 hms]))
              have B6 := Lib.hid (B5.out.trans (b6.mono B5.out.size))
              clear ok hms ht b6
              go_wp2_with fail
              go_ret2
              exact ⟨Or.inl ⟨t, TT.out, rfl⟩, B6.out⟩
            · exact absurd (show OkN (ns ++ [i]) from ⟨by simp, by rw [LI.out]; have := L5.out; omega, fun a ha => by
                rcases List.mem_append.1 ha with h | h
                · exact PAb.out.rng a h
                · obtain rfl : a = i := by simpa using h
                  exact ⟨HI.out.1, HI.out.2.1⟩⟩) (no _ rfl)
  · have N := Lib.hid (show FrE ts (bts s) 3 from Or.inr (Or.inl ⟨rfl, by have := L6.out; have := HN.out; omega, Or.inl pa⟩))
    have B1 := Lib.hid b1
    clear pa b1
    go_wp2_with fail
    go_ret2
    exact ⟨Or.inr ⟨3, N.out, rfl⟩, B1.out⟩
end Go.Proofs.YtnjnjcgbdhiigaaGreatDoor
