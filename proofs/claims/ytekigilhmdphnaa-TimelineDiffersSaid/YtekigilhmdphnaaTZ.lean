/- replaced in general. -/
import Derived.Test.YtekigilhmdphnaaTY
import Derived.Deep.DeepCutAuto
import Derived.Deep.RegionHeld3
namespace Go.Proofs.Ytekigilhmdphnaa
open Go.RowKit Go.Shelf

/-- What stays of the piece on which the span begins, and of that on which it ends. -/
def leftL (P : Nat → Pc) (r s : Nat) (df : Int) : List Pc := if r < s ∧ (P r).f < df then [⟨(P r).f, df, (P r).v⟩] else []
def rightL (P : Nat → Pc) (r s : Nat) (du : Int) : List Pc := if r < s ∧ du < (P (s - 1)).u then [⟨du, (P (s - 1)).u, (P (s - 1)).v⟩] else []
/-- The pieces that come in from without. -/
def WithL (w : World) (x : Value) (wl : List Pc) : Prop := (x = .slice none 0 0 ∧ wl = []) ∨ ∃ bw q, x = .slice (some ⟨bw, 0, none⟩) 1 1 ∧ wl = [q] ∧ Box3 w bw q
theorem WithL.below {w w' : World} {x : Value} {wl : List Pc} (h : WithL w x wl) (hb : Below w.heap.size w w') : WithL w' x wl := by
  rcases h with h | ⟨bw, q, h1, h2, h3⟩
  · exact Or.inl h
  · exact Or.inr ⟨bw, q, h1, h2, h3.below hb⟩
theorem WithL.len {w : World} {x : Value} {wl : List Pc} (h : WithL w x wl) : wl.length ≤ 1 := by
  rcases h with ⟨_, rfl⟩ | ⟨bw, q, _, rfl, _⟩ <;> simp
def Ends (P : Nat → Pc) (n r s : Nat) (df du : Int) : Prop :=
  r ≤ s ∧ s ≤ n ∧ (0 < r → (P (r - 1)).u ≤ df) ∧ (r < n → df < (P r).u) ∧ (r < s → (P (s - 1)).f < du) ∧ (s < n → du ≤ (P s).f)
def repL (P : Nat → Pc) (n r s : Nat) (df du : Int) (wl : List Pc) : List Pc := (toL P n).take r ++ (leftL P r s df ++ wl ++ rightL P r s du) ++ (toL P n).drop s

theorem StG.keep {u : World} {A D F : Nat} {p : Option Addr} {n c : Nat} {P : Nat → Pc} {r : Nat} {df du : Int} {W : World} {f : FuncId} {args : Array Value} {q : Nat → Bool} {m : Nat} (hS : W.cell? ⟨A, 0, none⟩ = some (.slice p n c) ∧ W.cell? ⟨F, 0, none⟩ = some (.int .i64 r) ∧ StG u A D F p n c P r df du W)
    (h : Calls Try.prog f args W (TurnR q m W)) : Calls Try.prog f args W fun e w' => ∃ k : Nat, (k ≤ m ∧ (0 < k → q (k - 1) = false) ∧ (k < m → q k = true)) ∧ e = .returned (.int .i64 k) ∧ (w'.cell? ⟨A, 0, none⟩ = some (.slice p n c) ∧ w'.cell? ⟨F, 0, none⟩ = some (.int .i64 r) ∧ StG u A D F p n c P r df du w') ∧ Below W.heap.size W w' :=
  h.mono fun _ _ ⟨k, h1, h2, h3, he, hb⟩ => ⟨k, ⟨h1, h2, h3⟩, he, ⟨(hS.2.2.go hb).hA, (hS.2.2.go hb).hF, hS.2.2.go hb⟩, hb⟩

/-- What replaced keeps, and the pieces that it has collected. -/
structure Mid (u : World) (A D F : Nat) (p : Option Addr) (n c : Nat) (P : Nat → Pc) (r : Nat) (df du : Int) (L : List Pc) (v : Value) (W : World) : Prop where
  st : StG u A D F p n c P r df du W
  own : W.ownsRow u.heap.size 47 3 v L.length (cellsP L)
  nil : L.length = 0 → v = .slice Option.none 0 0
theorem Mid.none {u : World} {A D F : Nat} {p : Option Addr} {n c : Nat} {P : Nat → Pc} {r : Nat} {df du : Int} {W : World} (h : StG u A D F p n c P r df du W) : Mid u A D F p n c P r df du [] (.slice Option.none 0 0) W := ⟨h, World.ownsRow_nil _ _ _ _, fun _ => rfl⟩
theorem Mid.drewN {u : World} {A D F : Nat} {p : Option Addr} {n c : Nat} {P : Nat → Pc} {r : Nat} {df du : Int} {L : List Pc} {v : Value} {W : World} (h : Mid u A D F p n c P r df du L v W) (q : Nat) : Mid u A D F p n c P r df du L v (W.drewN q) := ⟨h.st.go (BdN (Below.refl _ W) q), h.own, h.nil⟩
theorem Mid.app {u : World} {A D F : Nat} {p : Option Addr} {n c : Nat} {P : Nat → Pc} {r : Nat} {df du : Int} {L M : List Pc} {v v' : Value} {W V : World} (h : Mid u A D F p n c P r df du L v W) (o : V.ownsRow u.heap.size 47 3 v' (L.length + M.length) (cellsP L ++ cellsP M)) (g : W.grownBy V v.ownBlock) (hM : 0 < M.length) : Mid u A D F p n c P r df du (L ++ M) v' V :=
  ⟨h.st.go' ((Below.refl _ W).grown g h.st.bel.size (fun k hk => ((h.own).lt k hk).1)), by rw [cellsP_append, List.length_append]; exact o, fun h => by rw [List.length_append] at h; omega⟩
theorem Mid.keep {u : World} {A D F : Nat} {p : Option Addr} {n c : Nat} {P : Nat → Pc} {r : Nat} {df du : Int} {L : List Pc} {v : Value} {W V : World} (h : Mid u A D F p n c P r df du L v W) (hb : Below W.heap.size W V) : Mid u A D F p n c P r df du L v V :=
  ⟨h.st.go hb, h.own.kept (row := Option.none) ⟨hb.os, hb.tape, hb.output, hb.size, fun k hk _ => hb.block k hk⟩ (by cases hv : v.ownBlock <;> simp), h.nil⟩

/-- What was collected, as what comes in. -/
theorem Mid.news {u : World} {A D F : Nat} {p : Option Addr} {n c : Nat} {P : Nat → Pc} {r : Nat} {df du : Int} {L : List Pc} {v : Value} {W V : World} (h : Mid u A D F p n c P r df du L v W) (hb : Below W.heap.size W V) : News V W.heap.size L.length (cellsP L) v := by
  refine ⟨cellsP_length L, cellsP_one L, ?_⟩
  rcases Nat.eq_zero_or_pos L.length with z | z
  · exact Or.inl ⟨h.nil z, z⟩
  · obtain ⟨g, cap, rfl, _, hg, _, _, hc, _⟩ := owned h.own z
    refine Or.inr ⟨g, cap, rfl, z, Nat.lt_of_lt_of_le hg hb.size, Nat.ne_of_lt hg, fun j x hj => ?_⟩
    rw [Addr.add_lit, Nat.zero_add]
    exact (hb.cell (p := ⟨g, j, Option.none⟩) hg).trans (hc j x hj)
theorem lay_all {cs vs : List Value} (h : vs.length = cs.length) : lay cs 0 vs = vs := by
  unfold lay
  rw [List.take_zero, List.nil_append, Nat.zero_add, h, List.drop_length, List.append_nil]
theorem repL_length (P : Nat → Pc) (n r s : Nat) (df du : Int) (wl : List Pc) (hr : r ≤ n) : (repL P n r s df du wl).length = r + ((leftL P r s df ++ wl ++ rightL P r s du).length + (n - s)) := by
  unfold repL
  rw [List.length_append, List.length_append, List.length_take, List.length_drop, toL_length, Nat.min_eq_left hr]; omega
theorem repL_cells (P : Nat → Pc) (n r s : Nat) (df du : Int) (wl : List Pc) : cellsP (repL P n r s df du wl) = (cellsP (toL P n)).take (r * 3) ++ cellsP (leftL P r s df ++ wl ++ rightL P r s du) ++ (cellsP (toL P n)).drop (s * 3) := by
  unfold repL
  rw [cellsP_append, cellsP_append, cellsP_take, cellsP_drop]

set_option maxRecDepth 100000 in
set_option maxHeartbeats 4000000 in
theorem replaced_any (p : Option Addr) (n c : Nat) (P : Nat → Pc) (df du : Int) (x : Value) (wl : List Pc) (w : World) (hn : n ≤ 1024) (h : IsP w p n c P) (hw : WithL w x wl) :
    Calls Try.prog 38 #[.slice p n c, .agg #[.int .i64 df, .int .i64 du], x] w fun e w' => ∃ r s v, Ends P n r s df du ∧ e = .returned v ∧ w'.ownsRow w.heap.size 47 3 v (repL P n r s df du wl).length (cellsP (repL P n r s df du wl)) ∧ Below w.heap.size w w' := by
  have B0 := ((Below.refl w.heap.size w).alloc (Nat.le_refl _) (.cells #[.slice p n c] 22)).alloc (by simp) (.cells #[.int .i64 df, .int .i64 du] 33)
  have E0 := h.below B0
  have W0 := hw.below B0
  have C0 := Lib.hid (fun V (hV : IsP V p n c P) => ended_any p n c P df V (by omega) hV)
  have a0 : ((w.alloc (.cells #[.slice p n c] 22)).alloc (.cells #[.int .i64 df, .int .i64 du] 33)).cell? ⟨w.heap.size, 0, none⟩ = some (.slice p n c) := by simp
  have d0 : ((w.alloc (.cells #[.slice p n c] 22)).alloc (.cells #[.int .i64 df, .int .i64 du] 33)).cell? ⟨w.heap.size + 1, 0, none⟩ = some (.int .i64 df) := by simp
  have d1 : ((w.alloc (.cells #[.slice p n c] 22)).alloc (.cells #[.int .i64 df, .int .i64 du] 33)).cell? ⟨w.heap.size + 1, 1, none⟩ = some (.int .i64 du) := by simp
  have z0 : ((w.alloc (.cells #[.slice p n c] 22)).alloc (.cells #[.int .i64 df, .int .i64 du] 33)).heap.size = w.heap.size + 2 := by simp
  have E0 := Lib.hid E0
  have W0 := Lib.hid W0
  have B0 := Lib.hid B0
  have Z0 := Lib.hid z0
  clear h hw z0
  go_enter Try.func38, Try.ntmps38
  go_wp2_with fail
  generalize (w.alloc (.cells #[.slice p n c] 22)).alloc (.cells #[.int .i64 df, .int .i64 du] 33) = w1 at *
  refine (C0.out w1 E0.out).mono ?_; rintro e w2 ⟨r, hr, hr1, hr2, rfl, b2⟩
  have HR := Lib.hid (show (0 < r → (P (r - 1)).u ≤ df) ∧ (r < n → df < (P r).u) from ⟨fun h0 => Int.not_lt.1 (of_decide_eq_false (hr1 h0)), fun h0 => of_decide_eq_true (hr2 h0)⟩)
  have al := (Below.refl w2.heap.size w2).alloc (Nat.le_refl _) (.cells #[.int .i64 r] 3)
  have b3 := b2.trans (al.mono b2.size)
  have s0 : StG (w2.alloc (.cells #[.int .i64 r] 3)) w.heap.size (w.heap.size + 1) w2.heap.size p n c P r df du (w2.alloc (.cells #[.int .i64 r] 3)) :=
    ⟨(b3.cell (p := ⟨w.heap.size, 0, none⟩) (by rw [Z0.out]; simp)).trans a0, (b3.cell (p := ⟨w.heap.size + 1, 0, none⟩) (by rw [Z0.out]; simp)).trans d0, (b3.cell (p := ⟨w.heap.size + 1, 1, none⟩) (by rw [Z0.out]; simp)).trans d1, by simp, E0.out.below b3,
      by have := b2.size; have := Z0.out; simp; omega, by have := b2.size; have := Z0.out; simp; omega, by simp, E0.out.below b3, Below.refl _ _⟩
  have W3 := Lib.hid (W0.out.below b3)
  have B3 := Lib.hid (B0.out.trans (b3.mono B0.out.size))
  have S0 := Lib.hid s0
  clear a0 d0 d1 C0 al b3 s0 E0 W0 B0 b2 hr1 hr2
  go_upto_region 2 with (fail)
  generalize w2.alloc (.cells #[.int .i64 r] 3) = w4 at *
  generalize w2.heap.size = F at *
  clear Z0
  have v1 : IntKind.i64.wrap ((n : Int) - (r : Int)) = ((n - r : Nat) : Int) := (IntWalk.i64_in _ ⟨by omega, by omega⟩).trans (by omega)
  have hS0 := Lib.hid (show w4.drew.cell? ⟨w.heap.size, 0, none⟩ = some (.slice p n c) ∧ w4.drew.cell? ⟨F, 0, none⟩ = some (.int .i64 r) ∧ StG w4 w.heap.size (w.heap.size + 1) F p n c P r df du w4.drew from ⟨S0.out.hA, S0.out.hF, S0.out.go (Below.refl _ w4).drew⟩)
  go_region_held3 (fun W => W.cell? ⟨w.heap.size, 0, none⟩ = some (.slice p n c) ∧ W.cell? ⟨F, 0, none⟩ = some (.int .i64 r) ∧ StG w4 w.heap.size (w.heap.size + 1) F p n c P r df du W)
    (first | assumption | exact hS0.out)
    ((go_at_call 48; refine (StG.keep (by assumption) (StG.search (u := w4) (A := w.heap.size) (D := w.heap.size + 1) (F := F) (p := p) (n := n) (c := c) (P := P) (r := r) (df := df) (du := du) (by first | exact hS0.out.2.2 | assumption) (by omega) hr)).mono ?_; rintro e w5 ⟨k, hk, rfl, hS5, b5⟩; have v2 : IntKind.i64.wrap ((r : Int) + (k : Int)) = ((r + k : Nat) : Int) := (IntWalk.i64_in _ ⟨by omega, by omega⟩).trans (by omega)))
  have S5 := Lib.hid hS5.2.2
  have W4 := W3
  have B4 := B3
  obtain ⟨s, hs⟩ : ∃ s, s = r + k := ⟨_, rfl⟩
  have es : (r : Int) + (k : Int) = (s : Int) := by omega
  have HE : Hid (Ends P n r s df du) := Lib.hid (by
    obtain ⟨k0, k1, k2⟩ := hk
    refine ⟨by omega, by omega, HR.out.1, HR.out.2, fun h0 => ?_, fun h0 => ?_⟩
    · have := of_decide_eq_false (k1 (by omega))
      rw [show r + (k - 1) = s - 1 from by omega] at this
      exact Int.not_le.1 this
    · have := of_decide_eq_true (k2 (by omega))
      rwa [← hs] at this)
  rw [es]
  have hrs : r ≤ s := by omega
  have hsn : s ≤ n := by omega
  clear hS5 b5 hS0 W3 B3 S0 HR hk hs es v1 v2
  go_upto_region 4 with (fail)
  obtain ⟨bb, hbb⟩ : ∃ bb, bb = decide (r < s ∧ (P r).f < df) := ⟨_, rfl⟩
  have HBB := Lib.hid hbb
  clear hbb
  go_cut [38] (fun s38 wx => s38 = .bool bb ∧ Aside (StG w4 w.heap.size (w.heap.size + 1) F p n c P r df du wx))
  case first =>
    obtain ⟨hA, hD0, hD1, hF, hP, _, _, _, _, _⟩ := S5.out
    by_cases q : r < s
    · have q0 : (r : Int) < (s : Int) := by omega
      have q1 : (r : Int) < (n : Int) := by omega
      obtain ⟨b, off, rfl, hp⟩ := hP.row (by omega)
      obtain ⟨k0, k1, k2⟩ := hp.2 r (by omega)
      clear hp hP
      by_cases q2 : (P r).f < df
      · go_quiet (fail)
        go_wp2_with fail
        go_meet
        case rel => exact ⟨by rw [HBB.out, decide_eq_true ⟨q, q2⟩], S5.out.go (BdN (Below.refl _ w5) nq)⟩
      · go_quiet (fail)
        go_wp2_with fail
        go_meet
        case rel => exact ⟨by rw [HBB.out, decide_eq_false (fun h => by omega)], S5.out.go (BdN (Below.refl _ w5) nq)⟩
    · have q0 : ¬ (r : Int) < (s : Int) := by omega
      go_quiet (fail)
      go_wp2_with fail
      go_meet
      case rel => exact ⟨by rw [HBB.out, decide_eq_false (fun h => by omega)], S5.out.go (BdN (Below.refl _ w5) nq)⟩
  case rest =>
  obtain ⟨rfl, hc1⟩ := hcut
  have S6 := Lib.hid hc1.out
  clear hc1 S5
  go_upto_if 38 with (fail)
  go_cut [9] (fun s9 wx => Aside (Mid w4 w.heap.size (w.heap.size + 1) F p n c P r df du (leftL P r s df) s9 wx))
  case first =>
    cases bb
    · have LL := Lib.hid (show leftL P r s df = [] from if_neg (of_decide_eq_false HBB.out.symm))
      go_wp2_with fail
      go_meet
      case rel => rw [LL.out]; exact Mid.none S6.out
    · obtain ⟨q1, q2⟩ := of_decide_eq_true HBB.out.symm
      obtain ⟨b, off, rfl, hp⟩ := S6.out.isP.row (by omega)
      obtain ⟨y, hy⟩ : ∃ y, y = P r := ⟨_, rfl⟩
      have LL := Lib.hid (show leftL P r s df = [⟨y.f, df, y.v⟩] by rw [hy]; exact if_pos ⟨q1, q2⟩)
      have q3 : (r : Int) < (n : Int) := by omega
      obtain ⟨hA, hD0, hD1, hF, _, _, _, _, _, _⟩ := S6.out
      obtain ⟨k0, k1, k2⟩ := hp.2 r (by omega)
      rw [← hy] at k0 k1 k2 q2
      clear hp hy
      go_upto_region 6 with (fail)
      have al := (Below.refl wc.heap.size wc).alloc (Nat.le_refl _) (.cells #[.int .i64 y.f, .int .i64 y.u, .int .i64 y.v] 47)
      have BX := Box3.new wc y 47
      have fz : (wc.alloc (.cells #[.int .i64 y.f, .int .i64 y.u, .int .i64 y.v] 47)).frozen? ⟨wc.heap.size, 1, none⟩ = false := by simp
      clear hA hD0 hD1 hF k0 k1 k2
      have hD0 := (S6.out.go al).hD0
      have al2 := al.setCell (p := ⟨wc.heap.size, 1, none⟩) (Nat.le_refl _) (.int .i64 df)
      have S8 := Lib.hid (S6.out.go al2)
      generalize wc.alloc (.cells #[.int .i64 y.f, .int .i64 y.u, .int .i64 y.v] 47) = w7 at *
      have nz : ∀ o o', o ≠ o' → (⟨wc.heap.size, o, none⟩ : Addr) ≠ ⟨wc.heap.size, o', none⟩ := fun o o' ho e => ho (by injection e)
      have BX8 : Box3 (w7.setCell ⟨wc.heap.size, 1, none⟩ (.int .i64 df)) wc.heap.size ⟨y.f, df, y.v⟩ :=
        ⟨by simpa [World.setCell] using BX.1, by rw [World.cell?_setCell_other _ _ _ _ (nz 1 0 (by decide))]; exact BX.2.1, World.cell?_setCell_same' _ _ _ (by rw [BX.2.2.1]; rfl), by rw [World.cell?_setCell_other _ _ _ _ (nz 1 2 (by decide))]; exact BX.2.2.2⟩
      have BX8 := Lib.hid BX8
      have c1 := BX.2.2.1
      clear al al2 nz BX S6
      go_upto_region 7 with (fail)
      generalize w7.setCell ⟨wc.heap.size, 1, none⟩ (.int .i64 df) = w8 at *
      generalize wc.heap.size = Bk at *
      clear c1 fz hD0
      obtain ⟨i0, hi, hz0, hz1, hz2⟩ := info_parts (P := Try.prog) (e := 47) (z := .agg #[.int .i64 0, .int .i64 0, .int .i64 0]) (size := 3) (bytes := 24) (by kernel_rfl)
      have US : Try.prog.underlying 22 = some (.slice 47) := by kernel_rfl
      obtain ⟨_, x0, x1, x2⟩ := BX8.out
      have NB := Box3.new w8 ⟨y.f, df, y.v⟩ 47
      have al := (Below.refl w8.heap.size w8).alloc (Nat.le_refl _) (.cells #[.int .i64 y.f, .int .i64 df, .int .i64 y.v] 47)
      have M9 := Lib.hid (Mid.none (S8.out.go al))
      clear al S8
      go_wp2_with (at_builtin; refine wpList_append_own _ rfl (.tmp 47) (.tmp 49) 22 rfl w4.heap.size 47 i0 (.agg #[.int .i64 0, .int .i64 0, .int .i64 0]) 3 24 US hi hz0 hz1 hz2 rfl (by decide) _ 0 [] rfl M9.out.own ⟨w8.heap.size, 0, none⟩ 1 1 (cellsP [⟨y.f, df, y.v⟩]) rfl rfl (news3 NB) (cellsP_one _) (by decide) (by decide) M9.out.st.bel.size ?_; intro v10 w10 own10 grow10 hn10)
      have M10 := Lib.hid (M9.out.app own10 grow10 Nat.one_pos)
      clear M9 own10 grow10 hn10
      go_wp2_with fail
      go_meet
      case rel => rw [LL.out]; exact M10.out
  case rest =>
  have M7 := Lib.hid hcut.out
  clear hcut S6 HBB
  go_upto_region 8 with (fail)
  go_cut [9] (fun s9 wx => Aside (Mid w4 w.heap.size (w.heap.size + 1) F p n c P r df du (leftL P r s df ++ wl) s9 wx))
  case first =>
    obtain ⟨i0, hi, hz0, hz1, hz2⟩ := info_parts (P := Try.prog) (e := 47) (z := .agg #[.int .i64 0, .int .i64 0, .int .i64 0]) (size := 3) (bytes := 24) (by kernel_rfl)
    have US : Try.prog.underlying 22 = some (.slice 47) := by kernel_rfl
    have WL := W4.out.below M7.out.st.bel
    rcases WL with ⟨rfl, rfl⟩ | ⟨bw, q, rfl, rfl, hb⟩
    · go_wp2_with (at_builtin; refine wpList_append_own_none rfl (.tmp 51) (.tmp 52) 22 rfl w4.heap.size 47 i0 3 US hi _ _ _ rfl M7.out.own rfl ?_)
      go_meet
      case rel => rw [List.append_nil]; exact M7.out
    · have HB := Lib.hid (news3 hb)
      have ll : (leftL P r s df).length ≤ 1 := by unfold leftL; split <;> simp
      clear hb
      go_wp2_with (at_builtin; refine wpList_append_own _ rfl (.tmp 51) (.tmp 52) 22 rfl w4.heap.size 47 i0 (.agg #[.int .i64 0, .int .i64 0, .int .i64 0]) 3 24 US hi hz0 hz1 hz2 rfl (by decide) _ _ _ rfl M7.out.own ⟨bw, 0, none⟩ 1 1 (cellsP [q]) rfl rfl HB.out (cellsP_one _) (by unfold maxLen; omega) (by omega) M7.out.st.bel.size ?_; intro v10 w10 own10 grow10 hn10)
      have M10 := Lib.hid (M7.out.app own10 grow10 Nat.one_pos)
      clear own10 grow10 hn10 ll
      go_wp2_with fail
      go_meet
      case rel => exact M10.out
  case rest =>
  have M8 := Lib.hid hcut.out
  clear hcut M7
  go_upto_region 9 with (fail)
  obtain ⟨bb, hbb⟩ : ∃ bb, bb = decide (r < s ∧ du < (P (s - 1)).u) := ⟨_, rfl⟩
  have HBB := Lib.hid hbb
  clear hbb
  go_cut [68] (fun s68 wx => s68 = .bool bb ∧ Aside (Mid w4 w.heap.size (w.heap.size + 1) F p n c P r df du (leftL P r s df ++ wl) u9 wx))
  case first =>
    obtain ⟨hA, hD0, hD1, hF, hP, _, _, _, _, _⟩ := M8.out.st
    by_cases q : r < s
    · have q0 : (r : Int) < (s : Int) := by omega
      have v0 : IntKind.i64.wrap ((s : Int) - 1) = ((s - 1 : Nat) : Int) := (IntWalk.i64_in _ ⟨by omega, by omega⟩).trans (by omega)
      have q1 : ((s - 1 : Nat) : Int) < (n : Int) := by omega
      obtain ⟨b, off, rfl, hp⟩ := hP.row (by omega)
      obtain ⟨k0, k1, k2⟩ := hp.2 (s - 1) (by omega)
      clear hp hP
      obtain ⟨e, he⟩ : ∃ e, e = s - 1 := ⟨_, rfl⟩
      rw [← he] at k0 k1 k2 v0 q1
      have HE2 := Lib.hid he
      clear he
      by_cases q2 : du < (P e).u
      · go_quiet (fail)
        go_wp2_with fail
        go_meet
        case rel => exact ⟨by rw [HBB.out, ← HE2.out, decide_eq_true ⟨q, q2⟩], M8.out.drewN nq⟩
      · go_quiet (fail)
        go_wp2_with fail
        go_meet
        case rel => exact ⟨by rw [HBB.out, ← HE2.out, decide_eq_false (fun h => by omega)], M8.out.drewN nq⟩
    · have q0 : ¬ (r : Int) < (s : Int) := by omega
      go_quiet (fail)
      go_wp2_with fail
      go_meet
      case rel => exact ⟨by rw [HBB.out, decide_eq_false (fun h => by omega)], M8.out.drewN nq⟩
  case rest =>
  obtain ⟨rfl, hc1⟩ := hcut
  have M9 := Lib.hid hc1.out
  clear hc1 M8
  go_upto_if 68 with (fail)
  go_cut [9] (fun s9 wx => Aside (Mid w4 w.heap.size (w.heap.size + 1) F p n c P r df du (leftL P r s df ++ wl ++ rightL P r s du) s9 wx))
  case first =>
    cases bb
    · have LL := Lib.hid (show rightL P r s du = [] from if_neg (of_decide_eq_false HBB.out.symm))
      go_wp2_with fail
      go_meet
      case rel => rw [LL.out, List.append_nil]; exact M9.out
    · obtain ⟨q1, q2⟩ := of_decide_eq_true HBB.out.symm
      obtain ⟨b, off, rfl, hp⟩ := M9.out.st.isP.row (by omega)
      obtain ⟨e, he⟩ : ∃ e, e = s - 1 := ⟨_, rfl⟩
      obtain ⟨y, hy⟩ : ∃ y, y = P e := ⟨_, rfl⟩
      have LL := Lib.hid (show rightL P r s du = [⟨du, y.u, y.v⟩] by rw [hy, he]; exact if_pos ⟨q1, q2⟩)
      have v0 : IntKind.i64.wrap ((s : Int) - 1) = (e : Int) := (IntWalk.i64_in _ ⟨by omega, by omega⟩).trans (by omega)
      have q3 : (e : Int) < (n : Int) := by omega
      have ll : (leftL P r s df ++ wl).length ≤ 2 := by
        have := W4.out.len
        have : (leftL P r s df).length ≤ 1 := by unfold leftL; split <;> simp
        rw [List.length_append]; omega
      obtain ⟨hA, hD0, hD1, hF, _, _, _, _, _, _⟩ := M9.out.st
      obtain ⟨k0, k1, k2⟩ := hp.2 e (by omega)
      rw [← hy] at k0 k1 k2
      clear hp hy he q2
      go_upto_region 11 with (fail)
      have al := (Below.refl wc.heap.size wc).alloc (Nat.le_refl _) (.cells #[.int .i64 y.f, .int .i64 y.u, .int .i64 y.v] 47)
      have BX := Box3.new wc y 47
      have fz : (wc.alloc (.cells #[.int .i64 y.f, .int .i64 y.u, .int .i64 y.v] 47)).frozen? ⟨wc.heap.size, 0, none⟩ = false := by simp
      clear hA hD0 hD1 hF k0 k1 k2
      have hD1 := (M9.out.st.go al).hD1
      have al2 := al.setCell (p := ⟨wc.heap.size, 0, none⟩) (Nat.le_refl _) (.int .i64 du)
      have M10 := Lib.hid (M9.out.keep al2)
      generalize wc.alloc (.cells #[.int .i64 y.f, .int .i64 y.u, .int .i64 y.v] 47) = w7 at *
      have nz : ∀ o o', o ≠ o' → (⟨wc.heap.size, o, none⟩ : Addr) ≠ ⟨wc.heap.size, o', none⟩ := fun o o' ho e => ho (by injection e)
      have BX8 : Box3 (w7.setCell ⟨wc.heap.size, 0, none⟩ (.int .i64 du)) wc.heap.size ⟨du, y.u, y.v⟩ :=
        ⟨by simpa [World.setCell] using BX.1, World.cell?_setCell_same' _ _ _ (by rw [BX.2.1]; rfl), by rw [World.cell?_setCell_other _ _ _ _ (nz 0 1 (by decide))]; exact BX.2.2.1, by rw [World.cell?_setCell_other _ _ _ _ (nz 0 2 (by decide))]; exact BX.2.2.2⟩
      have BX8 := Lib.hid BX8
      have c1 := BX.2.1
      clear al al2 nz BX M9
      go_upto_region 12 with (fail)
      generalize w7.setCell ⟨wc.heap.size, 0, none⟩ (.int .i64 du) = w8 at *
      generalize wc.heap.size = Bk at *
      clear c1 fz hD1
      obtain ⟨i0, hi, hz0, hz1, hz2⟩ := info_parts (P := Try.prog) (e := 47) (z := .agg #[.int .i64 0, .int .i64 0, .int .i64 0]) (size := 3) (bytes := 24) (by kernel_rfl)
      have US : Try.prog.underlying 22 = some (.slice 47) := by kernel_rfl
      obtain ⟨_, x0, x1, x2⟩ := BX8.out
      have NB := Box3.new w8 ⟨du, y.u, y.v⟩ 47
      have al := (Below.refl w8.heap.size w8).alloc (Nat.le_refl _) (.cells #[.int .i64 du, .int .i64 y.u, .int .i64 y.v] 47)
      have M11 := Lib.hid (M10.out.keep al)
      clear al M10
      go_wp2_with (at_builtin; refine wpList_append_own _ rfl (.tmp 78) (.tmp 80) 22 rfl w4.heap.size 47 i0 (.agg #[.int .i64 0, .int .i64 0, .int .i64 0]) 3 24 US hi hz0 hz1 hz2 rfl (by decide) _ _ _ rfl M11.out.own ⟨w8.heap.size, 0, none⟩ 1 1 (cellsP [⟨du, y.u, y.v⟩]) rfl rfl (news3 NB) (cellsP_one _) (by unfold maxLen; omega) (by omega) M11.out.st.bel.size ?_; intro v10 w10 own10 grow10 hn10)
      have M12 := Lib.hid (M11.out.app own10 grow10 Nat.one_pos)
      clear M11 own10 grow10 hn10
      go_wp2_with fail
      go_meet
      case rel => rw [LL.out]; exact M12.out
  case rest =>
  have M10 := Lib.hid hcut.out
  clear hcut M9 HBB
  go_upto_region 13 with (fail)
  have ml : (leftL P r s df ++ wl ++ rightL P r s du).length ≤ 3 := by
    have := W4.out.len
    have : (leftL P r s df).length ≤ 1 := by unfold leftL; split <;> simp
    have : (rightL P r s du).length ≤ 1 := by unfold rightL; split <;> simp
    rw [List.length_append, List.length_append]; omega
  have RL := Lib.hid (repL_length P n r s df du wl hr)
  have RC := Lib.hid (repL_cells P n r s df du wl)
  generalize leftL P r s df ++ wl ++ rightL P r s du = ML at *
  obtain ⟨i0, hi, hz0, hz1, hz2⟩ := info_parts (P := Try.prog) (e := 47) (z := .agg #[.int .i64 0, .int .i64 0, .int .i64 0]) (size := 3) (bytes := 24) (by kernel_rfl)
  have US : Try.prog.underlying 22 = some (.slice 47) := by kernel_rfl
  obtain ⟨cur, hcur⟩ : ∃ cur, cur = madeCells (Value.agg #[.int .i64 0, .int .i64 0, .int .i64 0]).cells (n * 3) := ⟨_, rfl⟩
  have hcs : cur.size = n * 3 := by rw [hcur]; simp [madeCells]
  have mk : (Instr.makeSlice 22 (.int .i64 n) (.int .i64 n)).run Try.prog wc = .ok (.slice (some ⟨wc.heap.size, 0, none⟩) n n) (wc.alloc (.cells cur 47)) := by
    have := run_make (P := Try.prog) wc 22 47 i0 _ US hi hz0 .i64 .i64 n n (by omega) (by omega) (by rw [hz2]; omega) (by omega)
    rw [hz1, Int.toNat_natCast, ← hcur] at this
    exact this
  clear hcur
  have hA := M10.out.st.hA
  go_upto_region 14 with (fail)
  have al := (Below.refl wc.heap.size wc).alloc (Nat.le_refl _) (.cells cur 47)
  have S13 := M10.out.st.go al
  have R13 : Rw (wc.alloc (.cells cur 47)) wc.heap.size cur.toList := Rw.of (heap_alloc_new wc _)
  have lc : (cellsP (toL P n)).length = cur.toList.length := by rw [cellsP_length, toL_length, Array.length_toList, hcs]
  have R14 := R13.lay 0 (cellsP (toL P n)) (by omega)
  rw [lay_all lc] at R14
  have B14 := below_setCells (Nat.le_refl _) (cellsP (toL P n)) 0 al
  have TH := Lib.hid (there_of R13 0 (cellsP (toL P n)).length (by omega))
  clear mk hA
  have hA := S13.hA
  rcases S13.isP with ⟨rfl, rfl, rfl⟩ | ⟨⟨ab, ao, asp⟩, rfl, _, hp⟩
  · have ec : cur.toList = cellsP (toL P 0) := (List.length_eq_zero_iff.1 (by rw [Array.length_toList]; omega)).trans (List.length_eq_zero_iff.1 (by rw [cellsP_length, toL_length])).symm
    rw [ec] at R13
    clear S13 R14 B14 lc
    go_upto_region 15 with (refine wpList_copy_none rfl (.tmp 85) (.tmp 86) 22 22 rfl 47 3 US (by kernel_rfl) (some ⟨wc.heap.size, 0, none⟩) 0 0 rfl rfl ?_)
    have R14 := R13
    have B14 := al
    clear R13 al hA
    generalize wc.alloc (.cells cur 47) = W14 at *
    clear ec
    have S14 := M10.out.st.go B14
    have NW := M10.out.news B14
    have zg : w.heap.size ≤ wc.heap.size := Nat.le_trans B4.out.size M10.out.st.bel.size
    have B15 := Lib.hid (B4.out.trans ((M10.out.st.bel.mono B4.out.size).trans (B14.mono zg)))
    have RP := Lib.hid (Replace_any wc.heap.size 0 r s ML.length w.heap.size (cellsP (toL P 0)) (cellsP ML) u9 W14 zg (by omega) hrs hsn (by omega) (by rw [cellsP_length, toL_length]) R14 (cellsP_one _) NW)
    have hF := S14.hF
    clear S14 NW R14 B14 zg M10 TH
    go_wp2_with fail
    refine RP.out.mono ?_; rintro e w15 ⟨v, rfl, o15, b15⟩
    have O15 := Lib.hid o15
    have B16 := Lib.hid (B15.out.trans b15)
    clear o15 b15 RP
    go_wp2_with fail
    go_ret
    refine ⟨r, s, v, HE.out, rfl, ?_, B16.out⟩
    rw [RL.out, RC.out]
    exact O15.out
  · have hsrc : ∀ j u, (cellsP (toL P n))[j]? = some u → (wc.alloc (.cells cur 47)).cell? ((⟨ab, ao, asp⟩ : Addr).add j) = some u := fun j u hj => by
      have : j < n * 3 := by
        have := (List.getElem?_eq_some_iff.1 hj).1
        rwa [cellsP_length, toL_length] at this
      obtain ⟨h1, h2⟩ := hp (by omega)
      simp only at h1
      subst h1
      exact h2.cells j u hj
    have HSRC := Lib.hid hsrc
    have ln : (cellsP (toL P n)).length = n * 3 := by rw [cellsP_length, toL_length]
    have ON := Lib.hid (cellsP_one (toL P n))
    generalize cellsP (toL P n) = CS at *
    clear S13 R13 lc hp hsrc al
    go_upto_region 15 with (refine wpList_copy_wide' rfl (.tmp 85) (.tmp 86) 22 22 rfl 47 3 US (by kernel_rfl) wc.heap.size 0 n n ⟨ab, ao, asp⟩ n c rfl rfl CS n (Nat.min_self n).symm ln HSRC.out TH.out ON.out ?_)
    clear hA HSRC
    generalize (wc.alloc (.cells cur 47)).setCells wc.heap.size 0 CS = W14 at *
    have S14 := M10.out.st.go B14
    have NW := M10.out.news B14
    have zg : w.heap.size ≤ wc.heap.size := Nat.le_trans B4.out.size M10.out.st.bel.size
    have B15 := Lib.hid (B4.out.trans ((M10.out.st.bel.mono B4.out.size).trans (B14.mono zg)))
    have RP := Lib.hid (Replace_any wc.heap.size n r s ML.length w.heap.size CS (cellsP ML) u9 W14 zg (by omega) hrs hsn (by omega) ln R14 ON.out NW)
    have hF := S14.hF
    clear S14 NW R14 B14 zg M10 TH
    go_wp2_with fail
    refine RP.out.mono ?_; rintro e w15 ⟨v, rfl, o15, b15⟩
    have O15 := Lib.hid o15
    have B16 := Lib.hid (B15.out.trans b15)
    clear o15 b15 RP
    go_wp2_with fail
    go_ret
    refine ⟨r, s, v, HE.out, rfl, ?_, B16.out⟩
    rw [RL.out, RC.out]
    exact O15.out

end Go.Proofs.Ytekigilhmdphnaa
