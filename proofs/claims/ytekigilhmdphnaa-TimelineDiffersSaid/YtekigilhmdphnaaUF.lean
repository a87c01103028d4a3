/- Two timelines that say the same are the same; the reference's Same. -/
import Derived.Test.YtekigilhmdphnaaUE
namespace Go.Proofs.Ytekigilhmdphnaa
open Go.RowKit Go.Shelf

theorem hv_lo {p : Pc} {L : List Pc} (hl : (p :: L).Pairwise le2) (hs : Sp (p :: L)) {d v : Int} (h : hv (p :: L) d v) : p.f ≤ d := by
  rcases hv_cons.1 h with a | ⟨q, hq, a, _⟩
  · exact a.1.1
  · have a := of_decide_eq_true a
    have b := (List.pairwise_cons.1 hl).1 q hq
    unfold le2 at b
    have c := of_decide_eq_true (hs p (List.mem_cons_self ..))
    omega
theorem Gd.tail {p : Pc} {L : List Pc} (h : Gd (p :: L)) : Gd L := ⟨fun q hq => h.1 q (List.mem_cons_of_mem _ hq), (List.pairwise_cons.1 h.2).2⟩
theorem hv_tail {p : Pc} {L : List Pc} (h : Gd (p :: L)) {d v : Int} : hv L d v ↔ hv (p :: L) d v ∧ ¬ (p.f ≤ d ∧ d < p.u) := by
  constructor
  · intro g
    refine ⟨hv_cons.2 (Or.inr g), fun a => ?_⟩
    obtain ⟨q, hq, b, _⟩ := g
    have b := of_decide_eq_true b
    have c := (List.pairwise_cons.1 h.le).1 q hq
    unfold le2 at c
    omega
  · rintro ⟨g, a⟩
    rcases hv_cons.1 g with b | b
    · exact absurd b.1 a
    · exact b
/-- The first piece ends where the second list's first one ends, or behind it. -/
theorem first_end {p q : Pc} {L M : List Pc} (h : Gd (p :: L)) (e : ∀ d v, hv (p :: L) d v ↔ hv (q :: M) d v) (ef : p.f = q.f) (ev : p.v = q.v) : q.u ≤ p.u := by
  rcases Int.lt_or_le p.u q.u with c | c
  · exfalso
    have sp := of_decide_eq_true (h.1 p (List.mem_cons_self ..))
    have a : hv (q :: M) p.u q.v := hv_cons.2 (Or.inl ⟨⟨by omega, c⟩, rfl⟩)
    rcases hv_cons.1 ((e _ _).2 a) with b | ⟨r, hr, b, bv⟩
    · omega
    · have b := of_decide_eq_true b
      rcases (List.pairwise_cons.1 h.2).1 r hr with x | x
      · omega
      · exact x.2 (by rw [ev, bv])
  · exact c
theorem gd_unique : ∀ (L M : List Pc), Gd L → Gd M → (∀ d v, hv L d v ↔ hv M d v) → L = M
  | [], [], _, _, _ => rfl
  | [], q :: M, _, g, e => by
    have s := of_decide_eq_true (g.1 q (List.mem_cons_self ..))
    exact absurd ((e q.f q.v).2 (hv_cons.2 (Or.inl ⟨⟨Int.le_refl _, s.2.1⟩, rfl⟩))) hv_nil
  | p :: L, [], h, _, e => by
    have s := of_decide_eq_true (h.1 p (List.mem_cons_self ..))
    exact absurd ((e p.f p.v).1 (hv_cons.2 (Or.inl ⟨⟨Int.le_refl _, s.2.1⟩, rfl⟩))) hv_nil
  | p :: L, q :: M, h, g, e => by
    have s := of_decide_eq_true (h.1 p (List.mem_cons_self ..))
    have t := of_decide_eq_true (g.1 q (List.mem_cons_self ..))
    have a : hv (p :: L) p.f p.v := hv_cons.2 (Or.inl ⟨⟨Int.le_refl _, s.2.1⟩, rfl⟩)
    have b : hv (q :: M) q.f q.v := hv_cons.2 (Or.inl ⟨⟨Int.le_refl _, t.2.1⟩, rfl⟩)
    have x := hv_lo g.le g.1 ((e _ _).1 a)
    have y := hv_lo h.le h.1 ((e _ _).2 b)
    have ef : p.f = q.f := by omega
    have ev : p.v = q.v := hv_one_value g.1 g.le ((e _ _).1 a) (by rw [ef]; exact b)
    have eu : p.u = q.u := by
      have := first_end h e ef ev
      have := first_end g (fun d v => (e d v).symm) ef.symm ev.symm
      omega
    have epq : p = q := by
      cases p; cases q
      simp only at ef ev eu
      subst ef ev eu; rfl
    subst epq
    rw [gd_unique L M h.tail g.tail (fun d v => by rw [hv_tail h, hv_tail g, e])]

/-- '!=' of two pieces. -/
theorem nqP (f u v a b c : Int) (w : World) : (binOp .neq 47 (.agg #[.int .i64 f, .int .i64 u, .int .i64 v]) (.agg #[.int .i64 a, .int .i64 b, .int .i64 c])).run Try.prog w = .ok (.bool (!decide (f = a ∧ u = b ∧ v = c))) w := by
  have u3 := Try.underlying3
  have a3 := Try.isAgg3
  have z3 := Try.sizeOf3
  have a33 := Try.isAgg33
  have z33 := Try.sizeOf33
  have hS : Try.prog.underlying 47 = some (.struct (Try.prog.fieldsOf 47)) := by kernel_rfl
  have hp : Try.prog.stoodInHeld 47 = false := by kernel_rfl
  have hS2 : Try.prog.underlying 33 = some (.struct (Try.prog.fieldsOf 33)) := by kernel_rfl
  have hp2 : Try.prog.stoodInHeld 33 = false := by kernel_rfl
  have inner : ∀ W, (Op.equalIn (9998 + 1) 33 (.agg #[.int .i64 f, .int .i64 u]) (.agg #[.int .i64 a, .int .i64 b])).run Try.prog W = .ok (decide (f = a ∧ u = b)) W := fun W => by
    rw [run_equalIn_agg W 9998 33 _ _ hS2 hp2]
    simp only [Program.fieldsOf, Try.underlying33]
    go_simp
    by_cases h1 : f = a <;> by_cases h2 : u = b <;> simp [h1, h2]
  rw [run_neq_struct, show (10000 : Nat) = 9999 + 1 from rfl, run_equalIn_agg w 9999 47 _ _ hS hp]
  simp only [Program.fieldsOf, Try.underlying47]
  go_simp
  by_cases h1 : f = a <;> by_cases h2 : u = b <;> by_cases h3 : v = c <;> simp [h1, h2, h3]
theorem nqPg (f u v a b c : Int) (op : BinOp) (x y : Operand) (w : World) : (eqGuard op 47 x y (.agg #[.int .i64 f, .int .i64 u, .int .i64 v]) (.agg #[.int .i64 a, .int .i64 b, .int .i64 c])).run Try.prog w = .ok () w :=
  run_eqGuard_agg w op _ x y _ _ (by kernel_rfl)
theorem toL_eq {P Q : Nat → Pc} {n : Nat} : toL P n = toL Q n ↔ ∀ k, k < n → P k = Q k := by
  constructor
  · intro h k hk
    have a := toL_get P hk
    rw [h, toL_get Q hk] at a
    exact (Option.some.inj a).symm
  · intro h
    unfold toL
    exact List.map_congr_left fun k hk => h k (List.mem_range.1 hk)

def SameR (L M : List Pc) (e : Ending) : Prop := ∃ z : Bool, e = .returned (.bool z) ∧ (z = true ↔ L = M)
set_option maxHeartbeats 4000000 in
theorem Same_row (b off c b2 off2 c2 n : Nat) (P Q : Nat → Pc) (w : World) (hn : n ≤ 9223372036854775807) (hP : Pcs w b off n P) (hQ : Pcs w b2 off2 n Q) :
    Calls Try.prog 24 #[.slice (some ⟨b, off, none⟩) n c, .slice (some ⟨b2, off2, none⟩) n c2] w fun e w' => SameR (toL P n) (toL Q n) e ∧ Below w.heap.size w w' := by
  have HP := Lib.hid hP
  have HQ := Lib.hid hQ
  clear hP hQ
  go_enter Try.func24, Try.ntmps24
  go_wp2
  go_loopg [5] n (fun gg s3 wr => ∃ kk : Nat, kk ≤ n ∧ n - kk ≤ gg ∧ s3 = .int .i64 kk ∧ Aside (Below w.heap.size w wr) ∧ Aside (∀ j, j < kk → P j = Q j))
  case atStart => exact ⟨0, Nat.zero_le _, by omega, rfl, Below.refl _ w, fun j hj => absurd hj (Nat.not_lt_zero j)⟩
  case round =>
    obtain ⟨kk, hkk, hg, rfl, BW, A⟩ := hrel
    by_cases hlt : kk < n
    · have hltz : (kk : Int) < (n : Int) := by omega
      have hz0 : (0 : Int) ≤ (kk : Int) := by omega
      obtain ⟨l0, l1, l2⟩ := (HP.out.below BW.out).2 kk hlt
      obtain ⟨m0, m1, m2⟩ := (HQ.out.below BW.out).2 kk hlt
      have EQ := Lib.hid (show P kk = Q kk ↔ (P kk).f = (Q kk).f ∧ (P kk).u = (Q kk).u ∧ (P kk).v = (Q kk).v by
        cases P kk; cases Q kk; simp)
      have nq := nqP (P kk).f (P kk).u (P kk).v (Q kk).f (Q kk).u (Q kk).v
      have ng := nqPg (P kk).f (P kk).u (P kk).v (Q kk).f (Q kk).u (Q kk).v
      by_cases e : (P kk).f = (Q kk).f ∧ (P kk).u = (Q kk).u ∧ (P kk).v = (Q kk).v
      · rw [decide_eq_true e] at nq
        have AN := Lib.hid (show ∀ j, j < kk + 1 → P j = Q j from fun j hj => by
          rcases Nat.lt_succ_iff_lt_or_eq.1 hj with a | rfl
          · exact A.out j a
          · exact EQ.out.2 e)
        clear A e EQ
        generalize (P kk).f = p1 at *
        generalize (P kk).u = p2 at *
        generalize (P kk).v = p3 at *
        generalize (Q kk).f = p4 at *
        generalize (Q kk).u = p5 at *
        generalize (Q kk).v = p6 at *
        go_wp2_with fail
        go_quiet (fail)
        go_wp2_with fail
        go_roundg (n - (kk + 1))
        case measure => omega
        case rel => exact ⟨kk + 1, by omega, by omega, by go_num, BdN BW.out _, AN.out⟩
      · rw [decide_eq_false e] at nq
        have AN := Lib.hid (show ¬ toL P n = toL Q n from fun h => e (EQ.out.1 (toL_eq.1 h kk hlt)))
        clear A e EQ
        generalize (P kk).f = p1 at *
        generalize (P kk).u = p2 at *
        generalize (P kk).v = p3 at *
        generalize (Q kk).f = p4 at *
        generalize (Q kk).u = p5 at *
        generalize (Q kk).v = p6 at *
        go_wp2_with fail
        go_quiet (fail)
        go_wp2_with fail
        go_ret
        exact ⟨⟨false, rfl, ⟨(fun h => by cases h), fun h => absurd h AN.out⟩⟩, BdN BW.out _⟩
    · have hltz : ¬ (kk : Int) < (n : Int) := by omega
      have : kk = n := by omega
      subst this
      go_wp2
      go_ret
      exact ⟨⟨true, rfl, ⟨fun _ => toL_eq.2 A.out, fun _ => rfl⟩⟩, BW.out⟩

set_option maxHeartbeats 2000000 in
theorem Same_len (p q : Option Addr) (n c m c2 : Nat) (L M : List Pc) (w : World) (hL : L.length = n) (hM : M.length = m) (hne : n ≠ m) :
    Calls Try.prog 24 #[.slice p n c, .slice q m c2] w fun e w' => SameR L M e ∧ Below w.heap.size w w' := by
  have NE := Lib.hid (show ¬ L = M from fun h => hne (by rw [← hL, ← hM, h]))
  have h1 : ((n : Int) == (m : Int)) = false := by simp; omega
  clear hL hM
  go_enter Try.func24, Try.ntmps24
  go_wp2_with fail
  go_ret
  exact ⟨⟨false, rfl, ⟨(fun h => by cases h), fun h => absurd h NE.out⟩⟩, Below.refl _ w⟩
set_option maxHeartbeats 2000000 in
theorem Same_zero (p q : Option Addr) (c c2 : Nat) (w : World) :
    Calls Try.prog 24 #[.slice p 0 c, .slice q 0 c2] w fun e w' => SameR [] [] e ∧ Below w.heap.size w w' := by
  go_enter Try.func24, Try.ntmps24
  go_wp2_with fail
  go_loopg [5] 1 (fun gg s5 wr => s5 = .int .i64 0 ∧ Aside (Below w.heap.size w wr))
  case atStart => exact ⟨rfl, Below.refl _ w⟩
  case round =>
    obtain ⟨rfl, BW⟩ := hrel
    go_wp2
    go_ret
    exact ⟨⟨true, rfl, ⟨fun _ => rfl, fun _ => rfl⟩⟩, BW.out⟩
theorem Same_any (p q : Option Addr) (n c m c2 : Nat) (P Q : Nat → Pc) (w : World) (hP : IsP w p n c P) (hQ : IsP w q m c2 Q) :
    Calls Try.prog 24 #[.slice p n c, .slice q m c2] w fun e w' => SameR (toL P n) (toL Q m) e ∧ Below w.heap.size w w' := by
  by_cases hne : n = m
  · subst hne
    rcases Nat.eq_zero_or_pos n with rfl | h0
    · exact Same_zero p q c c2 w
    · obtain ⟨b, off, rfl, h1⟩ := hP.row h0
      obtain ⟨b2, off2, rfl, h2⟩ := hQ.row h0
      exact Same_row b off c b2 off2 c2 n P Q w hP.le h1 h2
  · exact Same_len p q n c m c2 _ _ w (toL_length P n) (toL_length Q m) hne
end Go.Proofs.Ytekigilhmdphnaa
