/- The reference's put. -/
import Derived.Test.YtekigilhmdphnaaUG
namespace Go.Proofs.Ytekigilhmdphnaa
open Go.RowKit Go.Shelf

def putR (L : List Pc) (x : Pc) : List Pc := if x.u ≤ x.f then L else putL L x
theorem lay_left {A B vs : List Value} {o : Nat} (h : o + vs.length ≤ A.length) : lay (A ++ B) o vs = lay A o vs ++ B := by
  unfold lay
  rw [List.take_append_of_le_length (by omega), List.drop_append_of_le_length (by omega), List.append_assoc, List.append_assoc, List.append_assoc]
theorem lay_last (A : List Value) (a b c x : Value) : lay (A ++ [a, b, c]) (A.length + 1) [x] = A ++ [a, x, c] := by
  unfold lay
  rw [show A.length + 1 + [x].length = A.length + 2 from rfl, List.take_length_add_append, List.drop_length_add_append]
  simp
theorem cellsP_snoc (M : List Pc) (q : Pc) : cellsP (M ++ [q]) = cellsP M ++ [.int .i64 q.f, .int .i64 q.u, .int .i64 q.v] := by rw [cellsP_append]; rfl
/-- Where the row of an append's result lies: where it lay, or in a new place. -/
theorem run_append_block {P : Program} (w : World) (base : Nat) (t ty e : TypeId) (i : TypeInfo) (z : Value) (size bytes : Nat) (ht : P.underlying t = some (.slice e)) (hi : P.info? e = some i) (hz : i.zero = some z)
    (hsize : i.size = size) (hby : i.bytes = bytes) (v : Value) (n : Nat) (xs : List Value) (hown : w.ownsRow base e size v n xs)
    (a : Addr) (m c : Nat) (news : List Value) (hl : news.length = m * size) (hnews : ∀ j u, news[j]? = some u → w.cell? (a.add j) = some u) (h1 : ∀ u ∈ news, u.oneCell' = true)
    (h63 : n + m ≤ maxLen) (hbytes : (n + m) * bytes ≤ 140737488355328) (hm : 0 < m) (v' : Value) (w' : World) (hr : (Builtin.append_ #[t, t] ty #[v, .slice (some a) m c]).run P w = .ok v' w') :
    ∀ k, v'.ownBlock = some k → v.ownBlock = some k ∨ k = w.heap.size := by
  subst hsize hby
  have hsmall : n + m ≤ 9223372036854775807 := by simp only [maxLen] at h63; omega
  intro k hk
  rcases hown.2 with ⟨rfl, rfl⟩ | ⟨g, cap, cur, rfl, hbg, hg, hnc, hcm, hcs, htake⟩
  · have hr2 := run_append_nil (P := P) w t ty e i z ht hi hz a m c news hl hnews hm (by omega) (by have hb := hbytes; simp only [Nat.zero_add] at hb; omega)
    have e1 := hr.symm.trans hr2
    injection e1 with e1 _
    rw [e1] at hk
    right; simpa [Value.ownBlock, eq_comm] using hk
  · by_cases hroom : n + m ≤ cap
    · have hfit : n * i.size + news.length ≤ cur.size := by rw [hl, hcs, ← Nat.add_mul]; exact Nat.mul_le_mul_right _ hroom
      have hr2 := run_append_room (P := P) w t ty e i ht hi g n cap cur hg a m c news hl hnews h1 hroom hfit
      have e1 := hr.symm.trans hr2
      injection e1 with e1 _
      rw [e1] at hk
      left; simpa [Value.ownBlock] using hk
    · have holds : ∀ j u, xs[j]? = some u → w.cell? ((⟨g, 0, none⟩ : Addr).add j) = some u := hown.cells (g := g) rfl
      have hr2 := run_append_grow (P := P) w t ty e i z ht hi hz ⟨g, 0, none⟩ n cap xs hown.1 holds a m c news hl hnews (by omega) (by omega) (growslice_fits (by omega) hbytes)
      have e1 := hr.symm.trans hr2
      injection e1 with e1 _
      rw [e1] at hk
      right; simpa [Value.ownBlock, eq_comm] using hk
theorem wpList_append_own_block {P : Program} {w : World} {ops : Array Oper} {rest : List Oper} {o : Oper} {a : Act} {Q : Exit → Act → World → Prop} (hgd : o.guard = none) (s x : Operand) (t : TypeId)
    (ho : o.op = .call { callee := .builtin .append, args := #[s, x], argTypes := #[t, t] })
    (base : Nat) (e : TypeId) (i : TypeInfo) (z : Value) (size bytes : Nat) (ht : P.underlying t = some (.slice e)) (hi : P.info? e = some i) (hz : i.zero = some z)
    (hsize : i.size = size) (hby : i.bytes = bytes) (hzs : z.cells.size = size) (hsz : 0 < size)
    (v : Value) (n : Nat) (xs : List Value) (hs : a.eval s = v) (hown : w.ownsRow base e size v n xs)
    (ad : Addr) (m c : Nat) (news : List Value) (hx : a.eval x = .slice (some ad) m c) (hl : news.length = m * size) (hnews : ∀ j u, news[j]? = some u → w.cell? (ad.add j) = some u) (h1 : ∀ u ∈ news, u.oneCell' = true)
    (h63 : n + m ≤ maxLen) (hbytes : (n + m) * bytes ≤ 140737488355328) (hbase : base ≤ w.heap.size) (hm : 0 < m)
    (h : ∀ v' w', w'.ownsRow base e size v' (n + m) (xs ++ news) → w.grownBy w' v.ownBlock → (∀ k, v'.ownBlock = some k → v.ownBlock = some k ∨ k = w.heap.size) → wpList P ops Q rest (a.put o.dst v') w') : wpList P ops Q (o :: rest) a w := by
  refine wpList_plain hgd fun K hK => ?_
  obtain ⟨v', w', hr, h2, h3, h4⟩ := run_append_own (P := P) w base t o.type e i z size bytes ht hi hz hsize hby hzs hsz v n xs hown ad m c news hl hnews h1 h63 hbytes hbase
  have hb := run_append_block (P := P) w base t o.type e i z size bytes ht hi hz hsize hby v n xs hown ad m c news hl hnews h1 h63 hbytes hm v' w' hr
  unfold Oper.wp execOp
  simp only [ho, resolve, invoke, builtin, Sem.run_bind, Sem.run_pure, Result.andThen_ok, List.map_toArray, List.map_cons, List.map_nil, hs, hx, hr]
  exact hK _ _ (h v' w' h2 h3 hb)
/-- Nothing but a row of one's own has changed. -/
def Only (v : Value) (w : World) (v' : Value) (w' : World) : Prop := w.grownBy w' v.ownBlock ∧ ∀ k, v'.ownBlock = some k → v.ownBlock = some k ∨ w.heap.size ≤ k
theorem gb_trans {w w1 w2 : World} {r : Option Nat} (h : w.grownBy w1 r) (g : w1.grownBy w2 r) : w.grownBy w2 r :=
  ⟨g.os.trans h.os, g.tape.trans h.tape, g.output.trans h.output, Nat.le_trans h.size g.size, fun k hk hr => (g.block k (Nat.lt_of_lt_of_le hk h.size) hr).trans (h.block k hk hr)⟩
theorem gb_below {w w1 : World} {r : Option Nat} (h : Below w.heap.size w w1) : w.grownBy w1 r := ⟨h.os, h.tape, h.output, h.size, fun k hk _ => h.block k hk⟩
theorem gb_set {w : World} {g o : Nat} {x : Value} : w.grownBy (w.setCell ⟨g, o, none⟩ x) (some g) :=
  ⟨rfl, rfl, rfl, by simp [World.setCell], fun k _ hr => by
    have : g ≠ k := fun h => hr (by rw [h])
    simp [World.setCell, Array.getElem?_modify, this]⟩

/-- The last piece of an own row is made longer. -/
theorem own_last {w : World} {K : Nat} {v : Value} {M : List Pc} {q : Pc} (u : Int) (h : w.ownsRow K 47 3 v (M ++ [q]).length (cellsP (M ++ [q]))) :
    ∃ g c, v = .slice (some ⟨g, 0, none⟩) (M.length + 1) c ∧ K ≤ g ∧ g < w.heap.size ∧ w.there g (M.length * 3) 3 ∧
      w.cell? ⟨g, M.length * 3, none⟩ = some (.int .i64 q.f) ∧ w.cell? ⟨g, M.length * 3 + 1, none⟩ = some (.int .i64 q.u) ∧ w.cell? ⟨g, M.length * 3 + 2, none⟩ = some (.int .i64 q.v) ∧
      (w.setCell ⟨g, M.length * 3 + 1, none⟩ (.int .i64 u)).ownsRow K 47 3 v (M ++ [(⟨q.f, u, q.v⟩ : Pc)]).length (cellsP (M ++ [(⟨q.f, u, q.v⟩ : Pc)])) := by
  have l1 : (M ++ [q]).length = M.length + 1 := by simp
  have l2 : (M ++ [(⟨q.f, u, q.v⟩ : Pc)]).length = M.length + 1 := by simp
  rw [l1] at h
  obtain ⟨g, c, cs, rfl, hK, hc, hm, hR, hl, ht⟩ := owns_rw h (Nat.succ_pos _)
  have get : ∀ j x, (cellsP (M ++ [q]))[j]? = some x → w.cell? ⟨g, j, none⟩ = some x := fun j x hj => by
    rw [← ht, List.getElem?_take] at hj
    split at hj
    · exact hR.cell j x hj
    · cases hj
  obtain ⟨x0, x1, x2⟩ := cellsP_get (M ++ [q]) M.length q (by simp)
  refine ⟨g, c, rfl, hK, hR.lt, there_of hR _ _ (by omega), get _ _ x0, get _ _ x1, get _ _ x2, ?_⟩
  have lM := cellsP_length M
  have R2 := hR.lay (M.length * 3 + 1) [.int .i64 u] (by simp; omega)
  have O2 := R2.owns (K := K) (n := c) hK (by rw [lay_length (by simp; omega)]; exact hl) hm (M.length + 1) hc
  have e : (lay cs (M.length * 3 + 1) [.int .i64 u]).take ((M.length + 1) * 3) = cellsP (M ++ [(⟨q.f, u, q.v⟩ : Pc)]) := by
    have c1 : cs = cellsP (M ++ [q]) ++ cs.drop ((M.length + 1) * 3) := by rw [← ht, List.take_append_drop]
    have lq : (cellsP (M ++ [q])).length = (M.length + 1) * 3 := by rw [cellsP_length]; simp
    rw [c1, lay_left (by simp; omega), List.take_left' (by rw [lay_length (by simp; omega)]; exact lq), cellsP_snoc, cellsP_snoc, ← lM, lay_last]
  rw [e] at O2
  rw [l2]
  exact O2

set_option maxRecDepth 10000 in
set_option maxHeartbeats 4000000 in
theorem put_any (K : Nat) (v : Value) (L : List Pc) (x : Pc) (w : World) (hK : K ≤ w.heap.size) (hL : L.length ≤ 100000) (h : w.ownsRow K 47 3 v L.length (cellsP L)) :
    Calls Try.prog 45 #[v, .agg #[.int .i64 x.f, .int .i64 x.u, .int .i64 x.v]] w fun e w' => ∃ v', e = .returned v' ∧ w'.ownsRow K 47 3 v' (putR L x).length (cellsP (putR L x)) ∧ Only v w v' w' := by
  obtain ⟨i0, hi, hz0, hz1, hz2⟩ := info_parts (P := Try.prog) (e := 47) (z := .agg #[.int .i64 0, .int .i64 0, .int .i64 0]) (size := 3) (bytes := 24) (by kernel_rfl)
  have US : Try.prog.underlying 22 = some (.slice 47) := by kernel_rfl
  have al := (Below.refl w.heap.size w).alloc (Nat.le_refl _) (.cells #[.int .i64 x.f, .int .i64 x.u, .int .i64 x.v] 47)
  have BX := Lib.hid (Box3.new w x 47)
  have AL := Lib.hid (show w.grownBy (w.alloc (.cells #[.int .i64 x.f, .int .i64 x.u, .int .i64 x.v] 47)) v.ownBlock from gb_below al)
  have WS := Lib.hid al.size
  have OW := Lib.hid (h.kept (row := none) ⟨al.os, al.tape, al.output, al.size, fun k hk _ => al.block k hk⟩ (by cases hv : v.ownBlock <;> simp))
  have KZ := Lib.hid (Nat.le_trans hK al.size)
  clear al hK h
  obtain ⟨_, x0, x1, x2⟩ := BX.out
  by_cases c0 : x.u ≤ x.f
  · have PR := Lib.hid (show putR L x = L from if_pos c0)
    go_enter Try.func45, Try.ntmps45
    go_wp2_with fail
    go_ret
    exact ⟨v, rfl, by rw [PR.out]; exact OW.out, AL.out, fun k hk => Or.inl hk⟩
  · have PR := Lib.hid (show putR L x = putL L x from if_neg c0)
    have hx : ¬ x.u ≤ x.f := c0
    rcases nil_or_snoc L with rfl | ⟨M, q, rfl⟩
    · rcases OW.out.2 with ⟨rfl, _⟩ | ⟨g, cap, cur, rfl, _⟩
      all_goals
        go_enter Try.func45, Try.ntmps45
        go_wp2_with fail
        go_quiet (fail)
        have BX1 := Lib.hid (BX.out.below (BdN (Below.refl _ _) nq))
        have AL1 := Lib.hid (gb_trans AL.out (gb_below (BdN (Below.refl _ _) nq)))
        have WS1 := Lib.hid (show w.heap.size ≤ ((w.alloc (.cells #[.int .i64 x.f, .int .i64 x.u, .int .i64 x.v] 47)).drewN nq).heap.size from WS.out)
        have KZ1 := Lib.hid (show K ≤ ((w.alloc (.cells #[.int .i64 x.f, .int .i64 x.u, .int .i64 x.v] 47)).drewN nq).heap.size from KZ.out)
        have OW1 : Hid (((w.alloc (.cells #[.int .i64 x.f, .int .i64 x.u, .int .i64 x.v] 47)).drewN nq).ownsRow K 47 3 _ 0 (cellsP [])) := OW
        clear x0 x1 x2 BX AL KZ OW
        generalize (w.alloc (.cells #[.int .i64 x.f, .int .i64 x.u, .int .i64 x.v] 47)).drewN nq = w1 at *
        obtain ⟨_, x0, x1, x2⟩ := BX1.out
        have NB := Lib.hid (Box3.new w1 x 47)
        have AL2 := Lib.hid (gb_trans AL1.out (gb_below ((Below.refl w1.heap.size w1).alloc (Nat.le_refl _) (.cells #[.int .i64 x.f, .int .i64 x.u, .int .i64 x.v] 47))))
        have WS2 := Lib.hid (show w.heap.size ≤ (w1.alloc (.cells #[.int .i64 x.f, .int .i64 x.u, .int .i64 x.v] 47)).heap.size from Nat.le_trans WS1.out (by simp))
        have OW2 := Lib.hid (OW1.out.alloc (.cells #[.int .i64 x.f, .int .i64 x.u, .int .i64 x.v] 47))
        have KZ2 := Lib.hid (show K ≤ (w1.alloc (.cells #[.int .i64 x.f, .int .i64 x.u, .int .i64 x.v] 47)).heap.size from Nat.le_trans KZ1.out (by simp))
        go_wp2_with (at_builtin; refine wpList_append_own_block rfl (.tmp 50) (.tmp 52) 22 rfl K 47 i0 (.agg #[.int .i64 0, .int .i64 0, .int .i64 0]) 3 24 US hi hz0 hz1 hz2 rfl (by decide) _ 0 _ rfl OW2.out ⟨w1.heap.size, 0, none⟩ 1 1 (cellsP [x]) rfl rfl (news3 NB.out) (cellsP_one _) (by decide) (by decide) KZ2.out Nat.one_pos ?_; intro v10 w10 own10 grow10 hn10)
        have B10 := Lib.hid (show Only _ w v10 w10 from ⟨gb_trans AL2.out grow10, fun k hk => (hn10 k hk).imp id (fun h => by rw [h]; exact WS2.out)⟩)
        have O10 := Lib.hid own10
        clear own10 grow10 hn10 OW2 OW1 AL1 AL2
        go_wp2_with fail
        go_ret
        exact ⟨v10, rfl, by rw [PR.out]; exact O10.out, B10.out⟩
    · obtain ⟨g, c, rfl, _, _, _, y0, y1, y2, _⟩ := own_last x.u OW.out
      have HL := Lib.hid hL
      have lM : (M ++ [q]).length = M.length + 1 := by simp
      rw [lM] at hL
      obtain ⟨N, hN⟩ : ∃ N, N = M.length := ⟨_, rfl⟩
      rw [← hN] at hL y0 y1 y2 OW ⊢
      have v1 : IntKind.i64.wrap ((N : Int) + 1 - 1) = (N : Int) := (IntWalk.i64_in _ ⟨by omega, by omega⟩).trans (by omega)
      have n0 : (0 : Int) ≤ (N : Int) := by omega
      have n1 : (N : Int) < (N : Int) + 1 := by omega
      have HN := Lib.hid hN
      clear lM hN
      by_cases a1 : q.u = x.f ∧ q.v = x.v
      · have PU := Lib.hid (show putR (M ++ [q]) x = M ++ [(⟨q.f, x.u, q.v⟩ : Pc)] by rw [PR.out, putL_snoc, if_pos (show linkB q x = true from decide_eq_true a1)])
        obtain ⟨a1, a2⟩ := a1
        go_enter Try.func45, Try.ntmps45
        go_wp2_with fail
        go_quiet (fail)
        have BX1 := Lib.hid (BX.out.below (BdN (Below.refl _ _) nq))
        have AL1 := Lib.hid (gb_trans AL.out (gb_below (BdN (Below.refl _ _) nq)))
        have WS1 := Lib.hid (show w.heap.size ≤ ((w.alloc (.cells #[.int .i64 x.f, .int .i64 x.u, .int .i64 x.v] 47)).drewN nq).heap.size from WS.out)
        have KZ1 := Lib.hid (show K ≤ ((w.alloc (.cells #[.int .i64 x.f, .int .i64 x.u, .int .i64 x.v] 47)).drewN nq).heap.size from KZ.out)
        have OW1 : Hid (((w.alloc (.cells #[.int .i64 x.f, .int .i64 x.u, .int .i64 x.v] 47)).drewN nq).ownsRow K 47 3 (.slice (some ⟨g, 0, none⟩) (N + 1) c) (M ++ [q]).length (cellsP (M ++ [q]))) := OW
        clear x0 x1 x2 BX AL KZ OW y0 y1 y2
        generalize (w.alloc (.cells #[.int .i64 x.f, .int .i64 x.u, .int .i64 x.v] 47)).drewN nq = w1 at *
        obtain ⟨_, x0, x1, x2⟩ := BX1.out
        obtain ⟨g', c', e1, _, _, hth, y0, y1, y2, O⟩ := own_last x.u OW1.out
        obtain ⟨rfl, rfl⟩ : g = g' ∧ c = c' := by
          simp only [Value.slice.injEq, Option.some.injEq, Addr.mk.injEq] at e1
          exact ⟨e1.1.1, e1.2.2⟩
        have fz := (hth 1 (by decide)).2
        have O2 := Lib.hid O
        rw [← HN.out] at y0 y1 y2 fz O2
        have B2 := Lib.hid (show Only (.slice (some ⟨g, 0, none⟩) (N + 1) c) w (.slice (some ⟨g, 0, none⟩) (N + 1) c) (w1.setCell ⟨g, N * 3 + 1, none⟩ (.int .i64 x.u)) from ⟨gb_trans AL1.out gb_set, fun k hk => Or.inl hk⟩)
        clear O hth e1 OW1 AL1
        go_wp2_with fail
        go_ret
        exact ⟨_, rfl, by rw [PU.out]; exact O2.out, B2.out⟩
      · have PU := Lib.hid (show putR (M ++ [q]) x = M ++ [q] ++ [x] by rw [PR.out, putL_snoc, if_neg (show ¬ linkB q x = true from fun h => a1 (of_decide_eq_true h))])
        go_enter Try.func45, Try.ntmps45
        have a3 : ¬ (q.u = x.f ∧ q.v = x.v) := a1
        by_cases a4 : q.u = x.f
        · have a5 : ¬ q.v = x.v := fun h => a1 ⟨a4, h⟩
          clear a1 a3
          go_wp2_with fail
          go_quiet (fail)
          have BX1 := Lib.hid (BX.out.below (BdN (Below.refl _ _) nq))
          have AL1 := Lib.hid (gb_trans AL.out (gb_below (BdN (Below.refl _ _) nq)))
          have WS1 := Lib.hid (show w.heap.size ≤ ((w.alloc (.cells #[.int .i64 x.f, .int .i64 x.u, .int .i64 x.v] 47)).drewN nq).heap.size from WS.out)
          have KZ1 := Lib.hid (show K ≤ ((w.alloc (.cells #[.int .i64 x.f, .int .i64 x.u, .int .i64 x.v] 47)).drewN nq).heap.size from KZ.out)
          have OW1 : Hid (((w.alloc (.cells #[.int .i64 x.f, .int .i64 x.u, .int .i64 x.v] 47)).drewN nq).ownsRow K 47 3 (.slice (some ⟨g, 0, none⟩) (N + 1) c) (M ++ [q]).length (cellsP (M ++ [q]))) := OW
          clear x0 x1 x2 BX AL KZ OW y0 y1 y2
          generalize (w.alloc (.cells #[.int .i64 x.f, .int .i64 x.u, .int .i64 x.v] 47)).drewN nq = w1 at *
          obtain ⟨_, x0, x1, x2⟩ := BX1.out
          have NB := Lib.hid (Box3.new w1 x 47)
          have AL2 := Lib.hid (gb_trans AL1.out (gb_below ((Below.refl w1.heap.size w1).alloc (Nat.le_refl _) (.cells #[.int .i64 x.f, .int .i64 x.u, .int .i64 x.v] 47))))
          have WS2 := Lib.hid (show w.heap.size ≤ (w1.alloc (.cells #[.int .i64 x.f, .int .i64 x.u, .int .i64 x.v] 47)).heap.size from Nat.le_trans WS1.out (by simp))
          have OW2 := Lib.hid (OW1.out.alloc (.cells #[.int .i64 x.f, .int .i64 x.u, .int .i64 x.v] 47))
          have KZ2 := Lib.hid (show K ≤ (w1.alloc (.cells #[.int .i64 x.f, .int .i64 x.u, .int .i64 x.v] 47)).heap.size from Nat.le_trans KZ1.out (by simp))
          have HB1 := Lib.hid (show (M ++ [q]).length + 1 ≤ maxLen ∧ ((M ++ [q]).length + 1) * 24 ≤ 140737488355328 from ⟨by unfold maxLen; have := HL.out; omega, by have := HL.out; omega⟩)
          go_wp2_with (at_builtin; refine wpList_append_own_block rfl (.tmp 50) (.tmp 52) 22 rfl K 47 i0 (.agg #[.int .i64 0, .int .i64 0, .int .i64 0]) 3 24 US hi hz0 hz1 hz2 rfl (by decide) _ _ _ rfl OW2.out ⟨w1.heap.size, 0, none⟩ 1 1 (cellsP [x]) rfl rfl (news3 NB.out) (cellsP_one _) HB1.out.1 HB1.out.2 KZ2.out Nat.one_pos ?_; intro v10 w10 own10 grow10 hn10)
          have B10 := Lib.hid (show Only _ w v10 w10 from ⟨gb_trans AL2.out grow10, fun k hk => (hn10 k hk).imp id (fun h => by rw [h]; exact WS2.out)⟩)
          have O10 := Lib.hid (show w10.ownsRow K 47 3 v10 (M ++ [q] ++ [x]).length (cellsP (M ++ [q] ++ [x])) by rw [cellsP_append, List.length_append]; exact own10)
          clear own10 grow10 hn10 OW2 OW1 AL1 AL2 HB1
          go_wp2_with fail
          go_ret
          exact ⟨v10, rfl, by rw [PU.out]; exact O10.out, B10.out⟩
        · clear a1 a3
          go_wp2_with fail
          go_quiet (fail)
          have BX1 := Lib.hid (BX.out.below (BdN (Below.refl _ _) nq))
          have AL1 := Lib.hid (gb_trans AL.out (gb_below (BdN (Below.refl _ _) nq)))
          have WS1 := Lib.hid (show w.heap.size ≤ ((w.alloc (.cells #[.int .i64 x.f, .int .i64 x.u, .int .i64 x.v] 47)).drewN nq).heap.size from WS.out)
          have KZ1 := Lib.hid (show K ≤ ((w.alloc (.cells #[.int .i64 x.f, .int .i64 x.u, .int .i64 x.v] 47)).drewN nq).heap.size from KZ.out)
          have OW1 : Hid (((w.alloc (.cells #[.int .i64 x.f, .int .i64 x.u, .int .i64 x.v] 47)).drewN nq).ownsRow K 47 3 (.slice (some ⟨g, 0, none⟩) (N + 1) c) (M ++ [q]).length (cellsP (M ++ [q]))) := OW
          clear x0 x1 x2 BX AL KZ OW y0 y1 y2
          generalize (w.alloc (.cells #[.int .i64 x.f, .int .i64 x.u, .int .i64 x.v] 47)).drewN nq = w1 at *
          obtain ⟨_, x0, x1, x2⟩ := BX1.out
          have NB := Lib.hid (Box3.new w1 x 47)
          have AL2 := Lib.hid (gb_trans AL1.out (gb_below ((Below.refl w1.heap.size w1).alloc (Nat.le_refl _) (.cells #[.int .i64 x.f, .int .i64 x.u, .int .i64 x.v] 47))))
          have WS2 := Lib.hid (show w.heap.size ≤ (w1.alloc (.cells #[.int .i64 x.f, .int .i64 x.u, .int .i64 x.v] 47)).heap.size from Nat.le_trans WS1.out (by simp))
          have OW2 := Lib.hid (OW1.out.alloc (.cells #[.int .i64 x.f, .int .i64 x.u, .int .i64 x.v] 47))
          have KZ2 := Lib.hid (show K ≤ (w1.alloc (.cells #[.int .i64 x.f, .int .i64 x.u, .int .i64 x.v] 47)).heap.size from Nat.le_trans KZ1.out (by simp))
          have HB1 := Lib.hid (show (M ++ [q]).length + 1 ≤ maxLen ∧ ((M ++ [q]).length + 1) * 24 ≤ 140737488355328 from ⟨by unfold maxLen; have := HL.out; omega, by have := HL.out; omega⟩)
          go_wp2_with (at_builtin; refine wpList_append_own_block rfl (.tmp 50) (.tmp 52) 22 rfl K 47 i0 (.agg #[.int .i64 0, .int .i64 0, .int .i64 0]) 3 24 US hi hz0 hz1 hz2 rfl (by decide) _ _ _ rfl OW2.out ⟨w1.heap.size, 0, none⟩ 1 1 (cellsP [x]) rfl rfl (news3 NB.out) (cellsP_one _) HB1.out.1 HB1.out.2 KZ2.out Nat.one_pos ?_; intro v10 w10 own10 grow10 hn10)
          have B10 := Lib.hid (show Only _ w v10 w10 from ⟨gb_trans AL2.out grow10, fun k hk => (hn10 k hk).imp id (fun h => by rw [h]; exact WS2.out)⟩)
          have O10 := Lib.hid (show w10.ownsRow K 47 3 v10 (M ++ [q] ++ [x]).length (cellsP (M ++ [q] ++ [x])) by rw [cellsP_append, List.length_append]; exact own10)
          clear own10 grow10 hn10 OW2 OW1 AL1 AL2 HB1
          go_wp2_with fail
          go_ret
          exact ⟨v10, rfl, by rw [PU.out]; exact O10.out, B10.out⟩
end Go.Proofs.Ytekigilhmdphnaa
