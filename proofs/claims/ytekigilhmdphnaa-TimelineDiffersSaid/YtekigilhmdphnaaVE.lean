/- combined. -/
import Derived.Test.YtekigilhmdphnaaVD
import Derived.Deep.RegionLaw
namespace Go.Proofs.Ytekigilhmdphnaa
open Go.RowKit Go.Sort Go.Shelf

/-- append to a row of one's own, as one step of a region that draws. -/
theorem step_append_own {P : Program} {ops : Array Oper} {o : Oper} {a : Act} {w : World} {K : Act → World → Prop} {Q : Exit → Act → World → Prop} {E : Prop} (hgd : o.guard = none) (s x : Operand) (t : TypeId)
    (ho : o.op = .call { callee := .builtin .append, args := #[s, x], argTypes := #[t, t] })
    (base : Nat) (e : TypeId) (i : TypeInfo) (z : Value) (size bytes : Nat) (ht : P.underlying t = some (.slice e)) (hi : P.info? e = some i) (hz : i.zero = some z)
    (hsize : i.size = size) (hby : i.bytes = bytes) (hzs : z.cells.size = size) (hsz : 0 < size)
    (v : Value) (n : Nat) (xs : List Value) (hs : a.eval s = v) (hown : w.ownsRow base e size v n xs)
    (ad : Addr) (m c : Nat) (news : List Value) (hx : a.eval x = .slice (some ad) m c) (hl : news.length = m * size) (hnews : ∀ j u, news[j]? = some u → w.cell? (ad.add j) = some u) (h1 : ∀ u ∈ news, u.oneCell' = true)
    (h63 : n + m ≤ maxLen) (hbytes : (n + m) * bytes ≤ 140737488355328) (hbase : base ≤ w.heap.size)
    (h : ∀ v' w', w'.ownsRow base e size v' (n + m) (xs ++ news) → w.grownBy w' v.ownBlock → K (a.put o.dst v') w') : if Region.wanted o (yielded ops a.tmps) = true then Oper.wp P o a w K Q else E := by
  have hw : Region.wanted o (yielded ops a.tmps) = true := by simp [Region.wanted, hgd]
  rw [if_pos hw]
  obtain ⟨v', w', hr, h2, h3, _⟩ := run_append_own (P := P) w base t o.type e i z size bytes ht hi hz hsize hby hzs hsz v n xs hown ad m c news hl hnews h1 h63 hbytes hbase
  unfold Oper.wp execOp
  simp only [ho, resolve, invoke, builtin, Sem.run_bind, Sem.run_pure, Result.andThen_ok, List.map_toArray, List.map_cons, List.map_nil, hs, hx, hr]
  exact h v' w' h2 h3

theorem own_base {w : World} {K n size : Nat} {e : TypeId} {v : Value} {xs : List Value} (h : w.ownsRow K e size v n xs) : ∀ k, v.ownBlock = some k → K ≤ k := fun k hk => by
  rcases h.2 with ⟨rfl, _⟩ | ⟨g, cap, cur, rfl, hb, _⟩
  · simp [Value.ownBlock] at hk
  · simp [Value.ownBlock] at hk
    omega

/-- The pieces between the days of a list. -/
def segN (V : Int → Int × Bool) (D : Nat → Int) : Nat → List Pc
  | 0 => []
  | k + 1 => segN V D k ++ (if (V (D k)).2 = true then [⟨D k, D (k + 1), (V (D k)).1⟩] else [])
theorem segN_len (V : Int → Int × Bool) (D : Nat → Int) : ∀ k, (segN V D k).length ≤ k
  | 0 => Nat.le_refl _
  | k + 1 => by
    have := segN_len V D k
    show (segN V D k ++ _).length ≤ _
    rw [List.length_append]
    split <;> simp <;> omega
theorem row_ints {w : World} {K : Nat} {v : Value} {ds : List Int} (h : w.ownsRow K 3 1 v ds.length (ds.map encZ)) (hn : 0 < ds.length) :
    ∃ g c, v = .slice (some ⟨g, 0, none⟩) ds.length c ∧ K ≤ g ∧ g < w.heap.size ∧ ∀ j, j < ds.length → w.cell? ⟨g, j, none⟩ = some (.int .i64 (ds.getD j 0)) := by
  rcases h.2 with ⟨_, h0⟩ | ⟨g, cap, cur, rfl, hb, hg, hc, hm, hs, ht⟩
  · omega
  · refine ⟨g, cap, rfl, hb, (Array.getElem?_eq_some_iff.1 hg).1, fun j hj => ?_⟩
    have := h.cells (g := g) rfl j (.int .i64 (ds.getD j 0)) (by simp [hj])
    rwa [Addr.add_lit, Nat.zero_add] at this
def CombR (V : Int → Int × Bool) (L M : List Pc) (w : World) (e : Ending) (w' : World) : Prop :=
  ∃ ds v, Days2 L M ds ∧ ds.length ≤ 2 * (L.length + M.length) ∧ e = .returned v ∧ LRes w' v (joinL (segN V (fun i => ds.getD i 0) (ds.length - 1))) ∧ Below w.heap.size w w'
set_option maxHeartbeats 1000000 in
theorem joined_nil (w : World) : Calls Try.prog 37 #[.slice none 0 0] w fun e w' => e = .returned (.slice none 0 0) ∧ Below w.heap.size w w' := by
  go_enter Try.func37, Try.ntmps37
  go_wp2_with fail
  go_loopg [3, 8] 1 (fun gg s3 s8 wr => s3 = .int .i64 0 ∧ s8 = .int .i64 0 ∧ Aside (Below w.heap.size w wr))
  case atStart => exact ⟨rfl, rfl, Below.refl _ w⟩
  case round =>
    obtain ⟨rfl, rfl, BW⟩ := hrel
    go_wp2_with fail
    go_ret
    exact ⟨rfl, BW.out⟩
theorem joined_own (K : Nat) (v : Value) (R : List Pc) (w : World) (hK : K ≤ w.heap.size) (hl : R.length ≤ 100000) (h : w.ownsRow K 47 3 v R.length (cellsP R)) :
    Calls Try.prog 37 #[v] w fun e w' => ∃ v', e = .returned v' ∧ LRes w' v' (joinL R) ∧ Below K w w' := by
  have pos : ∀ (g c : Nat), K ≤ g → R.length ≤ c → Pw w g R.length (ofL R) → Calls Try.prog 37 #[.slice (some ⟨g, 0, none⟩) R.length c] w fun e w' => ∃ v', e = .returned v' ∧ LRes w' v' (joinL R) ∧ Below K w w' := fun g c hg hc hp => by
    refine (joined_any g R.length c K (ofL R) w (by omega) hc hg hK hp).mono ?_
    rintro e w3 ⟨rfl, p3, b3⟩
    have jl := jm_list (ofL R) R.length
    rw [toL_ofL] at jl
    have ji := (jm_inv (ofL R) R.length).1
    obtain ⟨m, hm⟩ : ∃ m, m = (jm (ofL R) R.length).2 := ⟨_, rfl⟩
    rw [← hm] at jl ji ⊢
    have jlen : (joinL R).length = m := by rw [← jl, toL_length]
    exact ⟨_, rfl, ⟨_, c, (jm (ofL R) R.length).1, by rw [jlen], Or.inr ⟨_, rfl, by rw [jlen]; omega, fun _ => ⟨rfl, p3.row.1, fun j hj => p3.row.2 j (by rw [jlen] at hj; omega)⟩⟩, by rw [jlen]; exact jl⟩, b3⟩
  rcases Nat.eq_zero_or_pos R.length with z | z
  · obtain rfl := List.length_eq_zero_iff.1 z
    rcases h.2 with ⟨rfl, _⟩ | ⟨g, cap, cur, rfl, hb, hg, hc, hm, hs, ht⟩
    · refine (joined_nil w).mono ?_
      rintro e w3 ⟨rfl, b3⟩
      exact ⟨_, rfl, ⟨none, 0, fun _ => default, rfl, Or.inl ⟨rfl, rfl, rfl⟩, rfl⟩, b3.mono hK⟩
    · exact pos g cap hb hc ⟨⟨(Array.getElem?_eq_some_iff.1 hg).1, fun j hj => absurd hj (Nat.not_lt_zero j)⟩, fun j hj => absurd hj (by simp)⟩
  · obtain ⟨g, c, rfl, hKg, hg, hc, hm, hp⟩ := own_pw h z
    exact pos g c hKg hc hp

set_option maxRecDepth 100000 in
set_option maxHeartbeats 4000000 in
theorem combined_any (p q : Option Addr) (n c m c2 : Nat) (P Q : Nat → Pc) (g : FuncId) (x y : Value) (V : Int → Int × Bool) (w : World) (hA : IsP w p n c P) (hB : IsP w q m c2 Q) (gA : Gd (toL P n)) (gB : Gd (toL Q m)) (hn : n ≤ 1000) (hm : m ≤ 1000)
    (eg : ∀ args w, (callFunc g args).run Try.prog w = .ok (.enter g args) w) (hF : ∀ d W, Below w.heap.size w W → Calls Try.prog g #[.int .i64 d, x, y] W (ClR (V d) W)) :
    Calls Try.prog 41 #[.slice p n c, .slice q m c2, .func (.func g) #[] #[x, y]] w (CombR V (toL P n) (toL Q m) w) := by
  obtain ⟨i0, hi, hz0, hz1, hz2⟩ := info_parts (P := Try.prog) (e := 47) (z := .agg #[.int .i64 0, .int .i64 0, .int .i64 0]) (size := 3) (bytes := 24) (by kernel_rfl)
  have US : Try.prog.underlying 22 = some (.slice 47) := by kernel_rfl
  have EE := Lib.hid (ends_any (fun k => if k = 0 then p else q) (fun k => if k = 0 then n else m) (fun k => if k = 0 then c else c2) (fun k => if k = 0 then P else Q) w hA hB hn hm
    (fun k hk => by have := (ord_of_gd P n gA).sp k hk; exact ⟨⟨this.1, by have := this.2; show (P k).f ≤ 1048576; omega⟩, by show 0 ≤ (P k).u; omega, this.2.2⟩)
    (fun k hk => by have := (ord_of_gd Q m gB).sp k hk; exact ⟨⟨this.1, by have := this.2; show (Q k).f ≤ 1048576; omega⟩, by show 0 ≤ (Q k).u; omega, this.2.2⟩))
  have EE : Hid (Calls Try.prog 53 #[.slice p n c, .slice q m c2] w (EndsR (toL P n) (toL Q m) w)) := EE
  have HF := Lib.hid hF
  have LL := Lib.hid (show (toL P n).length ≤ 1000 ∧ (toL Q m).length ≤ 1000 by rw [toL_length, toL_length]; exact ⟨hn, hm⟩)
  clear hF gA gB hA hB
  generalize toL P n = A at *
  generalize toL Q m = B at *
  go_enter Try.func41, Try.ntmps41
  go_wp2_with (go_at_call 53; refine EE.out.mono ?_; rintro e w1 ⟨v, ds, rfl, hrow, hd, hdl, hnil, hb⟩)
  have HD := Lib.hid hd
  have DL := Lib.hid (show ds.length ≤ 4000 by have := LL.out; omega)
  have DL0 := Lib.hid hdl
  have B1 := Lib.hid hb
  clear hb hd hdl EE LL
  have hval : ∃ a cc, v = .slice a ds.length cc ∧ Hid (0 < ds.length → ∃ gg, a = some ⟨gg, 0, none⟩ ∧ gg < w1.heap.size ∧ ∀ j, j < ds.length → w1.cell? ⟨gg, j, none⟩ = some (.int .i64 (ds.getD j 0))) := by
    rcases Nat.eq_zero_or_pos ds.length with z | z
    · rw [z]
      exact ⟨none, 0, hnil.2 (List.length_eq_zero_iff.1 z), Lib.hid (fun h => absurd h (Nat.lt_irrefl 0))⟩
    · obtain ⟨gg, cc, rfl, _, h1, h2⟩ := row_ints hrow z
      exact ⟨_, cc, rfl, Lib.hid (fun _ => ⟨gg, rfl, h1, h2⟩)⟩
  obtain ⟨a, cc, rfl, HV⟩ := hval
  clear hrow hnil
  have NL : ds.length ≤ 4000 := DL.out
  obtain ⟨D, hD⟩ : ∃ D : Nat → Int, D = fun i => ds.getD i 0 := ⟨_, rfl⟩
  have HV : Hid (0 < ds.length → ∃ gg, a = some ⟨gg, 0, none⟩ ∧ gg < w1.heap.size ∧ ∀ j, j < ds.length → w1.cell? ⟨gg, j, none⟩ = some (.int .i64 (D j))) := by rw [hD]; exact HV
  have HDD := Lib.hid hD
  clear hD
  obtain ⟨l, hl⟩ : ∃ l, l = ds.length := ⟨_, rfl⟩
  rw [← hl] at HV NL ⊢
  have HLL := Lib.hid hl
  clear DL hl
  go_wp2_with fail
  go_loopg [8, 9] l (fun gg s8 s9 wr => ∃ k : Nat, k ≤ l ∧ (k = 0 ∨ k + 1 ≤ l) ∧ l - k ≤ gg ∧ s9 = .int .i64 (k + 1 : Nat) ∧ Aside (wr.ownsRow w1.heap.size 47 3 s8 (segN V D k).length (cellsP (segN V D k))) ∧ Aside (Below w1.heap.size w1 wr))
  case atStart => exact ⟨0, Nat.zero_le _, Or.inl rfl, by omega, rfl, World.ownsRow_nil _ _ _ _, Below.refl _ w1⟩
  case round =>
    obtain ⟨k, hk, hk2, hg, rfl, OW, BW⟩ := hrel
    by_cases hlt : k + 1 < l
    · have hltz : ((k + 1 : Nat) : Int) < (l : Int) := by omega
      have hltz2 : (k : Int) + 1 < (l : Int) := by omega
      have v1 : IntKind.i64.wrap (((k + 1 : Nat) : Int) - 1) = (k : Int) := by rw [show ((k + 1 : Nat) : Int) - 1 = (k : Int) from by omega]; exact IntWalk.i64_in _ ⟨by omega, by omega⟩
      have v2 : IntKind.i64.wrap ((k : Int) + 1 - 1) = (k : Int) := by rw [show (k : Int) + 1 - 1 = (k : Int) from by omega]; exact IntWalk.i64_in _ ⟨by omega, by omega⟩
      have v3 : IntKind.i64.wrap (k : Int) = (k : Int) := IntWalk.i64_in _ ⟨by omega, by omega⟩
      have z0 : (0 : Int) ≤ (k : Int) := by omega
      have z1 : (k : Int) < (l : Int) := by omega
      have z2 : (0 : Int) ≤ (k : Int) + 1 := by omega
      obtain ⟨gd, rfl, hgl, hcl⟩ := HV.out (by omega)
      have c0 := (BW.out.cell (p := ⟨gd, k, none⟩) hgl).trans (hcl k (by omega))
      have HC := Lib.hid (HF.out (D k) wr (B1.out.trans (BW.out.mono B1.out.size)))
      have SL := segN_len V D k
      have SN := Lib.hid (show segN V D (k + 1) = segN V D k ++ (if (V (D k)).2 = true then [⟨D k, D (k + 1), (V (D k)).1⟩] else []) from rfl)
      unfold ClR at HC
      obtain ⟨dk, hdk⟩ : ∃ dk, dk = D k := ⟨_, rfl⟩
      obtain ⟨dn, hdn⟩ : ∃ dn, dn = D (k + 1) := ⟨_, rfl⟩
      have HL := Lib.hid (fun (W : World) (hb : Below w1.heap.size w1 W) => And.intro ((hb.cell (p := ⟨gd, k, none⟩) hgl).trans (hcl k (by omega))) ((hb.cell (p := ⟨gd, k + 1, none⟩) hgl).trans (hcl (k + 1) (by omega))))
      rw [← hdk] at c0 HC SN HL
      rw [← hdn] at SN HL
      clear hdk hdn hcl hgl
      generalize segN V D k = S at *
      obtain ⟨S', hS'⟩ : ∃ S', S' = segN V D (k + 1) := ⟨_, rfl⟩
      rw [← hS'] at SN
      have SE := Lib.hid hS'
      clear hS'
      obtain ⟨b1, hb1⟩ : ∃ b1, b1 = (V dk).2 := ⟨_, rfl⟩
      obtain ⟨a1, ha1⟩ : ∃ a1, a1 = (V dk).1 := ⟨_, rfl⟩
      rw [← hb1, ← ha1] at HC SN
      clear hb1 ha1
      cases b1 with
      | false =>
        rw [if_neg (by decide), List.append_nil] at SN
        go_wp2_with (go_at_fn g; refine HC.out.mono ?_; rintro e w2 ⟨rfl, b2⟩)
        have O2 := Lib.hid (OW.out.kept (row := none) (gb_below b2) (by cases hv : u8.ownBlock <;> simp))
        have W2 := Lib.hid (BW.out.trans (b2.mono BW.out.size))
        clear b2
        go_roundg (l - (k + 1))
        case measure => omega
        case rel => exact ⟨k + 1, by omega, Or.inr (by omega), by omega, by go_num, (show Aside _ from by rw [← SE.out, SN.out]; exact O2.out), W2.out⟩
      | true =>
        rw [if_pos rfl] at SN
        go_upto_region 8 with (go_at_fn g; refine HC.out.mono ?_; rintro e w2 ⟨rfl, b2⟩)
        have O2 := OW.out.kept (row := none) (gb_below b2) (by cases hv : u8.ownBlock <;> simp)
        have W2 := BW.out.trans (b2.mono BW.out.size)
        obtain ⟨l0, l1⟩ := HL.out w2 W2
        have WA := Lib.hid ((W2.drew).alloc W2.size (.cells #[.int .i64 dk, .int .i64 dn, .int .i64 a1] 47))
        have OA := Lib.hid ((World.ownsRow.drew O2).alloc (.cells #[.int .i64 dk, .int .i64 dn, .int .i64 a1] 47))
        have NB := Lib.hid (Box3.new w2.drew ⟨dk, dn, a1⟩ 47)
        have KZ := Lib.hid (show w1.heap.size ≤ (w2.drew.alloc (.cells #[.int .i64 dk, .int .i64 dn, .int .i64 a1] 47)).heap.size from WA.out.size)
        clear b2 OW BW c0 HC HL O2
        have S1 : S.length + 1 ≤ maxLen := by unfold maxLen; omega
        have S2 : (S.length + 1) * 24 ≤ 140737488355328 := by omega
        have S1 := Lib.hid S1
        have S2 := Lib.hid S2
        go_region_law (refine step_append_own rfl (.tmp 32) (.tmp 45) 22 rfl w1.heap.size 47 i0 (.agg #[.int .i64 0, .int .i64 0, .int .i64 0]) 3 24 US hi hz0 hz1 hz2 rfl (by decide) u8 S.length (cellsP S) (by simp [Act.eval]) OA.out ⟨w2.heap.size, 0, none⟩ 1 1 (cellsP [⟨dk, dn, a1⟩]) (by simp [Act.eval]) rfl (news3 NB.out) (cellsP_one _) S1.out S2.out KZ.out ?_; intro v5 w5 own5 g5)
        all_goals
          have O5 : w5.ownsRow w1.heap.size 47 3 v5 S'.length (cellsP S') := by rw [SN.out, cellsP_append, List.length_append]; exact own5
          have O5 := Lib.hid O5
          have W5 := Lib.hid (WA.out.grown g5 WA.out.size (own_base OA.out))
          clear own5 g5 l0 l1 WA OA NB KZ S1 S2
          go_wp2_with fail
          go_roundg (l - (k + 1))
          case measure => omega
          case rel => exact ⟨k + 1, by omega, Or.inr (by omega), by omega, by go_num, (show Aside _ from by rw [← SE.out]; exact O5.out), W5.out⟩
    · have hltz : ¬ ((k + 1 : Nat) : Int) < (l : Int) := by omega
      have hltz2 : ¬ (k : Int) + 1 < (l : Int) := by omega
      have SL := segN_len V D k
      have JO := Lib.hid (joined_own w1.heap.size _ _ wr BW.out.size (by omega) OW.out)
      have ek : k = l - 1 := by omega
      have EK := Lib.hid (show segN V D k = segN V D (ds.length - 1) by rw [ek, HLL.out])
      have W3 := Lib.hid BW.out
      clear SL ek OW BW HV
      go_wp2_with fail
      refine JO.out.mono ?_; rintro e w3 ⟨v3, rfl, hl3, b3⟩
      have BF := Lib.hid (B1.out.trans ((W3.out.trans b3).mono B1.out.size))
      have LF := Lib.hid hl3
      clear hl3 b3 JO
      go_wp2_with fail
      go_ret
      exact ⟨ds, v3, HD.out, DL0.out, rfl, by rw [← HDD.out, ← EK.out]; exact LF.out, BF.out⟩
end Go.Proofs.Ytekigilhmdphnaa
