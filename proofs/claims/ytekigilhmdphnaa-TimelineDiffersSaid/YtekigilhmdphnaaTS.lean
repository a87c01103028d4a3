/- slices.Insert, slices.Replace in the middle: the row grows. -/
import Derived.Test.YtekigilhmdphnaaTR
import Derived.StillTailTactics
namespace Go.Proofs.Ytekigilhmdphnaa
open Go.RowKit Go.Shelf

theorem lay_take2 {b v : List Value} {o : Nat} (h : o ≤ b.length) : (lay b o v).take (o + v.length) = b.take o ++ v := by
  unfold lay
  exact List.take_left' (by simp; omega)
theorem lay_lay {b v1 v2 : List Value} {o : Nat} (h : o + v1.length + v2.length ≤ b.length) : (lay (lay b o v1) (o + v1.length) v2).take (o + v1.length + v2.length) = b.take o ++ v1 ++ v2 := by
  have l1 := lay_length (cs := b) (o := o) (vs := v1) (by omega)
  rw [lay_take2 (by omega), lay_take2 (by omega)]
/-- The cells of the row that is made. -/
def grown (cs : List Value) (i k r : Nat) : List Value := cs.take (i * 3) ++ z3 k ++ z3 r
theorem grown_length {cs : List Value} {i k r n : Nat} (hcs : cs.length = n * 3) (hi : i ≤ n) : (grown cs i k r).length = (i + k + r) * 3 := by
  unfold grown; simp [z3_len]; omega
theorem Rw.drew {w : World} {g : Nat} {cs : List Value} (h : Rw w g cs) : Rw w.drew g cs := h.same rfl (Nat.le_refl _)
theorem Rw.alloc {w : World} {g : Nat} {cs : List Value} (h : Rw w g cs) (b : Obj) : Rw (w.alloc b) g cs := h.below ((Below.refl _ w).alloc (Nat.le_refl _) b)
theorem Rw.other {w : World} {g g' o : Nat} {cs vs : List Value} (h : Rw w g cs) (hg : g ≠ g') : Rw (w.setCells g' o vs) g cs := by
  have h2 := below_setCells (B := g') (Nat.le_refl _) vs o (Below.refl g' w)
  refine h.same ?_ h2.size
  clear h h2
  induction vs generalizing o w with
  | nil => rfl
  | cons v r ih => rw [World.setCells, ih, World.setCell, Array.getElem?_modify, if_neg (Ne.symm hg)]

/-- What is known of the worlds in which a row is made and filled. -/
structure Gf (w : World) (g gv i j m n K G : Nat) (cs news : List Value) (W1 : World) : Prop where
  eq : W1 = w.drew.alloc (.cells ((cs.take (i * 3)).toArray ++ Builtin.zeroCells (Value.agg #[.int .i64 0, .int .i64 0, .int .i64 0]).cells (m + (n - j)) ++ Builtin.zeroCells (Value.agg #[.int .i64 0, .int .i64 0, .int .i64 0]).cells (G - (i + (m + (n - j))))) 47)
  lo : (cs.take (i * 3)).length = i * 3
  olds : ∀ j v, (cs.take (i * 3))[j]? = some v → w.cell? ((⟨g, 0, none⟩ : Addr).add j) = some v
  n1 : ∀ j u, news[j]? = some u → W1.cell? ((⟨gv, 0, none⟩ : Addr).add j) = some u
  t1 : W1.there w.heap.size (i * 3) news.length
  ld : (cs.drop (j * 3)).length = (n - j) * 3
  fill : ∀ V, V.heap = (W1.setCells w.heap.size (i * 3) news).heap → Below K w V → (∀ k v, (cs.drop (j * 3))[k]? = some v → V.cell? ((⟨g, j * 3, none⟩ : Addr).add k) = some v) ∧ V.there w.heap.size ((i + m) * 3) (cs.drop (j * 3)).length ∧
    (V.setCells w.heap.size ((i + m) * 3) (cs.drop (j * 3))).ownsRow K 47 3 (.slice (some ⟨w.heap.size, 0, none⟩) (i + (m + (n - j))) G) (i + (m + (n - j))) (cs.take (i * 3) ++ news ++ cs.drop (j * 3)) ∧ Below K w (V.setCells w.heap.size ((i + m) * 3) (cs.drop (j * 3)))
  below : Below K w (W1.setCells w.heap.size (i * 3) news)
theorem Gf.new (g gv n i j m K : Nat) (cs news : List Value) (w : World) (hK : K ≤ g) (hn : n ≤ 100000) (hij : i ≤ j) (hj : j ≤ n) (hm1 : m ≤ 1000) (hcs : cs.length = n * 3) (hl : news.length = m * 3) (hR : Rw w g cs) (hgv : gv < w.heap.size)
    (hnews : ∀ j u, news[j]? = some u → w.cell? ((⟨gv, 0, none⟩ : Addr).add j) = some u) :
    ∃ W1, Gf w g gv i j m n K (grownCap w (i + (m + (n - j))) n 47) cs news W1 := by
  have hgw := hR.lt
  have hgl := grownCap_le_maxLen w (i + (m + (n - j))) n 47 (by unfold maxLen; omega)
  have hgg := grownCap_ge w (i + (m + (n - j))) n 47
  generalize grownCap w (i + (m + (n - j))) n 47 = G at *
  obtain ⟨T, hT⟩ : ∃ T, T = m + (n - j) := ⟨_, rfl⟩
  obtain ⟨W1, hW1⟩ : ∃ W1, W1 = w.drew.alloc (.cells ((cs.take (i * 3)).toArray ++ Builtin.zeroCells (Value.agg #[.int .i64 0, .int .i64 0, .int .i64 0]).cells (m + (n - j)) ++ Builtin.zeroCells (Value.agg #[.int .i64 0, .int .i64 0, .int .i64 0]).cells (G - (i + (m + (n - j))))) 47) := ⟨_, rfl⟩
  have gl := grown_length (k := T) (r := G - (i + T)) hcs (Nat.le_trans hij hj)
  have gl2 : i + T + (G - (i + T)) = G := by omega
  rw [gl2] at gl
  have R1 : Rw W1 w.heap.size (grown cs i T (G - (i + T))) := Rw.mk' (by
    rw [hW1]
    have : (World.heap (w.drew.alloc (.cells ((cs.take (i * 3)).toArray ++ Builtin.zeroCells (Value.agg #[.int .i64 0, .int .i64 0, .int .i64 0]).cells (m + (n - j)) ++ Builtin.zeroCells (Value.agg #[.int .i64 0, .int .i64 0, .int .i64 0]).cells (G - (i + (m + (n - j))))) 47)))[w.heap.size]? = _ := heap_alloc_new w.drew _
    rw [this]
    congr 2
    apply Array.ext'
    simp only [Array.toList_append, zc, grown, hT])
  have B1 : Below w.heap.size w W1 := by rw [hW1]; exact (Below.refl _ w).drew.alloc (Nat.le_refl _) _
  have G1 := (hR.below B1)
  have N1 : ∀ j u, news[j]? = some u → W1.cell? ((⟨gv, 0, none⟩ : Addr).add j) = some u := fun j u hj => by
    have := hnews j u hj
    rw [Addr.add_lit] at this ⊢
    exact (B1.cell (p := ⟨gv, 0 + j, none⟩) hgv).trans this
  have R2 := R1.lay (i * 3) news (by omega)
  have l2 := lay_length (cs := grown cs i T (G - (i + T))) (o := i * 3) (vs := news) (by omega)
  have G2 := G1.other (o := i * 3) (vs := news) (Nat.ne_of_lt hgw)
  have ld : (cs.drop (j * 3)).length = (n - j) * 3 := by rw [List.length_drop]; omega
  have l3 := lay_length (cs := lay (grown cs i T (G - (i + T))) (i * 3) news) (o := (i + m) * 3) (vs := cs.drop (j * 3)) (by omega)
  have E3 : (lay (lay (grown cs i T (G - (i + T))) (i * 3) news) ((i + m) * 3) (cs.drop (j * 3))).take ((i + T) * 3) = cs.take (i * 3) ++ news ++ cs.drop (j * 3) := by
    have := lay_lay (b := grown cs i T (G - (i + T))) (v1 := news) (v2 := cs.drop (j * 3)) (o := i * 3) (by omega)
    rw [show i * 3 + news.length = (i + m) * 3 from by omega, show (i + m) * 3 + (cs.drop (j * 3)).length = (i + T) * 3 from by omega] at this
    rw [this]
    unfold grown
    rw [List.append_assoc (cs.take (i * 3)), List.take_append_of_le_length (by simp; omega), List.take_take, Nat.min_self]
  have K1 : K ≤ w.heap.size := Nat.le_trans hK (Nat.le_of_lt hgw)
  refine ⟨W1, hW1, by rw [List.length_take]; omega, (fun j v hj => by
    rw [Addr.add_lit, Nat.zero_add]
    rw [List.getElem?_take] at hj
    split at hj
    · exact hR.cell _ _ hj
    · cases hj), N1, there_of R1 (i * 3) _ (by omega), ld, (fun V hV bV => ?_), (below_setCells (Nat.le_refl w.heap.size) news (i * 3) B1).mono K1⟩
  have RV : Rw V w.heap.size _ := R2.same (by rw [hV]) (by rw [hV]; exact Nat.le_refl _)
  have GV : Rw V g cs := G2.same (by rw [hV]) (by rw [hV]; exact Nat.le_refl _)
  have O3 := (RV.lay ((i + m) * 3) (cs.drop (j * 3)) (by omega)).owns (K := K) (n := G) K1 (by rw [l3, l2, gl]) hgl (i + T) (by omega)
  rw [E3, hT] at O3
  exact ⟨fun k v hk => by
    rw [Addr.add_lit]
    rw [List.getElem?_drop] at hk
    exact GV.cell _ _ hk, there_of RV ((i + m) * 3) _ (by omega), O3, below_setCells K1 (cs.drop (j * 3)) ((i + m) * 3) bV⟩

/-- append of make, where the length, the room and the world have letters. -/
theorem wpList_append_make' {P : Program} {w : World} {ops : Array Oper} {rest : List Oper} {o : Oper} {a : Act} {Q : Exit → Act → World → Prop} (hgd : o.guard = none) (s x : Operand) (t ti : TypeId)
    (ho : o.op = .call { callee := .builtin .append, args := #[s, x], argTypes := #[t, ti] })
    (e : TypeId) (i : TypeInfo) (z : Value) (ki : IntKind) (ht : P.underlying t = some (.slice e)) (hti : P.underlying ti = some (.int ki)) (hi : P.info? e = some i) (hz : i.zero = some z)
    (b : Addr) (sLen sCap : Nat) (olds : List Value) (hs : a.eval s = .slice (some b) sLen sCap) (hlo : olds.length = sLen * i.size) (holds : ∀ j v, olds[j]? = some v → w.cell? (b.add j) = some v)
    (n : Nat) (hx : a.eval x = .int .i64 (n : Int)) (hn0 : 0 < n) (hs0 : 0 < i.size) (hg : sCap < sLen + n) (hsmall : sLen + n ≤ 1099511627776) (hby : i.bytes ≤ 100)
    (T G : Nat) (W1 : World) (hT : T = sLen + n) (hG : G = grownCap w (sLen + n) sCap e) (hW : W1 = w.drew.alloc (.cells (olds.toArray ++ Builtin.zeroCells z.cells n ++ Builtin.zeroCells z.cells (G - (sLen + n))) e))
    (hK : wpList P ops Q rest (a.put o.dst (.slice (some ⟨w.heap.size, 0, none⟩) T G)) W1) : wpList P ops Q (o :: rest) a w := by
  subst hT hG hW
  exact wpList_append_make hgd s x t ti ho e i z ki ht hti hi hz b sLen sCap olds hs hlo holds n hx hn0 hs0 hg hsmall hby hK

/-- A copy, where its count has a letter. -/
theorem wpList_copy_wide' {P : Program} {w : World} {ops : Array Oper} {rest : List Oper} {o : Oper} {a : Act} {Q : Exit → Act → World → Prop} (hgd : o.guard = none) (d s : Operand) (dT sT : TypeId)
    (ho : o.op = .call { callee := .builtin .copy, args := #[d, s], argTypes := #[dT, sT] }) (elem : TypeId) (size : Nat) (hu : P.underlying dT = some (.slice elem)) (hsz : (P.info? elem).map (·.size) = some size)
    (b off dLen dCap : Nat) (ad : Addr) (sLen sCap : Nat) (hd : a.eval d = .slice (some ⟨b, off, none⟩) dLen dCap) (hs : a.eval s = .slice (some ad) sLen sCap) (cs : List Value) (k : Nat) (hk : k = Nat.min sLen dLen) (hn : cs.length = k * size)
    (hsrc : ∀ j v, cs[j]? = some v → w.cell? (ad.add j) = some v) (ht : w.there b off cs.length) (h1 : ∀ v ∈ cs, v.oneCell' = true)
    (h : wpList P ops Q rest (a.put o.dst (.int .i64 (k : Int))) (w.setCells b off cs)) : wpList P ops Q (o :: rest) a w := by
  subst hk
  exact wpList_copy_wide hgd d s dT sT ho elem size hu hsz b off dLen dCap ad sLen sCap hd hs cs hn hsrc ht h1 h

set_option maxRecDepth 100000 in
set_option maxHeartbeats 4000000 in
theorem Insert_mid (g gv cv n i m K : Nat) (cs news : List Value) (w : World) (hK : K ≤ g) (hn : n ≤ 100000) (hi : i < n) (hm : 0 < m) (hm1 : m ≤ 1000) (hcs : cs.length = n * 3) (hl : news.length = m * 3) (hR : Rw w g cs) (hgv : gv < w.heap.size)
    (hnews : ∀ j u, news[j]? = some u → w.cell? ((⟨gv, 0, none⟩ : Addr).add j) = some u) (h1 : ∀ u ∈ news, u.oneCell' = true) (h2 : ∀ u ∈ cs, u.oneCell' = true) :
    Calls Try.prog 55 #[.slice (some ⟨g, 0, none⟩) n n, .int .i64 i, .slice (some ⟨gv, 0, none⟩) m cv] w fun e w' => ∃ v, e = .returned v ∧ w'.ownsRow K 47 3 v (i + (m + (n - i))) (cs.take (i * 3) ++ news ++ cs.drop (i * 3)) ∧ Below K w w' := by
  obtain ⟨i0, hi0, hz0, hz1, hz2⟩ := info_parts (P := Try.prog) (e := 47) (z := .agg #[.int .i64 0, .int .i64 0, .int .i64 0]) (size := 3) (bytes := 24) (by kernel_rfl)
  have US : Try.prog.underlying 22 = some (.slice 47) := by kernel_rfl
  have a0 : (0 : Int) ≤ (i : Int) := by omega
  have a1 : (i : Int) ≤ (n : Int) := by omega
  have a2 : ((i : Int) == (n : Int)) = false := by simp; omega
  have a4 : ((m : Int) == 0) = false := by simp; omega
  have a5 : (n : Int) < (n : Int) + (m : Int) := by omega
  have a6 : (n : Int) + (m : Int) - (i : Int) = ((m + (n - i) : Nat) : Int) := by omega
  obtain ⟨W1, F0⟩ := Gf.new g gv n i i m K cs news w hK hn (Nat.le_refl _) (Nat.le_of_lt hi) hm1 hcs hl hR hgv hnews
  have F := Lib.hid F0
  have HL := Lib.hid hl
  obtain ⟨T, hT⟩ : ∃ T, T = i + (m + (n - i)) := ⟨_, rfl⟩
  obtain ⟨G, hG⟩ : ∃ G, G = grownCap w (i + (m + (n - i))) n 47 := ⟨_, rfl⟩
  have gg := grownCap_ge w (i + (m + (n - i))) n 47
  rw [← hG, ← hT] at gg
  have g1 : i < G := by omega
  have g3 : (i : Int) ≤ (T : Int) := by omega
  have g4 : (i : Int) + (m : Int) ≤ (T : Int) := by omega
  have g5 : (i : Int) + (m : Int) < (G : Int) := by omega
  have q1 : (0 : Int) ≤ (i : Int) + (m : Int) := by omega
  have q3 : ((i : Int) + (m : Int)).toNat = i + m := by omega
  have q4 : IntKind.i64.wrap ((i : Int) + (m : Int)) = (i : Int) + (m : Int) := IntWalk.i64_in _ ⟨by omega, by omega⟩
  have e1 : ¬ G = i + m := by omega
  have e2 : ¬ n = i := by omega
  have HG := Lib.hid hG
  have HT := Lib.hid hT
  have H2 : Hid (∀ u ∈ cs.drop (i * 3), u.oneCell' = true) := Lib.hid (fun u hu => h2 u (List.mem_of_mem_drop hu))
  clear hR hnews hl hcs h2 hgv F0 hG hT
  go_enter Try.func55, Try.ntmps55
  go_wp2_with (first
    | (at_builtin; refine wpList_append_make' rfl _ _ 22 3 rfl 47 i0 (.agg #[.int .i64 0, .int .i64 0, .int .i64 0]) .i64 US (by kernel_rfl) hi0 hz0 ⟨g, 0, none⟩ i n (cs.take (i * 3)) rfl (by rw [hz1]; exact F.out.lo) F.out.olds (m + (n - i)) rfl (by omega) (by rw [hz1]; decide) (by omega) (by omega) (by rw [hz2]; decide) T G W1 HT.out HG.out (by rw [HG.out]; exact F.out.eq) ?_)
    | (refine wpList_copy_wide' rfl (.tmp 43) (.tmp 44) 22 22 rfl 47 3 US (by kernel_rfl) w.heap.size (i * 3) (T - i) _ ⟨gv, 0, none⟩ m cv rfl rfl news m (Nat.min_eq_left (by have := HT.out; omega)).symm HL.out F.out.n1 F.out.t1 h1 ?_)
    )
  go_still_tail 8, (by kernel_rfl)
  change wpList _ _ _ _ _ (W1.setCells w.heap.size (i * 3) news).drew
  obtain ⟨s2, t2, O, B⟩ := F.out.fill (W1.setCells w.heap.size (i * 3) news).drew rfl F.out.below.drew
  have S2 := Lib.hid s2
  have T2 := Lib.hid t2
  have O := Lib.hid O
  have B := Lib.hid B
  clear s2 t2
  generalize (W1.setCells w.heap.size (i * 3) news).drew = W2 at *
  refine wpList_copy_wide' rfl (.tmp 50) (.tmp 53) 22 22 rfl 47 3 US (by kernel_rfl) w.heap.size ((i + m) * 3) (T - (i + m)) _ ⟨g, i * 3, none⟩ (n - i) (n - i) rfl rfl (cs.drop (i * 3)) (n - i) (Nat.min_eq_left (by have := HT.out; omega)).symm F.out.ld S2.out T2.out H2.out ?_
  go_wp2_with fail
  rw [← HG.out, ← HT.out] at O
  go_ret
  rw [← HT.out]
  exact ⟨_, rfl, O.out, B.out⟩
end Go.Proofs.Ytekigilhmdphnaa
