/- What Set and Clear give: in order, and on each day the right value. -/
import Derived.Test.YtekigilhmdphnaaUD
namespace Go.Proofs.Ytekigilhmdphnaa
open Go.RowKit Go.Shelf

theorem putL_len (acc : List Pc) (p : Pc) : (putL acc p).length ≤ acc.length + 1 := by
  rcases nil_or_snoc acc with rfl | ⟨M, q, rfl⟩
  · exact Nat.le_refl _
  · rw [putL_snoc]
    split <;> simp
theorem fold_len : ∀ (L acc : List Pc), (L.foldl putL acc).length ≤ acc.length + L.length
  | [], acc => by simp
  | p :: L, acc => by
    have := fold_len L (putL acc p)
    have := putL_len acc p
    rw [List.foldl_cons, List.length_cons]; omega
theorem repL_len (P : Nat → Pc) (n r s : Nat) (f u : Int) (wl : List Pc) (hr : r ≤ n) (hrs : r ≤ s) (hw : wl.length ≤ 1) : (repL P n r s f u wl).length ≤ n + 3 := by
  have rl0 := repL_length P n r s f u wl hr
  have l1 : (leftL P r s f).length ≤ 1 := by unfold leftL; split <;> simp
  have l2 : (rightL P r s u).length ≤ 1 := by unfold rightL; split <;> simp
  rw [List.length_append, List.length_append] at rl0
  omega

/-- A list in order with a value on a span, or none. -/
def SetF (P : Nat → Pc) (n : Nat) (f u : Int) (wl L : List Pc) : Prop := Gd L ∧ ∀ d v, hv L d v ↔ hv wl d v ∨ (hv (toL P n) d v ∧ ¬ (f ≤ d ∧ d < u))
/-- What a change that is no error returns. -/
def GoodR (P : Nat → Pc) (n : Nat) (f u : Int) (wl : List Pc) (w : World) (e : Ending) (w' : World) : Prop :=
  ∃ q m c Q, e = .returned (.tuple #[.slice q m c, .int .i64 0]) ∧ m ≤ n + 3 ∧ IsP w' q m c Q ∧ SetF P n f u wl (toL Q m) ∧ Below w.heap.size w w'

theorem Set_good (p : Option Addr) (n c : Nat) (P : Nat → Pc) (f u x : Int) (w : World) (h : IsP w p n c P) (hk : chV P n f u = 0) (hn : n ≤ 1000) :
    Calls Try.prog 20 #[.slice p n c, .agg #[.int .i64 f, .int .i64 u], .int .i64 x] w (GoodR P n f u [⟨f, u, x⟩] w) :=
  (Set_any p n c P f u x w h).mono fun e w' ⟨⟨r, s, he, hc⟩, hb⟩ => by
    have he := he hk
    obtain ⟨_, hg, hd⟩ := chV_zero hk
    have ho := ord_of_gd P n hg
    obtain ⟨a, b⟩ := rep_set x he ho hd
    obtain ⟨g1, g2⟩ := joinL_good a b
    have ll : (joinL (repL P n r s f u [⟨f, u, x⟩])).length ≤ n + 3 := Nat.le_trans (fold_len _ []) (by rw [List.length_nil, Nat.zero_add]; exact repL_len P n r s f u _ (Nat.le_trans he.1 he.2.1) he.1 (Nat.le_refl 1))
    unfold ChR at hc
    rw [if_pos hk, if_neg (by omega)] at hc
    obtain ⟨v, rfl, q, c2, Q, rfl, hQ, eQ⟩ := hc
    exact ⟨q, _, c2, Q, rfl, ll, hQ, ⟨by rw [eQ]; exact g1, fun d v => by rw [eQ, g2, rep_hv _ he ho]⟩, hb⟩
theorem Clear_good (p : Option Addr) (n c : Nat) (P : Nat → Pc) (f u : Int) (w : World) (h : IsP w p n c P) (hk : chV P n f u = 0) (hn : n ≤ 1000) :
    Calls Try.prog 22 #[.slice p n c, .agg #[.int .i64 f, .int .i64 u]] w (GoodR P n f u [] w) :=
  (Clear_any p n c P f u w h).mono fun e w' ⟨⟨r, s, he, hc⟩, hb⟩ => by
    have he := he hk
    obtain ⟨_, hg, hd⟩ := chV_zero hk
    have ho := ord_of_gd P n hg
    have g1 := rep_clear he ho hd
    have ll := repL_len P n r s f u [] (Nat.le_trans he.1 he.2.1) he.1 (Nat.zero_le 1)
    unfold ChR at hc
    rw [if_pos hk, if_neg (show ¬ 1024 < (repL P n r s f u []).length by omega)] at hc
    obtain ⟨v, rfl, q, c2, Q, rfl, hQ, eQ⟩ := hc
    exact ⟨q, _, c2, Q, rfl, ll, hQ, ⟨by rw [eQ]; exact g1, fun d v => by rw [eQ, rep_hv _ he ho]⟩, hb⟩
theorem Set_bad (p : Option Addr) (n c : Nat) (P : Nat → Pc) (f u x : Int) (w : World) (h : IsP w p n c P) (hk : chV P n f u ≠ 0) :
    Calls Try.prog 20 #[.slice p n c, .agg #[.int .i64 f, .int .i64 u], .int .i64 x] w fun e w' => e = .returned (.tuple #[.slice none 0 0, .int .i64 (chV P n f u)]) ∧ Below w.heap.size w w' :=
  (Set_any p n c P f u x w h).mono fun e w' ⟨⟨r, s, he, hc⟩, hb⟩ => by
    unfold ChR at hc
    rw [if_neg hk] at hc
    exact ⟨hc, hb⟩
theorem Clear_bad (p : Option Addr) (n c : Nat) (P : Nat → Pc) (f u : Int) (w : World) (h : IsP w p n c P) (hk : chV P n f u ≠ 0) :
    Calls Try.prog 22 #[.slice p n c, .agg #[.int .i64 f, .int .i64 u]] w fun e w' => e = .returned (.tuple #[.slice none 0 0, .int .i64 (chV P n f u)]) ∧ Below w.heap.size w w' :=
  (Clear_any p n c P f u w h).mono fun e w' ⟨⟨r, s, he, hc⟩, hb⟩ => by
    unfold ChR at hc
    rw [if_neg hk] at hc
    exact ⟨hc, hb⟩

/-- What At gives for a list. -/
def AtV (L : List Pc) (d x : Int) (y : Bool) : Prop := (y = true ∧ hv L d x) ∨ (y = false ∧ x = 0 ∧ ∀ v, ¬ hv L d v)
theorem AtR.val {P : Nat → Pc} {n : Nat} {d : Int} {w w' : World} {e : Ending} (h : AtR P n d w e w') : ∃ x y, e = .returned (.tuple #[.int .i64 x, .bool y]) ∧ AtV (toL P n) d x y ∧ Below w.heap.size w w' := by
  obtain ⟨⟨k, hk, hb, _, he⟩ | ⟨hb, he⟩, hw⟩ := h
  · exact ⟨_, _, he, Or.inl ⟨rfl, P k, mem_toL.2 ⟨k, hk, rfl⟩, hb, rfl⟩, hw⟩
  · refine ⟨_, _, he, Or.inr ⟨rfl, rfl, fun v ⟨q, hq, hb', _⟩ => ?_⟩, hw⟩
    obtain ⟨k, hk, rfl⟩ := mem_toL.1 hq
    exact absurd hb' (by rw [hb k hk]; decide)
theorem Gd.le {L : List Pc} (h : Gd L) : L.Pairwise le2 := h.2.imp fun h => h.le
theorem AtV.same {L M : List Pc} {d x x' : Int} {y y' : Bool} (h : AtV L d x y) (h' : AtV M d x' y') (e : ∀ v, hv L d v ↔ hv M d v) (g : Gd M) : x = x' ∧ y = y' := by
  rcases h with ⟨rfl, a⟩ | ⟨rfl, rfl, a⟩ <;> rcases h' with ⟨rfl, b⟩ | ⟨rfl, rfl, b⟩
  · exact ⟨hv_one_value g.1 g.le ((e x).1 a) b, rfl⟩
  · exact absurd ((e x).1 a) (b x)
  · exact absurd ((e x').2 b) (a x')
  · exact ⟨rfl, rfl⟩
theorem AtV.set {L : List Pc} {d x v : Int} {y : Bool} (h : AtV L d x y) (g : Gd L) (e : hv L d v) : x = v ∧ y = true := by
  rcases h with ⟨rfl, a⟩ | ⟨rfl, rfl, a⟩
  · exact ⟨hv_one_value g.1 g.le a e, rfl⟩
  · exact absurd e (a v)
theorem AtV.none {L : List Pc} {d x : Int} {y : Bool} (h : AtV L d x y) (e : ∀ v, ¬ hv L d v) : x = 0 ∧ y = false := by
  rcases h with ⟨rfl, a⟩ | ⟨rfl, rfl, a⟩
  · exact absurd a (e x)
  · exact ⟨rfl, rfl⟩
theorem At_val (p : Option Addr) (n c : Nat) (P : Nat → Pc) (d : Int) (w : World) (h : IsP w p n c P) :
    Calls Try.prog 12 #[.slice p n c, .int .i64 d] w fun e w' => ∃ x y, e = .returned (.tuple #[.int .i64 x, .bool y]) ∧ AtV (toL P n) d x y ∧ Below w.heap.size w w' := (At_is p n c P d w h).mono fun _ _ h => h.val
theorem ck_of_gd {Q : Nat → Pc} {m : Nat} (h : Gd (toL Q m)) (hm : m ≤ 1024) : ckV Q m = 0 := by
  unfold ckV; rw [if_neg (by omega)]; exact (ck_gd Q m).2 h
theorem Check_good (p : Option Addr) (n c : Nat) (P : Nat → Pc) (w : World) (h : IsP w p n c P) (hg : Gd (toL P n)) (hn : n ≤ 1024) :
    Calls Try.prog 16 #[.slice p n c] w fun e w' => e = .returned (.int .i64 0) ∧ Below w.heap.size w w' :=
  (Check_any p n c P w h).mono fun _ _ ⟨h1, h2⟩ => ⟨by rw [h1, ck_of_gd hg hn], h2⟩

/-- A span in memory. -/
def Bs (w : World) (B : Nat) (f u : Int) : Prop := B < w.heap.size ∧ w.cell? ⟨B, 0, none⟩ = some (.int .i64 f) ∧ w.cell? ⟨B, 1, none⟩ = some (.int .i64 u)
theorem Bs.below {w w' : World} {B : Nat} {f u : Int} (h : Bs w B f u) (hb : Below w.heap.size w w') : Bs w' B f u :=
  ⟨Nat.lt_of_lt_of_le h.1 hb.size, (hb.cell (p := ⟨B, 0, none⟩) h.1).trans h.2.1, (hb.cell (p := ⟨B, 1, none⟩) h.1).trans h.2.2⟩
theorem Bs.new (w : World) (f u : Int) (t : TypeId) : Bs (w.alloc (.cells #[.int .i64 f, .int .i64 u] t)) w.heap.size f u := ⟨by simp, by simp, by simp⟩

set_option maxRecDepth 10000 in
set_option maxHeartbeats 4000000 in
theorem law_keeps (p : Option Addr) (n c : Nat) (P : Nat → Pc) (f u x d : Int) (w : World) (hP : IsP w p n c P) :
    Calls Try.prog 6 #[.slice p n c, .agg #[.int .i64 f, .int .i64 u], .int .i64 x, .int .i64 d] w fun e w' => e = .returned (.bool true) ∧ Below w.heap.size w w' := by
  have al := (Below.refl w.heap.size w).alloc (Nat.le_refl _) (.cells #[.int .i64 f, .int .i64 u] 33)
  have HP := Lib.hid (hP.below al)
  have HB := Lib.hid (Bs.new w f u 33)
  have AL := Lib.hid al
  have hl := hP.le
  clear hP al
  go_enter Try.func6, Try.ntmps6
  go_wp2_with fail
  generalize w.alloc (.cells #[.int .i64 f, .int .i64 u] 33) = w0 at *
  refine (awake_any w0).mono ?_; rintro e w1 ⟨rfl, b1⟩
  have P1 := Lib.hid (HP.out.below b1)
  have S1 := Lib.hid (HB.out.below b1)
  have B1 := Lib.hid (AL.out.trans (b1.mono AL.out.size))
  clear b1 HP HB AL
  by_cases hn : n ≤ 40
  · have hn' : ¬ (40 : Int) < (n : Int) := by omega
    by_cases hk : chV P n f u = 0
    · have SG := Lib.hid (Set_good p n c P f u x w1 P1.out hk (by omega))
      have KK := Lib.hid (chV_zero hk)
      obtain ⟨_, d0, d1⟩ := S1.out
      have hk := Lib.hid hk
      go_wp2_with fail
      refine SG.out.mono ?_; rintro e w2 ⟨qa, ma, ca, QA, rfl, ha, pa, sa, b2⟩
      have P2 := Lib.hid (P1.out.below b2)
      have S2 := Lib.hid (S1.out.below b2)
      have B2 := Lib.hid (B1.out.trans (b2.mono B1.out.size))
      have PA := Lib.hid pa
      have SA := Lib.hid sa
      have HA := Lib.hid ha
      clear SG b2 pa sa ha d0 d1 P1 S1 B1
      have CG := Lib.hid (Clear_good p n c P f u w2 P2.out hk.out (by omega))
      obtain ⟨_, d0, d1⟩ := S2.out
      go_wp2_with fail
      refine CG.out.mono ?_; rintro e w3 ⟨qb, mb, cb, QB, rfl, hb, pb, sb, b3⟩
      have P3 := Lib.hid (P2.out.below b3)
      have S3 := Lib.hid (S2.out.below b3)
      have B3 := Lib.hid (B2.out.trans (b3.mono B2.out.size))
      have PA3 := Lib.hid (PA.out.below b3)
      have PB := Lib.hid pb
      have SB := Lib.hid sb
      have HB := Lib.hid hb
      clear CG b3 pb sb hb d0 d1 P2 S2 B2 PA
      have A1 := Lib.hid (At_val p n c P d w3 P3.out)
      go_wp2_with fail
      refine A1.out.mono ?_; rintro e w4 ⟨x1, y1, rfl, v1, b4⟩
      have PA4 := Lib.hid (PA3.out.below b4)
      have PB4 := Lib.hid (PB.out.below b4)
      have S4 := Lib.hid (S3.out.below b4)
      have B4 := Lib.hid (B3.out.trans (b4.mono B3.out.size))
      have V1 := Lib.hid v1
      clear A1 b4 v1 PA3 PB S3 B3 P3
      have A1 := Lib.hid (At_val qa ma ca QA d w4 PA4.out)
      go_wp2_with fail
      refine A1.out.mono ?_; rintro e w5 ⟨x2, y2, rfl, v2, b5⟩
      have PA5 := Lib.hid (PA4.out.below b5)
      have PB5 := Lib.hid (PB4.out.below b5)
      have S5 := Lib.hid (S4.out.below b5)
      have B5 := Lib.hid (B4.out.trans (b5.mono B4.out.size))
      have V2 := Lib.hid v2
      clear A1 b5 v2 PA4 PB4 S4 B4
      have A1 := Lib.hid (At_val qb mb cb QB d w5 PB5.out)
      go_wp2_with fail
      refine A1.out.mono ?_; rintro e w6 ⟨x3, y3, rfl, v3, b6⟩
      have PA6 := Lib.hid (PA5.out.below b6)
      have PB6 := Lib.hid (PB5.out.below b6)
      have S6 := Lib.hid (S5.out.below b6)
      have B6 := Lib.hid (B5.out.trans (b6.mono B5.out.size))
      have V3 := Lib.hid v3
      clear A1 b6 v3 PA5 PB5 S5 B5
      go_wp2_with fail
      refine (Check_good qa ma ca QA w6 PA6.out SA.out.1 (by have := HA.out; omega)).mono ?_; rintro e w7 ⟨rfl, b7⟩
      have PB7 := Lib.hid (PB6.out.below b7)
      have S7 := Lib.hid (S6.out.below b7)
      have B7 := Lib.hid (B6.out.trans (b7.mono B6.out.size))
      clear b7 PA6 PB6 S6 B6
      go_wp2_with fail
      refine (Check_good qb mb cb QB w7 PB7.out SB.out.1 (by have := HB.out; omega)).mono ?_; rintro e w8 ⟨rfl, b8⟩
      have S8 := Lib.hid (S7.out.below b8)
      have B8 := Lib.hid (B7.out.trans (b8.mono B7.out.size))
      clear b8 PB7 S7 B7
      obtain ⟨_, d0, d1⟩ := S8.out
      have hgl : Gd (toL P n) := KK.out.2.1
      by_cases q : f ≤ d ∧ d < u
      · obtain ⟨ex, ey⟩ := V2.out.set SA.out.1 ((SA.out.2 d x).2 (Or.inl (hv_one.2 ⟨q, rfl⟩)))
        obtain ⟨fx, fy⟩ := V3.out.none (fun v hv => by
          rcases (SB.out.2 d v).1 hv with a | a
          · exact hv_nil a
          · exact a.2 q)
        subst ex ey fx fy
        obtain ⟨q1, q2⟩ := q
        clear V1 V2 V3 SA SB KK hgl hk
        go_wp2_with fail
        go_ret
        exact ⟨rfl, B8.out⟩
      · have eA : ∀ v, hv (toL P n) d v ↔ hv (toL QA ma) d v := fun v => by
          rw [SA.out.2 d v, hv_one]
          exact ⟨fun h => Or.inr ⟨h, q⟩, fun h => h.elim (fun h => absurd h.1 q) (fun h => h.1)⟩
        have eB : ∀ v, hv (toL P n) d v ↔ hv (toL QB mb) d v := fun v => by
          rw [SB.out.2 d v]
          exact ⟨fun h => Or.inr ⟨h, q⟩, fun h => h.elim (fun h => absurd h hv_nil) (fun h => h.1)⟩
        obtain ⟨ex, ey⟩ := V1.out.same V2.out eA SA.out.1
        obtain ⟨fx, fy⟩ := V1.out.same V3.out eB SB.out.1
        subst ex ey fx fy
        clear V1 V2 V3 SA SB KK hgl hk eA eB
        by_cases q1 : f ≤ d
        · have q2 : ¬ d < u := fun h => q ⟨q1, h⟩
          clear q
          go_wp2_with fail
          go_ret
          exact ⟨by first | rfl | simp, B8.out⟩
        · clear q
          go_wp2_with fail
          go_ret
          exact ⟨by first | rfl | simp, B8.out⟩
    · have SG := Lib.hid (Set_bad p n c P f u x w1 P1.out hk)
      have CG := Lib.hid (fun V hV => Clear_bad p n c P f u V hV hk)
      obtain ⟨k, hk0⟩ : ∃ k, k = chV P n f u := ⟨_, rfl⟩
      rw [← hk0] at SG CG hk
      obtain ⟨_, d0, d1⟩ := S1.out
      clear hk0
      go_wp2_with fail
      refine SG.out.mono ?_; rintro e w2 ⟨rfl, b2⟩
      have P2 := Lib.hid (P1.out.below b2)
      have S2 := Lib.hid (S1.out.below b2)
      have B2 := Lib.hid (B1.out.trans (b2.mono B1.out.size))
      clear SG b2 d0 d1 P1 S1 B1
      obtain ⟨_, d0, d1⟩ := S2.out
      go_wp2_with fail
      refine (CG.out _ P2.out).mono ?_; rintro e w3 ⟨rfl, b3⟩
      have B3 := Lib.hid (B2.out.trans (b3.mono B2.out.size))
      have k1 : (k == 0) = false := by simpa using hk
      clear CG b3 P2 S2 B2 d0 d1
      go_wp2_with fail
      go_ret
      exact ⟨by first | rfl | simp, B3.out⟩
  · have hn' : (40 : Int) < (n : Int) := by omega
    go_wp2_with fail
    go_ret
    exact ⟨rfl, B1.out⟩
end Go.Proofs.Ytekigilhmdphnaa
