/- heir, Chain, Heir. -/
import Derived.Test.YtlmgjgcdfhccaaaON
namespace Go.Proofs.Ytlmgjgcdfhccaaa
open Go.RowKit Go.Maps Go.Shelf

theorem ch_ex {os : List Of} (hg : (ckV os).2 = 0) (day : Int) : ∀ (m : Nat) (i : Nat) (o : Of), os[i]? = some o → (1048576 - o.fr).toNat ≤ m → ∃ L, Ch os day i L := by
  intro m
  induction m with
  | zero =>
    intro i o ho hm
    have sp := of_decide_eq_true (good_ok hg ho).sp
    omega
  | succ m ih =>
    intro i o ho hm
    cases hb : hasB o.fr o.un day with
    | true => exact ⟨_, Ch.stop ho (Or.inl hb)⟩
    | false =>
      cases hx : o.nx with
      | nil => exact ⟨_, Ch.stop ho (Or.inr hx)⟩
      | cons x r =>
        obtain ⟨j, o2, hj, ho2, _, hf⟩ := (good_ok hg ho).ix x (by rw [hx]; exact List.mem_cons_self ..)
        have sp := of_decide_eq_true (good_ok hg ho).sp
        obtain ⟨L, hL⟩ := ih j o2 ho2 (by omega)
        exact ⟨_, Ch.step ho hb hx hj hL⟩
/-- Is the first office with an ID in force on a day? -/
def inF (os : List Of) (day last : Int) : Bool := match os[(ixO os last).getD 0]? with
  | some o => hasB o.fr o.un day
  | none => false
def hrV (os : List Of) (day : Int) (L : List Int) : Int × Bool := if inF os day (L.getLastD 0) = true then (L.getLastD 0, true) else (0, false)
theorem isZ_last {w : World} {v : Value} {L : List Int} (h : IsZ w v L) (hp : 0 < L.length) : ∃ g off c m, v = .slice (some ⟨g, off, none⟩) (m + 1) c ∧ m + 1 ≤ c ∧ g < w.heap.size ∧ L.length = m + 1 ∧ w.cell? ⟨g, off + m, none⟩ = some (.int .i64 (L.getLastD 0)) := by
  obtain ⟨p, c, h1, h2, h3⟩ := h
  obtain ⟨g, off, rfl, hg, hc⟩ := h3 hp
  have ne : L ≠ [] := fun e => by rw [e] at hp; simp at hp
  obtain ⟨pre, x, rfl⟩ : ∃ pre x, L = pre ++ [x] := ⟨_, _, (List.dropLast_concat_getLast ne).symm⟩
  refine ⟨g, off, c, pre.length, by rw [h1]; simp, by simpa using h2, hg, by simp, ?_⟩
  rw [hc pre.length (by simp)]
  simp
theorem last_mem {L : List Int} (hp : 0 < L.length) : L.getLastD 0 ∈ L := by
  have ne : L ≠ [] := fun e => by rw [e] at hp; simp at hp
  obtain ⟨pre, x, rfl⟩ : ∃ pre x, L = pre ++ [x] := ⟨_, _, (List.dropLast_concat_getLast ne).symm⟩
  simp
set_option maxRecDepth 100000 in
set_option maxHeartbeats 8000000 in
theorem heir_any (v : Value) (os : List Of) (b i0 : Nat) (id day : Int) (w : World) (hv : IsO w v os) (hn : os.length ≤ 1000) (hr : NumO os) (hg : (ckV os).2 = 0) (hix : Ix w b os) (hid : W64 id) (h0 : ixO os id = some i0) {L : List Int} (hL : Ch os day i0 L) :
    Calls Try.prog 30 #[v, .map (some b), .int .i64 id, .int .i64 day] w fun e w' => e = .returned (.tuple #[.int .i64 (hrV os day L).1, .bool (hrV os day L).2]) ∧ Below w.heap.size w w' := by
  have CH := Lib.hid (chain_any v os b i0 id day w hv hn hr hg hix hid h0)
  have HL := Lib.hid hL
  have HX := Lib.hid hix
  obtain ⟨p, c, rfl, hc, hp⟩ := hv
  obtain ⟨k, ol, hol, hlast⟩ := hL.mem (L.getLastD 0) (last_mem hL.pos)
  have hne : ixO os (L.getLastD 0) ≠ none := fun e => (ixO_none.1 e) ol (List.mem_of_getElem? hol) hlast
  obtain ⟨j, hj⟩ := Option.ne_none_iff_exists'.1 hne
  obtain ⟨o, ho, -⟩ := ixO_at hj
  have L64 : W64 (L.getLastD 0) := by rw [← hlast]; exact (hr ol (List.mem_of_getElem? hol)).1
  have hjn := ixO_lt hj
  obtain ⟨g, off, rfl, hcell⟩ := hp (by omega)
  have OA := Lib.hid (hcell j o ho)
  have LK := Lib.hid (fun (V : World) (hb : Below w.heap.size w V) => show (Instr.lookup 39 (.map (some b)) (.int .i64 (L.getLastD 0)) false).run Try.prog V = .ok (.int .i64 ((j : Nat) : Int)) V from by
    have := (HX.out.below hb).get L64
    rw [hj] at this; exact this)
  have IN : inF os day (L.getLastD 0) = hasB o.fr o.un day := by
    unfold inF; rw [hj]; show (match os[j]? with | some o => hasB o.fr o.un day | none => false) = _; rw [ho]
  have RV := Lib.hid (show hrV os day L = if hasB o.fr o.un day = true then (L.getLastD 0, true) else (0, false) by unfold hrV; rw [IN])
  obtain ⟨R, hR⟩ : ∃ R, R = hrV os day L := ⟨_, rfl⟩
  rw [← hR] at RV ⊢
  have HS := Lib.hid (has_any o.fr o.un day)
  have POS := Lib.hid hL.pos
  obtain ⟨n, hnn⟩ : ∃ n, n = os.length := ⟨_, rfl⟩
  rw [← hnn] at CH hjn hc hn ⊢
  clear hix hp hol hlast hne hj ho L64 IN hR hL hcell hg hr h0 hnn
  obtain ⟨id1, nm1, fr1, un1, nx1, q1, cc1⟩ := o
  replace HS : Hid (∀ V, Calls Try.prog 50 #[.agg #[.int .i64 fr1, .int .i64 un1], .int .i64 day] V fun e w' => e = .returned (.bool (hasB fr1 un1 day)) ∧ Below V.heap.size V w') := HS
  replace RV : Hid (R = if hasB fr1 un1 day = true then (L.getLastD 0, true) else (0, false)) := RV
  go_enter Try.func30, Try.ntmps30
  go_wp2_with fail
  refine CH.out.mono ?_; rintro e w1 ⟨L', u, hL', rfl, ow, b1⟩
  obtain rfl := hL'.one HL.out
  obtain ⟨g2, off2, c2, m, rfl, hm1, hg2, hlen, cl⟩ := isZ_last (own_isZ ow) POS.out
  rw [hlen] at ow
  have B1 := Lib.hid b1
  have LK1 := LK.out w1 b1
  have OB := OA.out.below b1
  have z2 : w1.cell? ⟨g, off + j * 5 + 2, none⟩ = some (.int .i64 fr1) := OB.c2
  have z3 : w1.cell? ⟨g, off + j * 5 + 3, none⟩ = some (.int .i64 un1) := OB.c3
  have mb : m + 1 ≤ 9223372036854775807 := by
    have : m + 1 ≤ maxLen := by
      rcases ow.2 with ⟨_, h⟩ | ⟨_, cap, _, _, _, _, h1, h2, _⟩
      · omega
      · omega
    exact this
  obtain ⟨q, hq⟩ : ∃ q, q = m + 1 := ⟨_, rfl⟩
  have q1 : wrap64 ((q : Int) - 1) = (m : Int) := by rw [hq]; unfold wrap64; omega
  have q2 : (m : Int) < (q : Int) := by omega
  have q3 : m < q := by omega
  rw [← hq] at hm1 ⊢
  have H1 := Lib.hid (HS.out w1)
  obtain ⟨l, hl⟩ : ∃ l, l = L'.getLastD 0 := ⟨_, rfl⟩
  rw [← hl] at LK1 RV cl
  clear hL' ow b1 OB CH HS LK hl hlen mb hq
  go_wp2_with fail
  refine H1.out.mono ?_; rintro e w2 ⟨rfl, b2⟩
  have B2 := Lib.hid (B1.out.trans (b2.mono B1.out.size))
  clear b2 H1
  cases hb : hasB fr1 un1 day with
  | true =>
    rw [hb] at RV
    go_wp2_with fail
    go_ret2
    exact ⟨by rw [RV.out]; rfl, B2.out⟩
  | false =>
    rw [hb] at RV
    go_wp2_with fail
    go_ret2
    exact ⟨by rw [RV.out]; rfl, B2.out⟩
end Go.Proofs.Ytlmgjgcdfhccaaa
