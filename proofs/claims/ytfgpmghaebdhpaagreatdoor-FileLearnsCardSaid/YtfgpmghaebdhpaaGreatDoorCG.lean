/- Compare: two lists of numbers. -/
import Derived.Test.YtfgpmghaebdhpaaGreatDoorCF
namespace Go.Proofs.YtfgpmghaebdhpaaGreatDoor
open Go.RowKit Go.Shelf

theorem dec_inj {a b : Nat} (a1 : 1 ≤ a) (a2 : a ≤ 999) (b1 : 1 ≤ b) (b2 : b ≤ 999) (h : dec a = dec b) : a = b := by
  have x := atoi_dec a1 a2
  rw [h, atoi_dec b1 b2] at x
  injection x with x
  omega
theorem decs_inj : ∀ {ns ms : List Nat}, (∀ n ∈ ns, 1 ≤ n ∧ n ≤ 999) → (∀ n ∈ ms, 1 ≤ n ∧ n ≤ 999) → ns.map dec = ms.map dec → ns = ms
  | [], [], _, _, _ => rfl
  | [], _ :: _, _, _, h => by simp at h
  | _ :: _, [], _, _, h => by simp at h
  | a :: x, b :: y, hx, hy, h => by
    rw [List.map_cons, List.map_cons] at h
    injection h with h1 h2
    have ha := hx a (List.mem_cons_self ..)
    have hb := hy b (List.mem_cons_self ..)
    rw [dec_inj ha.1 ha.2 hb.1 hb.2 h1, decs_inj (fun n hn => hx n (List.mem_cons_of_mem _ hn)) (fun n hn => hy n (List.mem_cons_of_mem _ hn)) h2]
theorem PR.one {l : List UInt8} {ns ms : List Nat} (h : PR l ns) (g : PR l ms) : ns = ms := decs_inj h.rng g.rng (h.txt.trans g.txt.symm)
theorem PR.pos {l : List UInt8} {ns : List Nat} (h : PR l ns) : 0 < ns.length := by
  have := congrArg List.length h.txt
  rw [List.length_map] at this
  rw [this]
  exact List.length_pos_iff.2 (sp_ne l)

/-- A list of numbers in memory. -/
def IsN (w : World) (v : Value) (ns : List Nat) : Prop := ∃ g off c, v = .slice (some ⟨g, off, none⟩) ns.length c ∧ g < w.heap.size ∧ ns.length ≤ c ∧ ∀ j (h : j < ns.length), w.cell? ⟨g, off + j, none⟩ = some (.int .i64 (ns[j] : Nat))
theorem IsN.below {w w' : World} {v : Value} {ns : List Nat} (h : IsN w v ns) (hb : Below w.heap.size w w') : IsN w' v ns := by
  obtain ⟨g, off, c, h1, h2, h3, h4⟩ := h
  exact ⟨g, off, c, h1, Nat.lt_of_lt_of_le h2 hb.size, h3, fun j hj => (hb.cell (p := ⟨g, off + j, none⟩) h2).trans (h4 j hj)⟩
theorem own_isN {w : World} {K : Nat} {v : Value} {ns : List Nat} (h : w.ownsRow K 3 1 v ns.length (ns.map encN)) (hp : 0 < ns.length) : IsN w v ns := by
  rcases h.2 with ⟨_, h0⟩ | ⟨g, cap, cur, rfl, hb, hg, hc, hm, hs, ht⟩
  · omega
  · refine ⟨g, 0, cap, rfl, (Array.getElem?_eq_some_iff.1 hg).1, hc, fun j hj => ?_⟩
    have := h.cells (g := g) rfl j (.int .i64 (ns[j] : Nat)) (by simp [hj, encN])
    rw [Addr.add_lit] at this
    exact this

def cmpL : List Nat → List Nat → Int
  | [], [] => 0
  | [], _ :: _ => -1
  | _ :: _, [] => 1
  | a :: x, b :: y => if a < b then -1 else if b < a then 1 else cmpL x y
def cmpI (x y : Int) : Int := if x < y then -1 else if y < x then 1 else 0
set_option maxHeartbeats 1000000 in
theorem cmp_any (x y : Int) (w : World) : Calls Tryz.prog 26 #[.int .i64 x, .int .i64 y] w fun e w' => e = .returned (.int .i64 (cmpI x y)) ∧ w' = w := by
  unfold cmpI
  by_cases a : x < y
  · rw [if_pos a]
    go_enter Tryz.func26, Tryz.ntmps26
    go_wp2
    go_ret
    exact ⟨rfl, rfl⟩
  · rw [if_neg a]
    by_cases b : y < x
    · rw [if_pos b]
      go_enter Tryz.func26, Tryz.ntmps26
      go_wp2
      go_ret
      exact ⟨rfl, rfl⟩
    · rw [if_neg b]
      go_enter Tryz.func26, Tryz.ntmps26
      go_wp2
      go_ret
      exact ⟨rfl, rfl⟩
theorem cmpL_step {ns ms : List Nat} {k : Nat} (h : k < ns.length) (g : k < ms.length) : cmpL (ns.drop k) (ms.drop k) = if ns[k] < ms[k] then -1 else if ms[k] < ns[k] then 1 else cmpL (ns.drop (k + 1)) (ms.drop (k + 1)) := by
  rw [List.drop_eq_getElem_cons h, List.drop_eq_getElem_cons g]; rfl

set_option maxRecDepth 10000 in
set_option maxHeartbeats 2000000 in
theorem sCompare_any (v u : Value) (ns ms : List Nat) (w : World) (hn : ns.length ≤ 1000) (hm : ms.length ≤ 1000) (h1 : IsN w v ns) (h2 : IsN w u ms) :
    Calls Tryz.prog 81 #[v, u] w fun e w' => e = .returned (.int .i64 (cmpL ns ms)) ∧ w' = w := by
  obtain ⟨g, off, c, rfl, _, _, hc⟩ := h1
  obtain ⟨g2, off2, c2, rfl, _, _, hc2⟩ := h2
  have HC := Lib.hid hc
  have HC2 := Lib.hid hc2
  obtain ⟨n, hn'⟩ : ∃ n, n = ns.length := ⟨_, rfl⟩
  obtain ⟨m, hm'⟩ : ∃ m, m = ms.length := ⟨_, rfl⟩
  have HN := Lib.hid hn'
  have HM := Lib.hid hm'
  rw [← hn'] at hn ⊢
  rw [← hm'] at hm ⊢
  clear hc hc2 hn' hm'
  go_enter Tryz.func81, Tryz.ntmps81
  go_wp2_with fail
  go_loopg [11] n (fun gg s11 wr => ∃ k : Nat, k ≤ n ∧ k ≤ m ∧ n - k ≤ gg ∧ s11 = .int .i64 k ∧ Aside (cmpL ns ms = cmpL (ns.drop k) (ms.drop k)) ∧ wr = w)
  case atStart => exact ⟨0, Nat.zero_le _, Nat.zero_le _, by omega, rfl, rfl, rfl⟩
  case round =>
    obtain ⟨k, hk, hk2, hg, rfl, CE, rfl⟩ := hrel
    by_cases hlt : k < n
    · have hltz : (k : Int) < (n : Int) := by omega
      have hz0 : (0 : Int) ≤ (k : Int) := by omega
      have l0 := HC.out k (by have := HN.out; omega)
      by_cases hlm : k < m
      · have hlmz : (k : Int) < (m : Int) := by omega
        have l1 := HC2.out k (by have := HM.out; omega)
        have ST := Lib.hid (CE.out.trans (cmpL_step (ns := ns) (ms := ms) (k := k) (by have := HN.out; omega) (by have := HM.out; omega)))
        generalize ns[k]'(by have := HN.out; omega) = a at *
        generalize ms[k]'(by have := HM.out; omega) = b at *
        have CM := Lib.hid (cmp_any (a : Int) (b : Int) wr)
        unfold cmpI at CM
        by_cases c1 : a < b
        · rw [if_pos (by omega)] at CM
          rw [if_pos c1] at ST
          go_wp2_with fail
          refine CM.out.mono ?_; rintro e w' ⟨rfl, rfl⟩
          go_wp2_with fail
          go_ret
          exact ⟨by rw [ST.out]; rfl, rfl⟩
        · rw [if_neg (by omega)] at CM
          rw [if_neg c1] at ST
          by_cases c2 : b < a
          · rw [if_pos (by omega)] at CM
            rw [if_pos c2] at ST
            go_wp2_with fail
            refine CM.out.mono ?_; rintro e w' ⟨rfl, rfl⟩
            go_wp2_with fail
            go_ret
            exact ⟨by rw [ST.out]; rfl, rfl⟩
          · rw [if_neg (by omega)] at CM
            rw [if_neg c2] at ST
            go_wp2_with fail
            refine CM.out.mono ?_; rintro e w' ⟨rfl, rfl⟩
            go_wp2_with fail
            go_roundg (n - (k + 1))
            case measure => omega
            case rel => exact ⟨k + 1, by omega, by omega, by omega, by go_num, ST.out, rfl⟩
      · obtain rfl : k = m := by omega
        have hlmz : ¬ (k : Int) < (k : Int) := by omega
        have ST := Lib.hid (show cmpL ns ms = 1 from CE.out.trans (by
          have e1 : ms.drop k = [] := List.drop_eq_nil_of_le (by have := HM.out; omega)
          rw [e1, List.drop_eq_getElem_cons (by have := HN.out; omega)]; rfl))
        clear CE
        go_wp2_with fail
        go_ret
        exact ⟨by rw [ST.out]; rfl, rfl⟩
    · obtain rfl : k = n := by omega
      have hltz : ¬ (k : Int) < (k : Int) := by omega
      by_cases hlm : k < m
      · have hlmz : (k : Int) < (m : Int) := by omega
        have ST := Lib.hid (show cmpL ns ms = -1 from CE.out.trans (by
          have e1 : ns.drop k = [] := List.drop_eq_nil_of_le (by have := HN.out; omega)
          rw [e1, List.drop_eq_getElem_cons (by have := HM.out; omega)]; rfl))
        clear CE
        go_wp2_with fail
        go_ret
        exact ⟨by rw [ST.out]; rfl, rfl⟩
      · obtain rfl : k = m := by omega
        have ST := Lib.hid (show cmpL ns ms = 0 from CE.out.trans (by
          rw [List.drop_eq_nil_of_le (by have := HN.out; omega), List.drop_eq_nil_of_le (by have := HM.out; omega)]; rfl))
        clear CE
        go_wp2_with fail
        go_ret
        exact ⟨by rw [ST.out]; rfl, rfl⟩
end Go.Proofs.YtfgpmghaebdhpaaGreatDoor
