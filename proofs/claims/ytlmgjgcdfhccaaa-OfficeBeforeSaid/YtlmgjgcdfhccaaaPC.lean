/- The reference's has; an allowed list ascends. -/
import Derived.Test.YtlmgjgcdfhccaaaPA
namespace Go.Proofs.Ytlmgjgcdfhccaaa
open Go.RowKit Go.Maps Go.Shelf

set_option maxHeartbeats 4000000 in
theorem rhas_any (v : Value) (zs : List Int) (x : Int) (w : World) (hv : IsZ w v zs) (hn : zs.length ≤ 1000000) :
    Calls Try.prog 38 #[v, .int .i64 x] w fun e w' => e = .returned (.bool (decide (x ∈ zs))) ∧ w = w' := by
  obtain ⟨p, c, rfl, hc, hp⟩ := hv
  obtain ⟨z, hz⟩ : ∃ z, z = decide (x ∈ zs) := ⟨_, rfl⟩
  rw [← hz]
  obtain ⟨n, hn'⟩ : ∃ n, n = zs.length := ⟨_, rfl⟩
  rw [← hn'] at hc hn ⊢
  have HN := Lib.hid hn'
  have HZ := Lib.hid hz
  have HP := Lib.hid hp
  clear hp hn' hz
  go_enter Try.func38, Try.ntmps38
  go_wp2_with fail
  go_loop [5] (fun i => ∃ k : Nat, k ≤ n ∧ i = .int .i64 k ∧ Hid (x ∉ zs.take k)) (fun i => n - (intOf i).toNat)
  case atStart => exact ⟨0, Nat.zero_le _, rfl, by rw [List.take_zero]; exact List.not_mem_nil⟩
  case round =>
    obtain ⟨k, hk, rfl, hrel⟩ := hrel
    by_cases hlt : k < n
    · obtain ⟨g, off, rfl, _, hcell⟩ := HP.out (by rw [← HN.out]; omega)
      have cy := hcell k (by rw [← HN.out]; exact hlt)
      obtain ⟨y, hy⟩ : ∃ y, zs[k]? = some y := ⟨_, List.getElem?_eq_getElem (by rw [← HN.out]; exact hlt)⟩
      have ey : zs[k]'(by rw [← HN.out]; exact hlt) = y := by obtain ⟨h, e⟩ := List.getElem?_eq_some_iff.1 hy; exact e
      rw [ey] at cy
      have HY := Lib.hid hy
      clear hcell hy ey
      by_cases e : y = x
      · have D : (y == x) = true := by simpa using e
        have N := Lib.hid (show true = z by rw [HZ.out, decide_eq_true]; rw [← e]; exact List.mem_of_getElem? HY.out)
        clear e hrel
        go_wp2
        go_ret
        exact ⟨by rw [N.out]; rfl, rfl⟩
      · have D : (y == x) = false := by simpa using e
        have N := Lib.hid (show x ∉ zs.take (k + 1) from fun h => by
          rw [List.take_add_one, HY.out] at h
          rcases List.mem_append.1 h with h | h
          · exact hrel.out h
          · obtain rfl : x = y := by simpa using h
            exact e rfl)
        clear e hrel
        go_wp2
        go_round
        case rel => exact ⟨k + 1, by omega, by go_num, N.out⟩
        case measure => simp [intOf]; omega
    · obtain rfl : k = n := by omega
      have N := Lib.hid (show false = z by
        have := hrel.out
        rw [List.take_of_length_le (by rw [← HN.out]; exact Nat.le_refl _)] at this
        rw [HZ.out, decide_eq_false this])
      clear hrel
      go_wp2
      go_ret
      exact ⟨by rw [N.out]; rfl, rfl⟩
theorem good_step {os : List Of} (h : (ckV os).2 = 0) {k : Nat} {a b : Of} (ha : os[k]? = some a) (hb : os[k + 1]? = some b) : a.id < b.id := by
  have lt : k + 1 < os.length := (List.getElem?_eq_some_iff.1 hb).1
  have z : (ckI os os.length).2 = 0 := by
    unfold ckV at h
    by_cases e : 32 < os.length
    · rw [if_pos e] at h; simp at h
    · rwa [if_neg e] at h
  have f := ckI_all z (k + 1) lt
  unfold fE at f
  rw [hb] at f
  have s := good_self h hb
  simp only [s, ne_eq, not_true_eq_false, if_false] at f
  by_cases g : 0 < k + 1 ∧ b.id ≤ prevId os (k + 1)
  · rw [if_pos g] at f; simp at f
  · have p : prevId os (k + 1) = a.id := by unfold prevId; rw [Nat.add_sub_cancel, ha]; rfl
    rw [p] at g
    omega
theorem good_lt {os : List Of} (h : (ckV os).2 = 0) : ∀ (d k : Nat) (a b : Of), os[k]? = some a → os[k + d + 1]? = some b → a.id < b.id
  | 0, k, a, b, ha, hb => good_step h ha hb
  | d + 1, k, a, b, ha, hb => by
    have lt : k + (d + 1) + 1 < os.length := (List.getElem?_eq_some_iff.1 hb).1
    obtain ⟨c, hc⟩ : ∃ c, os[k + d + 1]? = some c := ⟨_, List.getElem?_eq_getElem (by omega)⟩
    have h1 := good_lt h d k a c ha hc
    have h2 := good_step h hc (by rw [show k + d + 1 + 1 = k + (d + 1) + 1 by omega]; exact hb)
    omega
theorem good_asc {os : List Of} (h : (ckV os).2 = 0) : (os.map (·.id)).Pairwise (· < ·) := by
  rw [List.pairwise_iff_getElem]
  intro i j hi hj hij
  rw [List.length_map] at hi hj
  rw [List.getElem_map, List.getElem_map]
  obtain ⟨d, rfl⟩ : ∃ d, j = i + d + 1 := ⟨j - i - 1, by omega⟩
  exact good_lt h d i _ _ (List.getElem?_eq_getElem hi) (List.getElem?_eq_getElem hj)
/-- What the search keeps. -/
structure SeL (os : List Of) (id : Int) (K : Nat) (w : World) (sn : List Int) (u : Value) (wr : World) : Prop where
  own : wr.ownsRow K 3 1 u sn.length (sn.map encZ)
  bel : Below K w wr
  nd : sn.Nodup
  ids : ∀ x ∈ sn, ∃ j, ixO os x = some j
  rc : ∀ x ∈ sn, Rc os id x
  mem : id ∈ sn
/-- The first so many have all their successors there. -/
def ClI (os : List Of) (sn : List Int) (i : Nat) : Prop := ∀ j y, j < i → sn[j]? = some y → ∀ z, Ed os y z → z ∈ sn
theorem rv_of {os : List Of} {id : Int} {sn : List Int} (hg : (ckV os).2 = 0) {i0 : Nat} (hi : ixO os id = some i0) (ids : ∀ x ∈ sn, ∃ j, ixO os x = some j) (rc : ∀ x ∈ sn, Rc os id x) (mem : id ∈ sn) (cl : ClI os sn sn.length) :
    RV os id ((os.filter (fun o => decide (o.id ∈ sn))).map (·.id)) := by
  refine Or.inl ⟨hg, by rw [hi]; simp, ?_, fun x => ⟨fun h => ?_, fun h => ?_⟩⟩
  · exact (good_asc hg).sublist (List.filter_sublist.map _)
  · obtain ⟨o, ho, rfl⟩ := List.mem_map.1 h
    exact rc _ (of_decide_eq_true (List.mem_filter.1 ho).2)
  · have hx : x ∈ sn := by
      induction h with
      | refl => exact mem
      | step _ e ih =>
        obtain ⟨j, hj⟩ := List.mem_iff_getElem?.1 ih
        exact cl j _ (List.getElem?_eq_some_iff.1 hj).1 hj _ e
    obtain ⟨j, hj⟩ := ids x hx
    obtain ⟨o, ho, e⟩ := ixO_at hj
    exact List.mem_map.2 ⟨o, List.mem_filter.2 ⟨List.mem_of_getElem? ho, by rw [e]; exact decide_eq_true hx⟩, e⟩
end Go.Proofs.Ytlmgjgcdfhccaaa
