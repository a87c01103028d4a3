/- The successors' faults; the reference's Find. -/
import Derived.Test.YtlmgjgcdfhccaaaOF
namespace Go.Proofs.Ytlmgjgcdfhccaaa
open Go.RowKit Go.Maps Go.Shelf

/-- The first day of the first office with an ID. -/
def frA (os : List Of) (x : Int) : Int := ((os[(ixO os x).getD 0]?).map (·.fr)).getD 0
/-- What is wrong with the successors of an office. -/
def sucE (os : List Of) (o : Of) : Int := if ¬ o.nx.Nodup then 6 else if ∃ x ∈ o.nx, ixO os x = none then 7 else if ∃ x ∈ o.nx, frA os x ≠ o.un then 10 else 0
theorem suc6 {os : List Of} {o : Of} (h : ¬ o.nx.Nodup) : sucE os o = 6 := by unfold sucE; rw [if_pos h]
theorem suc7 {os : List Of} {o : Of} (h : o.nx.Nodup) {x : Int} (hx : x ∈ o.nx) (g : ixO os x = none) : sucE os o = 7 := by unfold sucE; rw [if_neg (fun k => k h), if_pos ⟨x, hx, g⟩]
theorem suc10 {os : List Of} {o : Of} (h : o.nx.Nodup) (k : ∀ x ∈ o.nx, ixO os x ≠ none) {x : Int} (hx : x ∈ o.nx) (g : frA os x ≠ o.un) : sucE os o = 10 := by
  unfold sucE; rw [if_neg (fun k => k h), if_neg (fun ⟨y, hy, e⟩ => k y hy e), if_pos ⟨x, hx, g⟩]
theorem suc0 {os : List Of} {o : Of} (h : o.nx.Nodup) (k : ∀ x ∈ o.nx, ixO os x ≠ none) (g : ∀ x ∈ o.nx, frA os x = o.un) : sucE os o = 0 := by
  unfold sucE; rw [if_neg (fun k => k h), if_neg (fun ⟨y, hy, e⟩ => k y hy e), if_neg (fun ⟨y, hy, e⟩ => e (g y hy))]
theorem nodup_snoc {l : List Int} {k : Nat} {x : Int} (h : (l.take k).Nodup) (hx : l[k]? = some x) (hn : x ∉ l.take k) : (l.take (k + 1)).Nodup := by
  rw [List.take_add_one, hx]
  show (l.take k ++ [x]).Nodup
  rw [List.nodup_append]
  exact ⟨h, by simp, fun a ha b hb e => hn (by rw [show x = b from (List.mem_singleton.1 hb).symm, ← e]; exact ha)⟩
theorem not_nodup {l : List Int} {k : Nat} {x : Int} (hx : l[k]? = some x) (hm : x ∈ l.take k) : ¬ l.Nodup := fun h => by
  have h2 : (l.take (k + 1)).Nodup := (List.take_sublist _ _).nodup h
  rw [List.take_add_one, hx] at h2
  have h3 : (l.take k ++ [x]).Nodup := h2
  rw [List.nodup_append] at h3
  exact h3.2.2 x hm x (by simp) rfl

/-- What the reference's Find returns. -/
def ixZ (os : List Of) (id : Int) : Int := match ixO os id with | some k => k | none => -1
set_option maxHeartbeats 2000000 in
theorem rFind_any (v : Value) (os : List Of) (id : Int) (w : World) (hv : IsO w v os) (hn : os.length ≤ 1000) :
    Calls Try.prog 32 #[v, .int .i64 id] w fun e w' => e = .returned (.int .i64 (ixZ os id)) ∧ w' = w := by
  obtain ⟨p, c, rfl, hc, hp⟩ := hv
  obtain ⟨n, hnn⟩ : ∃ n, n = os.length := ⟨_, rfl⟩
  rw [← hnn] at hn hc ⊢
  have HN := Lib.hid hnn
  have HP := Lib.hid hp
  clear hp hnn
  obtain ⟨R, hR⟩ : ∃ R, R = ixZ os id := ⟨_, rfl⟩
  rw [← hR]
  have HR := Lib.hid hR
  clear hR
  go_enter Try.func32, Try.ntmps32
  go_wp2_with fail
  go_loop [5] (fun i => ∃ k : Nat, k ≤ n ∧ i = .int .i64 k ∧ Hid (∀ o ∈ os.take k, o.id ≠ id)) (fun i => n - (intOf i).toNat)
  case atStart => exact ⟨0, Nat.zero_le _, rfl, fun o h => by simp at h⟩
  case round =>
    obtain ⟨k, hk, rfl, hrel⟩ := hrel
    by_cases hlt : k < n
    · obtain ⟨o, ho⟩ : ∃ o, os[k]? = some o := ⟨_, List.getElem?_eq_getElem (by rw [← HN.out]; exact hlt)⟩
      obtain ⟨g, off, rfl, hcell⟩ := HP.out (by rw [← HN.out]; omega)
      have c0 := (hcell k o ho).c0
      have HO := Lib.hid ho
      clear hcell ho
      obtain ⟨d, hd⟩ : ∃ d, d = o.id := ⟨_, rfl⟩
      rw [← hd] at c0
      by_cases e : d = id
      · have N := Lib.hid (show R = (k : Int) by
          rw [HR.out]
          unfold ixZ
          have : ixO os id = some k := by
            unfold ixO
            rw [List.findIdx?_eq_some_iff_getElem]
            obtain ⟨h1, h2⟩ := List.getElem?_eq_some_iff.1 HO.out
            refine ⟨h1, by rw [h2]; simp [← hd, e], fun j hj => ?_⟩
            have := hrel.out (os[j]'(by omega)) (by rw [List.mem_take_iff_getElem]; exact ⟨j, by omega, rfl⟩)
            simpa using this
          rw [this])
        have D : (d == id) = true := by simpa using e
        clear e hd hrel
        go_wp2
        go_ret
        exact ⟨by rw [N.out]; rfl, rfl⟩
      · have N := Lib.hid (show ∀ o ∈ os.take (k + 1), o.id ≠ id from fun a ha => by
          rw [List.take_add_one, HO.out] at ha
          rcases List.mem_append.1 ha with h | h
          · exact hrel.out a h
          · obtain rfl : a = o := by simpa using h
            rw [← hd]; exact e)
        have D : (d == id) = false := by simpa using e
        clear e hd hrel
        go_wp2
        go_round
        case rel => exact ⟨k + 1, by omega, by go_num, N.out⟩
        case measure => simp [intOf]; omega
    · obtain rfl : k = n := by omega
      have N := Lib.hid (show R = -1 by
        rw [HR.out]
        unfold ixZ
        rw [ixO_none.2 (by have := hrel.out; rwa [List.take_of_length_le (by rw [← HN.out]; exact Nat.le_refl _)] at this)])
      clear hrel
      go_wp2
      go_ret
      exact ⟨by rw [N.out]; rfl, rfl⟩
end Go.Proofs.Ytlmgjgcdfhccaaa
