/- Find. -/
import Derived.Test.YtlmgjgcdfhccaaaPE
namespace Go.Proofs.Ytlmgjgcdfhccaaa
open Go.RowKit Go.Maps Go.Shelf

set_option maxRecDepth 100000 in
theorem findFn_any (o : Of) (id : Int) (b : Nat) (w : World) (hb : w.cell? ⟨b, 0, none⟩ = some (.int .i64 id)) :
    Calls Try.prog 49 #[o.val, .pointer (some ⟨b, 0, none⟩)] w fun e w' => e = .returned (.bool (decide (o.id = id))) ∧ Below w.heap.size w w' := by
  obtain ⟨id1, nm, fr, un, nx, q, cc⟩ := o
  show Calls Try.prog 49 #[.agg #[.int .i64 id1, .string nm.1, .int .i64 fr, .int .i64 un, .slice q nx.length cc], .pointer (some ⟨b, 0, none⟩)] w fun e w' => e = .returned (.bool (decide (id1 = id))) ∧ Below w.heap.size w w'
  have BB := Lib.hid ((Below.refl w.heap.size w).alloc (Nat.le_refl _) (.cells #[.int .i64 id1, .string nm.1, .int .i64 fr, .int .i64 un, .slice q nx.length cc] 43))
  have lt : b < w.heap.size := by
    rcases Nat.lt_or_ge b w.heap.size with h | h
    · exact h
    · simp [World.cell?, Array.getElem?_eq_none h] at hb
  by_cases e : id1 = id
  · have D : (id1 == id) = true := by simpa using e
    have D2 : decide (id1 = id) = true := decide_eq_true e
    rw [D2]
    clear e D2
    go_enter Try.func49, Try.ntmps49
    go_wp2_with fail
    go_ret
    exact ⟨rfl, BB.out⟩
  · have D : (id1 == id) = false := by simpa using e
    have D2 : decide (id1 = id) = false := decide_eq_false e
    rw [D2]
    clear e D2
    go_enter Try.func49, Try.ntmps49
    go_wp2_with fail
    go_ret
    exact ⟨rfl, BB.out⟩
set_option maxRecDepth 100000 in
set_option maxHeartbeats 4000000 in
theorem indexFunc_any (v : Value) (os : List Of) (id : Int) (b : Nat) (w : World) (hv : IsO w v os) (hn : os.length ≤ 1000) (hb : w.cell? ⟨b, 0, none⟩ = some (.int .i64 id)) :
    Calls Try.prog 48 #[v, .func (.func 49) #[] #[.pointer (some ⟨b, 0, none⟩)]] w fun e w' => e = .returned (.int .i64 (ixZ os id)) ∧ Below w.heap.size w w' := by
  have lt : b < w.heap.size := by
    rcases Nat.lt_or_ge b w.heap.size with h | h
    · exact h
    · simp [World.cell?, Array.getElem?_eq_none h] at hb
  have FN := Lib.hid (fun (V : World) (o : Of) (hV : Below w.heap.size w V) => findFn_any o id b V ((hV.cell (p := ⟨b, 0, none⟩) lt).trans hb))
  obtain ⟨p, c, rfl, hc, hp⟩ := hv
  obtain ⟨n, hnn⟩ : ∃ n, n = os.length := ⟨_, rfl⟩
  rw [← hnn] at hn hc ⊢
  have HN := Lib.hid hnn
  have HP := Lib.hid hp
  obtain ⟨E, hE⟩ : ∃ E, E = ixZ os id := ⟨_, rfl⟩
  have HE := Lib.hid hE
  rw [← hE]
  clear hp hnn hb lt hE
  go_enter Try.func48, Try.ntmps48
  go_wp2_with fail
  go_loopw [5, 8] (fun _ si wr => ∃ k : Nat, k ≤ n ∧ si = .int .i64 k ∧ Hid (Below w.heap.size w wr ∧ ∀ o ∈ os.take k, o.id ≠ id)) (fun _ si _ => n - (intOf si).toNat)
  case atStart => exact ⟨0, Nat.zero_le _, rfl, Below.refl _ _, fun o h => by simp at h⟩
  case round =>
    obtain ⟨k, hk, rfl, hrel⟩ := hrel
    have BL := Lib.hid hrel.out.1
    have NO := Lib.hid hrel.out.2
    clear hrel
    by_cases hlt : k < n
    · obtain ⟨o, ho⟩ : ∃ o, os[k]? = some o := ⟨_, List.getElem?_eq_getElem (by rw [← HN.out]; exact hlt)⟩
      obtain ⟨g, off, rfl, hcell⟩ := HP.out (by rw [← HN.out]; omega)
      have OA := (hcell k o ho).below BL.out
      have HO := Lib.hid ho
      have F1 := Lib.hid (FN.out wr o BL.out)
      have MEM := Lib.hid (show ∀ o' ∈ os.take (k + 1), o' ∈ os.take k ∨ o' = o from fun a ha => by
        rw [List.take_add_one, HO.out] at ha
        rcases List.mem_append.1 ha with h | h
        · exact Or.inl h
        · exact Or.inr (by simpa using h))
      have FOUND := Lib.hid (show o.id = id → E = (k : Int) from fun e => by
        rw [HE.out]
        unfold ixZ
        have : ixO os id = some k := by
          unfold ixO
          rw [List.findIdx?_eq_some_iff_getElem]
          obtain ⟨h1, h2⟩ := List.getElem?_eq_some_iff.1 HO.out
          refine ⟨h1, by rw [h2]; simp [e], fun j hj => ?_⟩
          have := NO.out (os[j]'(by omega)) (by rw [List.mem_take_iff_getElem]; exact ⟨j, by omega, rfl⟩)
          simpa using this
        rw [this])
      have NEXT := Lib.hid (show o.id ≠ id → ∀ o' ∈ os.take (k + 1), o'.id ≠ id from fun e a ha => by
        rcases MEM.out a ha with h | rfl
        · exact NO.out a h
        · exact e)
      clear hcell ho HO MEM NO
      obtain ⟨id1, nm1, fr1, un1, nx1, q1, cc1⟩ := o
      obtain ⟨lt0, c0, c1, c2, c3, c4, -⟩ := OA
      replace c0 : wr.cell? ⟨g, off + k * 5, none⟩ = some (.int .i64 id1) := c0
      replace c1 : wr.cell? ⟨g, off + k * 5 + 1, none⟩ = some (.string nm1.1) := c1
      replace c2 : wr.cell? ⟨g, off + k * 5 + 2, none⟩ = some (.int .i64 fr1) := c2
      replace c3 : wr.cell? ⟨g, off + k * 5 + 3, none⟩ = some (.int .i64 un1) := c3
      replace c4 : wr.cell? ⟨g, off + k * 5 + 4, none⟩ = some (.slice q1 nx1.length cc1) := c4
      replace F1 : Hid (Calls Try.prog 49 #[.agg #[.int .i64 id1, .string nm1.1, .int .i64 fr1, .int .i64 un1, .slice q1 nx1.length cc1], .pointer (some ⟨b, 0, none⟩)] wr fun e w' => e = .returned (.bool (decide (id1 = id))) ∧ Below wr.heap.size wr w') := F1
      replace FOUND : Hid (id1 = id → E = (k : Int)) := FOUND
      replace NEXT : Hid (id1 ≠ id → ∀ o' ∈ os.take (k + 1), o'.id ≠ id) := NEXT
      by_cases e : id1 = id
      · rw [decide_eq_true e] at F1
        have N := Lib.hid (FOUND.out e)
        clear e FOUND NEXT
        go_wp2_with fail
        refine F1.out.mono ?_; rintro e w1 ⟨rfl, b1⟩
        have BB := Lib.hid (BL.out.trans (b1.mono BL.out.size))
        clear b1 F1
        go_wp2_with fail
        go_ret
        exact ⟨by rw [N.out]; rfl, BB.out⟩
      · rw [decide_eq_false e] at F1
        have N := Lib.hid (NEXT.out e)
        clear e FOUND NEXT
        go_wp2_with fail
        refine F1.out.mono ?_; rintro e w1 ⟨rfl, b1⟩
        have BB := Lib.hid (BL.out.trans (b1.mono BL.out.size))
        clear b1 F1
        go_wp2_with fail
        go_roundw
        case rel => exact ⟨k + 1, by omega, by go_num, BB.out, N.out⟩
        case measure => simp [intOf]; omega
    · obtain rfl : k = n := by omega
      have N := Lib.hid (show E = -1 by
        rw [HE.out]
        unfold ixZ
        have : ixO os id = none := ixO_none.2 (fun o ho => NO.out o (by rw [List.take_of_length_le (by rw [← HN.out]; exact Nat.le_refl _)]; exact ho))
        rw [this])
      clear NO
      go_wp2_with fail
      go_ret
      exact ⟨by rw [N.out]; rfl, BL.out⟩
set_option maxRecDepth 100000 in
theorem Find_any (v : Value) (os : List Of) (id : Int) (w : World) (hv : IsO w v os) (hn : os.length ≤ 1000) :
    Calls Try.prog 26 #[v, .int .i64 id] w fun e w' => e = .returned (.int .i64 (ixZ os id)) ∧ Below w.heap.size w w' := by
  have B0 := Lib.hid ((Below.refl w.heap.size w).alloc (Nat.le_refl _) (.cells #[.int .i64 id] 3))
  have IX := Lib.hid (indexFunc_any v os id w.heap.size (w.alloc (.cells #[.int .i64 id] 3)) (hv.below B0.out) hn (by simp))
  clear hv hn
  go_enter Try.func26, Try.ntmps26
  go_wp2_with fail
  refine IX.out.mono ?_; rintro e w1 ⟨rfl, b1⟩
  have B1 := Lib.hid (B0.out.trans (b1.mono B0.out.size))
  clear b1 IX
  go_wp2_with fail
  go_ret
  exact ⟨rfl, B1.out⟩
end Go.Proofs.Ytlmgjgcdfhccaaa
