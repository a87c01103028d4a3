/- The reference's has, Good, Free. -/
import Derived.Test.YtnjnjcgbdhiigaaGreatDoorRH
import Derived.Test.YtnjnjcgbdhiigaaGreatDoorDG
namespace Go.Proofs.YtnjnjcgbdhiigaaGreatDoor
open Go.RowKit Go.Shelf

def HasR (ts : List Txt) (x : ByteArray) (w : World) (e : Ending) (w' : World) : Prop := ∃ z, e = .returned (.bool z) ∧ (z = true ↔ ∃ y ∈ ts, y.1 = x) ∧ w = w'
set_option maxHeartbeats 4000000 in
theorem has_any (v : Value) (ts : List Txt) (x : ByteArray) (w : World) (hv : IsT w v ts) (hn : ts.length ≤ 1024) :
    Calls Tryz.prog 45 #[v, .string x] w (HasR ts x w) := by
  obtain ⟨p, c, rfl, hc, hp⟩ := hv
  obtain ⟨n, hn'⟩ : ∃ n, n = ts.length := ⟨_, rfl⟩
  rw [← hn'] at hc hn ⊢
  have HN := Lib.hid hn'
  have HP := Lib.hid hp
  clear hp hn'
  go_enter Tryz.func45, Tryz.ntmps45
  go_wp2_with fail
  go_loop [5] (fun i => ∃ k : Nat, k ≤ n ∧ i = .int .i64 k ∧ Hid (∀ y ∈ ts.take k, y.1 ≠ x)) (fun i => n - (intOf i).toNat)
  case atStart => exact ⟨0, Nat.zero_le _, rfl, fun y h => by simp at h⟩
  case round =>
    obtain ⟨k, hk, rfl, hrel⟩ := hrel
    by_cases hlt : k < n
    · obtain ⟨y, hy⟩ : ∃ y, ts[k]? = some y := ⟨_, List.getElem?_eq_getElem (by rw [← HN.out]; exact hlt)⟩
      obtain ⟨g, off, rfl, _, hcell⟩ := HP.out (by rw [← HN.out]; omega)
      have cy := hcell k y hy
      have HY := Lib.hid hy
      clear hcell hy
      by_cases e : y.1 = x
      · have D : (y.1.toList == x.toList) = true := by rw [e, beq_iff_eq]
        have N := Lib.hid (show ∃ y ∈ ts, y.1 = x from ⟨y, List.mem_of_getElem? HY.out, e⟩)
        clear e hrel
        go_wp2
        go_ret
        exact ⟨true, rfl, ⟨fun _ => N.out, fun _ => rfl⟩, rfl⟩
      · have D : (y.1.toList == x.toList) = false := by rw [ByteArray.toList_eq, ByteArray.toList_eq, beq_eq_false_iff_ne]; exact fun h => e ((eq_bytes _ _).2 h)
        have N := Lib.hid (show ∀ y ∈ ts.take (k + 1), y.1 ≠ x from fun a ha => by
          rw [List.take_add_one, HY.out] at ha
          rcases List.mem_append.1 ha with h | h
          · exact hrel.out a h
          · obtain rfl : a = y := by simpa using h
            exact e)
        clear e hrel
        go_wp2
        go_round
        case rel => exact ⟨k + 1, by omega, by go_num, N.out⟩
        case measure => simp [intOf]; omega
    · obtain rfl : k = n := by omega
      have N := Lib.hid (show (false = true ↔ ∃ y ∈ ts, y.1 = x) from ⟨fun h => (by cases h), fun ⟨y, hy, e⟩ => absurd e (hrel.out y (by rw [HN.out, List.take_of_length_le (Nat.le_refl _)]; exact hy))⟩)
      clear hrel
      go_wp2
      go_ret
      exact ⟨false, rfl, N.out, rfl⟩
theorem good_any (s : Txt) : ∃ z : Bool, (z = true ↔ ∃ ns, PR (bts s) ns) ∧ ∀ w, Calls Tryz.prog 44 #[.string s.1] w fun e w' => e = .returned (.bool z) ∧ Below w.heap.size w w' := by
  rcases rparse_two s with ⟨ns, pa, ca⟩ | ⟨na, ca⟩
  · refine ⟨true, ⟨fun _ => ⟨ns, pa⟩, fun _ => rfl⟩, fun w => ?_⟩
    have CA := Lib.hid (ca w)
    clear ca pa
    go_enter Tryz.func44, Tryz.ntmps44
    go_wp2_with fail
    refine CA.out.mono ?_; rintro e w1 ⟨v1, rfl, i1, b1⟩
    have B1 := Lib.hid b1
    clear i1 b1 CA
    go_wp2_with fail
    go_ret
    exact ⟨rfl, B1.out⟩
  · refine ⟨false, ⟨fun h => (by cases h), fun ⟨ns, h⟩ => absurd h (na ns)⟩, fun w => ?_⟩
    have CA := Lib.hid (ca w)
    clear ca na
    go_enter Tryz.func44, Tryz.ntmps44
    go_wp2_with fail
    refine CA.out.mono ?_; rintro e w1 ⟨rfl, b1⟩
    have B1 := Lib.hid b1
    clear b1 CA
    go_wp2_with fail
    go_ret
    exact ⟨rfl, B1.out⟩
theorem dec_ne (n : Nat) : dec n ≠ [] := fun e => by
  by_cases h : n < 10
  · rw [dec1 h] at e; simp at e
  · rw [dec_step (by omega)] at e; simp at e
theorem no_nil (ns : List Nat) : ¬ PR [] ns := fun h => by
  have := h.txt
  simp [sp] at this
  obtain ⟨a, _, e⟩ := this
  exact dec_ne a e
/-- The text of a code below another one. -/
theorem cd_snoc {l : List UInt8} {ns : List Nat} (h : Abv l ns) (j : Nat) : cd (ns ++ [j]) = (if l = [] then [] else l ++ [46]) ++ dec j := by
  rcases h with ⟨rfl, rfl⟩ | h
  · simp [cd, jn]
  · have hl := h.ok.2
    have hp := h.pos
    have ne : ns.map dec ≠ [] := fun e => by have := congrArg List.length e; simp at this; rw [this] at hp; simp at hp
    have l0 : l ≠ [] := fun e => no_nil ns (e ▸ h)
    rw [if_neg l0]
    unfold cd
    rw [List.map_append, List.map_cons, List.map_nil, jn_snoc _ _ ne, hl]
    simp [cd]
theorem Abv.one {l : List UInt8} {ns ms : List Nat} (h : Abv l ns) (g : Abv l ms) : ns = ms := by
  rcases h with ⟨h1, h2⟩ | h
  · rcases g with ⟨_, g2⟩ | g
    · rw [h2, g2]
    · exact absurd g (by rw [h1]; exact no_nil _)
  · rcases g with ⟨g1, _⟩ | g
    · exact absurd h (by rw [g1]; exact no_nil _)
    · exact h.one g
/-- The front of the codes below another one. -/
def fr (l : List UInt8) : List UInt8 := if l = [] then [] else l ++ [46]
set_option maxRecDepth 100000 in
set_option maxHeartbeats 8000000 in
theorem rFree_any (v : Value) (ts : List Txt) (s : Txt) (w : World) (hv : IsT w v ts) : Calls Tryz.prog 19 #[v, .string s.1] w (FreeR ts (bts s) w) := by
  obtain ⟨p, c, rfl, hc, hp⟩ := id hv
  by_cases h0 : 1024 < ts.length
  · have N := Lib.hid (show FrE ts (bts s) 8 from Or.inl ⟨rfl, h0⟩)
    have d : decide (1024 < (ts.length : Int)) = true := by simpa using (by omega : (1024 : Int) < (ts.length : Int))
    clear hp hc h0 hv
    generalize ts.length = n at *
    go_enter Tryz.func19, Tryz.ntmps19
    go_wp2_with fail
    go_ret2
    exact ⟨Or.inr ⟨8, N.out, rfl⟩, Below.refl _ _⟩
  have d : decide (1024 < (ts.length : Int)) = false := by simpa using (by omega : (ts.length : Int) ≤ 1024)
  have HAS := Lib.hid (fun (V : World) (x : ByteArray) (hV : Below w.heap.size w V) => has_any _ ts x V (hv.below hV) (by omega))
  obtain ⟨n, hn⟩ : ∃ n, n = ts.length := ⟨_, rfl⟩
  rw [← hn] at d hc ⊢
  have L6 := Lib.hid (show n ≤ 1024 by omega)
  have HN := Lib.hid hn
  have HP := Lib.hid hp
  rw [← hn] at HAS
  clear hn hp h0 hv
  go_enter Tryz.func19, Tryz.ntmps19
  go_wp2_with fail
  go_loopw [6] (fun si wr => ∃ k : Nat, k ≤ n ∧ si = .int .i64 k ∧ Hid (Below w.heap.size w wr ∧ ∀ x ∈ ts.take k, ∃ ms, PR (bts x) ms)) (fun si _ => n - (intOf si).toNat)
  case atStart => exact ⟨0, Nat.zero_le _, rfl, Below.refl _ _, fun x h => by simp at h⟩
  case round =>
    obtain ⟨k, hk, rfl, hrel⟩ := hrel
    by_cases hlt : k < n
    · obtain ⟨x, hx⟩ : ∃ x, ts[k]? = some x := ⟨_, List.getElem?_eq_getElem (by rw [← HN.out]; exact hlt)⟩
      obtain ⟨g, off, rfl, hg, hcell⟩ := HP.out (by rw [← HN.out]; omega)
      have cx : wr.cell? ⟨g, off + k, none⟩ = some (.string x.1) := by
        rw [← hcell k x hx]
        exact hrel.out.1.cell (p := ⟨g, off + k, none⟩) hg
      have kb : k < 1024 := by have := L6.out; omega
      have HX := Lib.hid hx
      obtain ⟨z, hz, gz⟩ := good_any x
      have HZ := Lib.hid hz
      have GZ := Lib.hid (gz wr)
      clear hcell hg hx hz gz
      cases z with
      | true =>
        have N := Lib.hid (show ∀ y ∈ ts.take (k + 1), ∃ ms, PR (bts y) ms from fun a ha => by
          rw [List.take_add_one, HX.out] at ha
          rcases List.mem_append.1 ha with h | h
          · exact hrel.out.2 a h
          · obtain rfl : a = x := by simpa using h
            exact HZ.out.1 rfl)
        clear HZ
        go_wp2_with fail
        refine GZ.out.mono ?_; rintro e w2 ⟨rfl, b2⟩
        have B2 := Lib.hid (hrel.out.1.trans (b2.mono hrel.out.1.size))
        clear b2 GZ hrel
        go_wp2_with fail
        go_roundw
        case rel => exact ⟨k + 1, by omega, by go_num, B2.out, N.out⟩
        case measure => simp [intOf]; omega
      | false =>
        have N := Lib.hid (show FrE ts (bts s) 3 from Or.inr (Or.inl ⟨rfl, by have := L6.out; have := HN.out; omega, Or.inr ⟨x, List.mem_of_getElem? HX.out, fun ms h => by have := HZ.out.2 ⟨ms, h⟩; cases this⟩⟩))
        clear HZ
        go_wp2_with fail
        refine GZ.out.mono ?_; rintro e w2 ⟨rfl, b2⟩
        have B2 := Lib.hid (hrel.out.1.trans (b2.mono hrel.out.1.size))
        clear b2 GZ hrel
        go_wp2_with fail
        go_ret2
        exact ⟨Or.inr ⟨3, N.out, rfl⟩, B2.out⟩
    · obtain rfl : k = n := by omega
      have GOOD := Lib.hid (show ∀ x ∈ ts, ∃ ms, PR (bts x) ms from fun x hx => hrel.out.2 x (by rw [HN.out, List.take_of_length_le (Nat.le_refl _)]; exact hx))
      have B0 := Lib.hid hrel.out.1
      clear hrel
      by_cases e0 : s.1 = ⟨#[]⟩
      · have PN := Lib.hid (rparse_no s (fun ns h => no_nil ns (by rw [show bts s = [] by unfold bts; rw [e0]] at h; exact h)) wr)
        have FE : bts s = [] := by unfold bts; rw [e0]
        obtain ⟨ns, hns⟩ : ∃ ns : List Nat, ns = [] := ⟨_, rfl⟩
        have AB := Lib.hid (show Abv (bts s) ns from Or.inl ⟨FE, hns⟩)
        have L5 := Lib.hid (show ns.length < 6 by rw [hns]; decide)
        obtain ⟨F, hF⟩ : ∃ F : ByteArray, F = ⟨#[]⟩ := ⟨_, rfl⟩
        have FF := Lib.hid (show F.data.toList = fr (bts s) by rw [hF, FE]; rfl)
        have FS : F.size ≤ 1001 := by rw [hF]; decide
        have D0 : (s.1.toList == (⟨#[]⟩ : ByteArray).toList) = true := by rw [e0, beq_iff_eq]
        have D1 : s.1.toList = [] := by rw [ByteArray.toList_eq]; exact FE
        have HF := Lib.hid hF
        clear hF FE hns e0
        go_wp2_with fail
        refine PN.out.mono ?_; rintro e w2 ⟨rfl, b2⟩
        have B2 := Lib.hid (B0.out.trans (b2.mono B0.out.size))
        clear b2 PN
        go_wp2_with fail
        rw [← HF.out]
        go_loopw [10] (fun si wr => ∃ k : Nat, 1 ≤ k ∧ k ≤ 1000 ∧ si = .int .i64 k ∧ Hid (Below w.heap.size w wr ∧ ∀ j, 1 ≤ j → j < k → ∃ x ∈ ts, PR (bts x) (ns ++ [j]))) (fun si _ => 1000 - (intOf si).toNat)
        case atStart => exact ⟨1, Nat.le_refl _, by omega, rfl, B2.out, fun j h1 h2 => by omega⟩
        case round =>
          obtain ⟨j, j1, j2, rfl, hrel⟩ := hrel
          by_cases hlt : j ≤ 999
          · have DC := fun V => decimal_any j (by omega) V
            obtain ⟨td, htd⟩ : ∃ td : ByteArray, td = ⟨(dec j).toArray⟩ := ⟨_, rfl⟩
            simp only [← htd] at DC
            have DCh := Lib.hid DC
            have tds : td.size ≤ 3 := by rw [htd, mk_size]; exact (dec_dot (by omega)).2
            have ok : OkN (ns ++ [j]) := ⟨by simp, by simp; have := L5.out; omega, fun a ha => by
              rcases List.mem_append.1 ha with h | h
              · exact AB.out.rng a h
              · obtain rfl : a = j := by simpa using h
                exact ⟨j1, hlt⟩⟩
            have TX := Lib.hid (show (F ++ td).data.toList = cd (ns ++ [j]) by
              rw [cd_snoc AB.out j, ← show fr (bts s) = (if bts s = [] then [] else bts s ++ [46]) from rfl, ← FF.out, show dec j = td.data.toList by rw [htd, mk_list]]
              simp)
            have OKJ := Lib.hid ok
            have FT := Lib.hid (show (F ++ td).size ≤ 1000 by
              rw [← len_sz, TX.out]; have := ok.size; omega)
            clear DC ok htd
            go_wp2_with fail
            refine (DCh.out _).mono ?_; rintro e w3 ⟨rfl, q3, rfl⟩
            have B3 := Lib.hid (hrel.out.1.trans ((below_drewN wr q3).mono hrel.out.1.size))
            have HS := Lib.hid (HAS.out (wr.drewN q3) (F ++ td) B3.out)
            have TK := Lib.hid hrel.out.2
            clear hrel
            go_wp2_with fail
            refine HS.out.mono ?_; rintro e w4 ⟨z, rfl, hz, rfl⟩
            clear HS
            cases z with
            | true =>
              have N := Lib.hid (show ∀ i, 1 ≤ i → i < j + 1 → ∃ x ∈ ts, PR (bts x) (ns ++ [i]) from fun i h1 h2 => by
                by_cases e : i = j
                · obtain ⟨y, hy, e2⟩ := hz.1 rfl
                  exact ⟨y, hy, by rw [e, show bts y = cd (ns ++ [j]) from by rw [← TX.out, ← e2]; rfl]; exact OKJ.out.pr⟩
                · exact TK.out i h1 (by omega))
              clear hz TK
              go_wp2_with fail
              go_roundw
              case rel => exact ⟨j + 1, by omega, by omega, by go_num, B3.out, N.out⟩
              case measure => simp [intOf]; omega
            | false =>
              have N := Lib.hid (show ∀ x ∈ ts, ¬ PR (bts x) (ns ++ [j]) from fun x hx h => by
                have := hz.2 ⟨x, hx, (eq_bytes _ _).2 (by rw [TX.out]; exact h.ok.2)⟩
                cases this)
              clear hz
              go_wp2_with fail
              refine (DCh.out _).mono ?_; rintro e w5 ⟨rfl, q5, rfl⟩
              have B5 := Lib.hid (show Below w.heap.size w (wr.drewN (q3 + q5)) by rw [← World.drewN_drewN]; exact B3.out.trans ((below_drewN _ q5).mono B3.out.size))
              go_wp2_with fail
              go_ret2
              exact ⟨Or.inl ⟨⟨F ++ td, FT.out⟩, ⟨ns, j, AB.out, L5.out, j1, hlt, by have := L6.out; have := HN.out; omega, GOOD.out, N.out, TK.out, TX.out⟩, rfl⟩, B5.out⟩
          · have N := Lib.hid (show FrE ts (bts s) 12 from Or.inr (Or.inr ⟨rfl, by have := L6.out; have := HN.out; omega, ns, AB.out, GOOD.out, Or.inr fun i h1 h2 => hrel.out.2 i h1 (by omega)⟩))
            have B3 := Lib.hid hrel.out.1
            clear hrel
            go_wp2_with fail
            go_ret2
            exact ⟨Or.inr ⟨12, N.out, rfl⟩, B3.out⟩
      · have D0 : (s.1.toList == (⟨#[]⟩ : ByteArray).toList) = false := by rw [ByteArray.toList_eq, ByteArray.toList_eq, beq_eq_false_iff_ne]; exact fun h => e0 ((eq_bytes _ _).2 h)
        have D1 : ¬ s.1.toList = [] := by rw [ByteArray.toList_eq]; exact fun h => e0 ((eq_bytes _ _).2 h)
        have D9 : s.1.toList.isEmpty = false := by rw [List.isEmpty_eq_false_iff]; exact D1
        have E0 := Lib.hid (show bts s ≠ [] from fun h => e0 ((eq_bytes _ _).2 h))
        clear e0
        rcases rparse_two s with ⟨ns, pa, ca⟩ | ⟨na, ca⟩
        · have CA := Lib.hid (ca wr)
          have AB := Lib.hid (show Abv (bts s) ns from Or.inr pa)
          have LN := Lib.hid (show ns.length ≤ 6 from pa.len)
          clear ca pa
          go_wp2_with fail
          refine CA.out.mono ?_; rintro e w2 ⟨v2, rfl, ⟨g2, off2, c2, rfl, -, -, -⟩, b2⟩
          have B2 := Lib.hid (B0.out.trans (b2.mono B0.out.size))
          clear b2 CA
          by_cases h6 : 6 ≤ ns.length
          · have N := Lib.hid (show FrE ts (bts s) 12 from Or.inr (Or.inr ⟨rfl, by have := L6.out; have := HN.out; omega, ns, AB.out, GOOD.out, Or.inl (by have := LN.out; omega)⟩))
            have n6 : ns.length ≤ 6 := LN.out
            have D2 : decide (6 ≤ (ns.length : Int)) = true := by simp; omega
            clear AB LN
            generalize ns.length = m at *
            go_wp2_with fail
            go_ret2
            exact ⟨Or.inr ⟨12, N.out, rfl⟩, B2.out⟩
          · have L5 := Lib.hid (show ns.length < 6 by omega)
            have n6 : ns.length ≤ 5 := by omega
            have D2 : decide (6 ≤ (ns.length : Int)) = false := by simp; omega
            obtain ⟨F, hF⟩ : ∃ F : ByteArray, F = s.1 ++ ⟨#[46]⟩ := ⟨_, rfl⟩
            have FF := Lib.hid (show F.data.toList = fr (bts s) by rw [fr, if_neg E0.out, hF]; simp [bts])
            have ss : s.1.size ≤ 1000 := s.2
            have FS : F.size ≤ 1001 := by rw [hF, ByteArray.size_append]; show s.1.size + 1 ≤ 1001; omega
            have HF := Lib.hid hF
            clear hF h6 LN
            obtain ⟨m, hm⟩ : ∃ m, m = ns.length := ⟨_, rfl⟩
            rw [← hm] at D2 n6 ⊢
            clear hm
            go_wp2_with fail
            rw [← HF.out]
            go_loopw [10] (fun si wr => ∃ k : Nat, 1 ≤ k ∧ k ≤ 1000 ∧ si = .int .i64 k ∧ Hid (Below w.heap.size w wr ∧ ∀ j, 1 ≤ j → j < k → ∃ x ∈ ts, PR (bts x) (ns ++ [j]))) (fun si _ => 1000 - (intOf si).toNat)
            case atStart => exact ⟨1, Nat.le_refl _, by omega, rfl, B2.out, fun j h1 h2 => by omega⟩
            case round =>
              obtain ⟨j, j1, j2, rfl, hrel⟩ := hrel
              by_cases hlt : j ≤ 999
              · have DC := fun V => decimal_any j (by omega) V
                obtain ⟨td, htd⟩ : ∃ td : ByteArray, td = ⟨(dec j).toArray⟩ := ⟨_, rfl⟩
                simp only [← htd] at DC
                have DCh := Lib.hid DC
                have tds : td.size ≤ 3 := by rw [htd, mk_size]; exact (dec_dot (by omega)).2
                have ok : OkN (ns ++ [j]) := ⟨by simp, by simp; have := L5.out; omega, fun a ha => by
                  rcases List.mem_append.1 ha with h | h
                  · exact AB.out.rng a h
                  · obtain rfl : a = j := by simpa using h
                    exact ⟨j1, hlt⟩⟩
                have TX := Lib.hid (show (F ++ td).data.toList = cd (ns ++ [j]) by
                  rw [cd_snoc AB.out j, ← show fr (bts s) = (if bts s = [] then [] else bts s ++ [46]) from rfl, ← FF.out, show dec j = td.data.toList by rw [htd, mk_list]]
                  simp)
                have OKJ := Lib.hid ok
                have FT := Lib.hid (show (F ++ td).size ≤ 1000 by
                  rw [← len_sz, TX.out]; have := ok.size; omega)
                clear DC ok htd
                go_wp2_with fail
                refine (DCh.out _).mono ?_; rintro e w3 ⟨rfl, q3, rfl⟩
                have B3 := Lib.hid (hrel.out.1.trans ((below_drewN wr q3).mono hrel.out.1.size))
                have HS := Lib.hid (HAS.out (wr.drewN q3) (F ++ td) B3.out)
                have TK := Lib.hid hrel.out.2
                clear hrel
                go_wp2_with fail
                refine HS.out.mono ?_; rintro e w4 ⟨z, rfl, hz, rfl⟩
                clear HS
                cases z with
                | true =>
                  have N := Lib.hid (show ∀ i, 1 ≤ i → i < j + 1 → ∃ x ∈ ts, PR (bts x) (ns ++ [i]) from fun i h1 h2 => by
                    by_cases e : i = j
                    · obtain ⟨y, hy, e2⟩ := hz.1 rfl
                      exact ⟨y, hy, by rw [e, show bts y = cd (ns ++ [j]) from by rw [← TX.out, ← e2]; rfl]; exact OKJ.out.pr⟩
                    · exact TK.out i h1 (by omega))
                  clear hz TK
                  go_wp2_with fail
                  go_roundw
                  case rel => exact ⟨j + 1, by omega, by omega, by go_num, B3.out, N.out⟩
                  case measure => simp [intOf]; omega
                | false =>
                  have N := Lib.hid (show ∀ x ∈ ts, ¬ PR (bts x) (ns ++ [j]) from fun x hx h => by
                    have := hz.2 ⟨x, hx, (eq_bytes _ _).2 (by rw [TX.out]; exact h.ok.2)⟩
                    cases this)
                  clear hz
                  go_wp2_with fail
                  refine (DCh.out _).mono ?_; rintro e w5 ⟨rfl, q5, rfl⟩
                  have B5 := Lib.hid (show Below w.heap.size w (wr.drewN (q3 + q5)) by rw [← World.drewN_drewN]; exact B3.out.trans ((below_drewN _ q5).mono B3.out.size))
                  go_wp2_with fail
                  go_ret2
                  exact ⟨Or.inl ⟨⟨F ++ td, FT.out⟩, ⟨ns, j, AB.out, L5.out, j1, hlt, by have := L6.out; have := HN.out; omega, GOOD.out, N.out, TK.out, TX.out⟩, rfl⟩, B5.out⟩
              · have N := Lib.hid (show FrE ts (bts s) 12 from Or.inr (Or.inr ⟨rfl, by have := L6.out; have := HN.out; omega, ns, AB.out, GOOD.out, Or.inr fun i h1 h2 => hrel.out.2 i h1 (by omega)⟩))
                have B3 := Lib.hid hrel.out.1
                clear hrel
                go_wp2_with fail
                go_ret2
                exact ⟨Or.inr ⟨12, N.out, rfl⟩, B3.out⟩
        · have CA := Lib.hid (ca wr)
          have N := Lib.hid (show FrE ts (bts s) 3 from Or.inr (Or.inl ⟨rfl, by have := L6.out; have := HN.out; omega, Or.inl fun ns h => h.elim (fun h => E0.out h.1) (na ns)⟩))
          clear ca na
          go_wp2_with fail
          refine CA.out.mono ?_; rintro e w2 ⟨rfl, b2⟩
          have B2 := Lib.hid (B0.out.trans (b2.mono B0.out.size))
          clear b2 CA
          go_wp2_with fail
          go_ret2
          exact ⟨Or.inr ⟨3, N.out, rfl⟩, B2.out⟩
end Go.Proofs.YtnjnjcgbdhiigaaGreatDoor
