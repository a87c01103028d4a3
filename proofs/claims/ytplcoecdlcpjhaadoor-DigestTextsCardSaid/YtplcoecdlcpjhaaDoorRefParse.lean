/- The contract of the reference's Parse; DigestTexts. -/
import Derived.Test.YtplcoecdlcpjhaaDoorRefHex
namespace Go.Proofs.YtplcoecdlcpjhaaDoor
open Go.RowKit

def pairs (t : ByteArray) (i : Nat) : List UInt8 := (List.range i).map fun j => UInt8.ofNat (16 * dg t (2 * j) + dg t (2 * j + 1))
theorem pairs_snoc (t : ByteArray) (i : Nat) : pairs t (i + 1) = pairs t i ++ [UInt8.ofNat (16 * dg t (2 * i) + dg t (2 * i + 1))] := by unfold pairs; rw [List.range_succ, List.map_append]; rfl
theorem pairs_len (t : ByteArray) (i : Nat) : (pairs t i).length = i := by simp [pairs]
theorem pairs_all (t : ByteArray) : pairs t 32 = partU t 64 := by
  unfold pairs partU
  apply List.map_congr_left
  intro j hj
  have := List.mem_range.1 hj
  unfold byteP; rw [if_pos (by omega)]
theorem cv_snoc (l : List UInt8) (n : Nat) (h : n < 256) : cv (l ++ [UInt8.ofNat n]) = cv l ++ [.int .u8 (n : Int)] := by
  unfold cv
  rw [List.map_append]
  simp only [List.map_cons, List.map_nil, UInt8.toNat_ofNat']
  rw [Nat.mod_eq_of_lt h]

theorem digit_q (c : Nat) (w : World) (hc : c < 256) :
    Calls Tryd.prog 28 #[.int .u8 c] w fun e w' => e = .returned (.int .i64 (dvI c)) ∧ ∃ n, w' = w.drewN n :=
  (digit_any c w hc).mono fun e w' ⟨he, hw⟩ => ⟨he, 0, by rw [hw]; rfl⟩

theorem dvI_cases (c : Nat) : (dv c = none ∧ dvI c = -1) ∨ ∃ a, a < 16 ∧ dv c = some a ∧ dvI c = (a : Int) := by
  unfold dvI
  cases h : dv c with
  | none => exact .inl ⟨rfl, rfl⟩
  | some a => exact .inr ⟨a, dv_lt h, rfl, rfl⟩

theorem cell_new_drewN (w : World) (n : Nat) (v : Value) (e : TypeId) : ((w.drewN n).alloc (.cells #[v] e)).cell? ((⟨w.heap.size, 0, none⟩ : Addr).add 0) = some v := by
  have h : ((w.drewN n).alloc (.cells #[v] e)).heap[w.heap.size]? = some (.cells #[v] e) := heap_alloc_new (w.drewN n) (.cells #[v] e)
  have := cell_of_row ((w.drewN n).alloc (.cells #[v] e)) w.heap.size 0 #[v] e (0, 0) h
  simpa [Addr.add] using this

set_option maxRecDepth 100000 in
set_option maxHeartbeats 1000000 in
theorem refParse_any (t : ByteArray) (w : World) :
    Calls Tryd.prog 18 #[.string t] w fun e w' => (¬ Good t ∧ e = .returned (.tuple #[.string ⟨#[]⟩, .int .i64 3]) ∨ Good t ∧ e = .returned (.tuple #[.string (unhexS t), .int .i64 0])) ∧ Below w.heap.size w w' := by
  have U48 : Tryd.prog.underlying 48 = some (.slice 5) := by kernel_rfl
  obtain ⟨i0, hi, hz0, hz1, hz2⟩ := info_parts (P := Tryd.prog) (e := 5) (z := .int .u8 0) (size := 1) (bytes := 1) (by kernel_rfl)
  go_enter Tryd.func18, Tryd.ntmps18
  by_cases hs : t.size = 64
  · have hs1 : (t.size : Int) = 64 := by omega
    go_wp2_with fail
    go_loopw [4, 5] (fun sd si wr => ∃ (i : Nat) (v : Value), i ≤ 32 ∧ sd = v ∧ si = .int .i64 i ∧ (∀ k, k < 2 * i → (dv (ch t k)).isSome = true) ∧ wr.ownsRow w.heap.size 5 1 v i (cv (pairs t i)) ∧ Below w.heap.size w wr)
      (fun _ si _ => 32 - (intOf si).toNat)
    case atStart =>
      refine ⟨0, _, by omega, rfl, rfl, fun k hk => by omega, ?_, (Below.refl _ _).alloc (Nat.le_refl _) _⟩
      exact World.ownsRow_lit w #[] 0 (Nat.le_refl _) (by decide) rfl
    case round =>
      obtain ⟨i, v, hi32, hsd, rfl, hgood, own, B⟩ := hrel
      have hsd2 := hsd.symm
      clear hsd
      subst hsd2
      by_cases hlt : i < 32
      · have hb := PlainAid.get_bt t
        have x0 := ch_bt t (2 * i)
        have x1 := ch_bt t (2 * i + 1)
        have l0 := ch_lt t (2 * i)
        have l1 := ch_lt t (2 * i + 1)
        have s0 : IntKind.i64.wrap (2 * (i : Int)) = 2 * (i : Int) := IntWalk.i64_in _ ⟨by omega, by omega⟩
        have s1 : IntKind.i64.wrap (2 * (i : Int) + 1) = 2 * (i : Int) + 1 := IntWalk.i64_in _ ⟨by omega, by omega⟩
        have n0 : (2 * (i : Int)).toNat = 2 * i := by omega
        have n1 : (2 * (i : Int) + 1).toNat = 2 * i + 1 := by omega
        have c0 : (0 : Int) ≤ 2 * (i : Int) := by omega
        have c1 : 2 * (i : Int) < (t.size : Int) := by omega
        have c2 : (0 : Int) ≤ 2 * (i : Int) + 1 := by omega
        have c3 : 2 * (i : Int) + 1 < (t.size : Int) := by omega
        have c4 : 2 * (i : Int) < 64 := by omega
        have c5 : 2 * (i : Int) + 1 < 64 := by omega
        have e1 : IntKind.i64.wrap ((i : Int) + 1) = (i : Int) + 1 := IntWalk.i64_in _ ⟨by omega, by omega⟩
        have HO := Lib.hid own
        have HB' := Lib.hid B
        have HS := Lib.hid hs
        have HG := Lib.hid hgood
        clear own B hs hgood
        generalize hx : ch t (2 * i) = x at x0 l0
        generalize hy : ch t (2 * i + 1) = y at x1 l1
        have HX := Lib.hid hx
        have HY := Lib.hid hy
        have D0 := fun (u : World) => digit_q x u l0
        have D1 := fun (u : World) => digit_q y u l1
        generalize hp : dvI x = p at D0
        generalize hq : dvI y = q at D1
        have HD0 := Lib.hid D0
        have HD1 := Lib.hid D1
        have HP := Lib.hid hp
        have HQ := Lib.hid hq
        clear D0 D1 hp hq hx hy
        go_wp2_with fail
        go_quiet (first
          | (go_at_call_of 28 x; refine Calls.quiet_of (HD0.out _))
          | (go_at_call_of 28 y; refine Calls.quiet_of (HD1.out _)))
        rcases dvI_cases x with ⟨nx, ex⟩ | ⟨a, la, sx, ex⟩
        · have hpx : p = -1 := by rw [← HP.out]; exact ex
          have NX := Lib.hid nx
          clear nx ex
          subst hpx
          go_wp2_with fail
          go_ret2
          exact ⟨.inl ⟨fun h => (by have := h.2 (2 * i) (by omega); rw [HX.out, NX.out] at this; cases this), rfl⟩, HB'.out.trans ⟨rfl, rfl, rfl, Nat.le_refl _, fun _ _ => rfl⟩⟩
        · have hpx : p = (a : Int) := by rw [← HP.out]; exact ex
          have SX := Lib.hid sx
          clear sx ex
          subst hpx
          rcases dvI_cases y with ⟨ny, ey⟩ | ⟨b, lb, sy, ey⟩
          · have hqy : q = -1 := by rw [← HQ.out]; exact ey
            have NY := Lib.hid ny
            clear ny ey
            subst hqy
            go_wp2_with fail
            go_ret2
            exact ⟨.inl ⟨fun h => (by have := h.2 (2 * i + 1) (by omega); rw [HY.out, NY.out] at this; cases this), rfl⟩, HB'.out.trans ⟨rfl, rfl, rfl, Nat.le_refl _, fun _ _ => rfl⟩⟩
          · have hqy : q = (b : Int) := by rw [← HQ.out]; exact ey
            have SY := Lib.hid sy
            clear sy ey
            subst hqy
            have z0 : decide ((a : Int) < 0) = false := by simp
            have z1 : decide ((b : Int) < 0) = false := by simp
            have w0 : IntKind.i64.wrap (16 * (a : Int)) = 16 * (a : Int) := IntWalk.i64_in _ ⟨by omega, by omega⟩
            have w1 : IntKind.i64.wrap (16 * (a : Int) + (b : Int)) = 16 * (a : Int) + (b : Int) := IntWalk.i64_in _ ⟨by omega, by omega⟩
            have w2 : IntKind.u8.wrap (16 * (a : Int) + (b : Int)) = 16 * (a : Int) + (b : Int) := IntWalk.u8_in _ ⟨by omega, by omega⟩
            have HO2 : (wr.drewN nq).ownsRow w.heap.size 5 1 v i (cv (pairs t i)) := HO.out
            have hsz : w.heap.size ≤ wr.heap.size := HB'.out.size
            have HO3 := Lib.hid HO2
            clear HO2
            go_wp2_with (at_builtin; refine wpList_append_own _ rfl (.tmp 33) (.tmp 39) 48 rfl w.heap.size 5 i0 (.int .u8 0) 1 1 U48 hi hz0 hz1 hz2 rfl (by decide) _ i _ rfl (HO3.out.alloc _) ⟨wr.heap.size, 0, none⟩ 1 1 [.int .u8 (16 * (a : Int) + (b : Int))] rfl rfl (by intro t u ht; match t, ht with | 0, ht => simp at ht; subst ht; exact cell_new_drewN wr nq _ _) (by intro u hu; simp at hu; subst hu; rfl) (by unfold maxLen; omega) (by omega) (by simp; omega) ?_)
            intro v' w5 own5 grow5 _
            have B5 := ((HB'.out.trans (show Below w.heap.size wr (wr.drewN nq) from ⟨rfl, rfl, rfl, Nat.le_refl _, fun _ _ => rfl⟩)).alloc hsz (.cells #[Value.int .u8 (16 * (a : Int) + (b : Int))] 5)).grown grow5 (by simp; omega) (fun k hk => (HO3.out.lt k hk).1)
            have E : cv (pairs t i) ++ [Value.int .u8 (16 * (a : Int) + (b : Int))] = cv (pairs t (i + 1)) := by
              have ga : dg t (2 * i) = a := by unfold dg; rw [HX.out, SX.out]; rfl
              have gb : dg t (2 * i + 1) = b := by unfold dg; rw [HY.out, SY.out]; rfl
              rw [pairs_snoc, ga, gb, cv_snoc _ _ (by omega)]
              push_cast; rfl
            rw [E] at own5
            have G5 : ∀ k, k < 2 * (i + 1) → (dv (ch t k)).isSome = true := fun k hk => by
              by_cases k0 : k = 2 * i
              · rw [k0, HX.out, SX.out]; rfl
              · by_cases k1 : k = 2 * i + 1
                · rw [k1, HY.out, SY.out]; rfl
                · exact HG.out k (by omega)
            clear HO HO3 HB' grow5
            go_wp2_with fail
            go_roundw
            case rel => exact ⟨i + 1, _, by omega, rfl, by go_num, G5, own5, B5⟩
            case measure => simp [intOf]; omega
      · obtain rfl : i = 32 := by omega
        obtain ⟨_, h0⟩ | ⟨G, cap, cur, hv, _⟩ := own.2
        · cases h0
        subst hv
        have hconv : (convert 48 9 (.slice (some ⟨G, 0, none⟩) 32 cap)).run Tryd.prog wr = .ok (.string (unhexS t)) wr := by
          have h := conv_own wr 32 cap (pairs t 32) U48 (pairs_len t 32) own
          rw [pairs_all] at h
          exact h
        go_wp2_with fail
        go_ret2
        exact ⟨.inr ⟨⟨hs, fun k hk => hgood k (by omega)⟩, rfl⟩, B⟩
  · have hs1 : ((t.size : Int) != 64) = true := by simp; omega
    go_wp2_with fail
    go_ret2
    exact ⟨.inl ⟨fun h => hs h.1, rfl⟩, Below.refl _ _⟩

set_option maxHeartbeats 1000000 in
theorem law_texts (a b : ByteArray) (w : World) (hT : Tabs w) :
    Calls Tryd.prog 5 #[.string a, .string b] w fun e w' => e = .returned (.bool true) ∧ Below w.heap.size w w' := by
  have AW := Lib.hid (awake_any w hT)
  have H1 : ∃ x e, (∀ u : World, Calls Tryd.prog 15 #[.string a] u fun r w' => r = .returned (.tuple #[.string x, .int .i64 e]) ∧ Below u.heap.size u w') ∧ (∀ u : World, Calls Tryd.prog 16 #[.string a] u fun r w' => r = .returned (.tuple #[.string x, .int .i64 e]) ∧ Below u.heap.size u w') := by
    by_cases h : a.size = 32
    · exact ⟨hexS a, 0, fun u => Hex_yes a u h, fun u => (refHex_any a u).mono fun r w' ⟨c, b⟩ => ⟨(by rcases c with ⟨n, _⟩ | ⟨_, c⟩; exact absurd h n; exact c), b⟩⟩
    · exact ⟨⟨#[]⟩, 1, fun u => Hex_no a u h, fun u => (refHex_any a u).mono fun r w' ⟨c, b⟩ => ⟨(by rcases c with ⟨_, c⟩ | ⟨n, _⟩; exact c; exact absurd n h), b⟩⟩
  have H2 : ∃ x e, (∀ u : World, Calls Tryd.prog 17 #[.string b] u fun r w' => r = .returned (.tuple #[.string x, .int .i64 e]) ∧ Below u.heap.size u w') ∧ (∀ u : World, Calls Tryd.prog 18 #[.string b] u fun r w' => r = .returned (.tuple #[.string x, .int .i64 e]) ∧ Below u.heap.size u w') := by
    by_cases h : Good b
    · exact ⟨unhexS b, 0, fun u => Parse_yes b u h, fun u => (refParse_any b u).mono fun r w' ⟨c, d⟩ => ⟨(by rcases c with ⟨n, _⟩ | ⟨_, c⟩; exact absurd h n; exact c), d⟩⟩
    · exact ⟨⟨#[]⟩, 3, fun u => Parse_no b u h, fun u => (refParse_any b u).mono fun r w' ⟨c, d⟩ => ⟨(by rcases c with ⟨_, c⟩ | ⟨n, _⟩; exact c; exact absurd n h), d⟩⟩
  obtain ⟨x, e, c1, c2⟩ := H1
  obtain ⟨y, f, c3, c4⟩ := H2
  have C1 := Lib.hid c1; have C2 := Lib.hid c2; have C3 := Lib.hid c3; have C4 := Lib.hid c4
  clear c1 c2 c3 c4
  by_cases hl : 200 < a.size
  · have h1 : decide ((200 : Int) < (a.size : Int)) = true := by simp; omega
    go_enter Tryd.func5, Tryd.ntmps5
    go_wp2_with fail
    refine AW.out.mono ?_; rintro e w1 ⟨rfl, b1⟩
    go_wp2_with fail
    go_ret
    exact ⟨rfl, b1⟩
  · have h1 : decide ((200 : Int) < (a.size : Int)) = false := by simp; omega
    by_cases hm : 200 < b.size
    · have h2 : decide ((200 : Int) < (b.size : Int)) = true := by simp; omega
      go_enter Tryd.func5, Tryd.ntmps5
      go_wp2_with fail
      refine AW.out.mono ?_; rintro e w1 ⟨rfl, b1⟩
      go_wp2_with fail
      go_ret
      exact ⟨rfl, b1⟩
    · have h2 : decide ((200 : Int) < (b.size : Int)) = false := by simp; omega
      clear hl hm
      go_enter Tryd.func5, Tryd.ntmps5
      go_wp2_with fail
      refine AW.out.mono ?_; rintro r w1 ⟨rfl, b1⟩
      go_wp2_with fail
      refine (C1.out _).mono ?_; rintro r w2 ⟨rfl, b2⟩
      go_wp2_with fail
      refine (C2.out _).mono ?_; rintro r w3 ⟨rfl, b3⟩
      go_wp2_with fail
      refine (C3.out _).mono ?_; rintro r w4 ⟨rfl, b4⟩
      go_wp2_with fail
      refine (C4.out _).mono ?_; rintro r w5 ⟨rfl, b5⟩
      go_wp2_with fail
      go_ret
      exact ⟨rfl, b1.trans ((b2.trans ((b3.trans ((b4.trans (b5.mono b4.size)).mono b3.size)).mono b2.size)).mono b1.size)⟩
end Go.Proofs.YtplcoecdlcpjhaaDoor
