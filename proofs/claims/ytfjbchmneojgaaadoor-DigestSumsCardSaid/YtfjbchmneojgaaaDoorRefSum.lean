/- The reference's Sum. -/
import Derived.Test.YtfjbchmneojgaaaDoorRefPerm
import Derived.Test.YtfjbchmneojgaaaDoorPad
namespace Go.Proofs.YtfjbchmneojgaaaDoor
open Go.RowKit

theorem bytesRow_at (s : ByteArray) (cap : Nat) (j : Nat) (hj : j < s.size) : (bytesRow s cap)[j]? = some (.int .u8 (bL s.data.toList j : Int)) := by
  unfold bytesRow
  rw [Array.getElem?_append_left (by simpa using hj)]
  obtain ⟨_, e, _⟩ := byt_get s j hj
  have e2 : s.data[j]? = some s[j] := by rw [← Array.getElem?_toList]; exact e
  rw [Array.getElem?_map, e2]
  unfold bL
  rw [List.getD_eq_getElem?_getD, e]; rfl
theorem bytesRow_size (s : ByteArray) (cap : Nat) (h : s.size ≤ cap) : (bytesRow s cap).size = cap := by
  unfold bytesRow
  rw [Array.size_append, Array.size_map, Array.size_replicate, show s.data.size = s.size from rfl]; omega
theorem BRow.congr {w : World} {g n cap : Nat} {B B' : Nat → Nat} (h : BRow w g n cap B) (e : ∀ j, j < n → B j = B' j) : BRow w g n cap B' :=
  ⟨h.lt, h.le, h.max, fun j hj => by rw [← e j hj]; exact h.cell j hj, h.there⟩
def sliceLen : Value → Nat | .slice _ n _ => n | _ => 0
/-- The pad's bytes ahead of the last one's mark. -/
def pre (l : List UInt8) (i : Nat) : Nat := if i < l.length then bL l i else if i = l.length then 6 else 0

theorem pad_lt (l : List UInt8) (i : Nat) : pad l i < 256 := by
  unfold pad
  split
  · exact UInt8.toNat_lt _
  · split
    · split <;> decide
    · split <;> decide

set_option maxRecDepth 100000 in
set_option maxHeartbeats 4000000 in
theorem refSum_any (s : ByteArray) (w : World) (hs : s.size ≤ 1000000) :
    Calls Tryd.prog 14 #[.string s] w fun e w' => e = .returned (.string (dgS s.data.toList)) ∧ Below w.heap.size w w' := by
  have U := Tryd.underlying23
  have U48 : Tryd.prog.underlying 48 = some (.slice 5) := by kernel_rfl
  obtain ⟨i0, hi, hz0, hz1, hz2⟩ := info_parts (P := Tryd.prog) (e := 5) (z := .int .u8 0) (size := 1) (bytes := 1) (by kernel_rfl)
  have ls : s.data.toList.length = s.size := by rw [Array.length_toList]; rfl
  have CV := run_bytes_of_string (P := Tryd.prog) w 9 48 5 s Tryd.underlying9 U48 Tryd.underlying5
  go_enter Tryd.func14, Tryd.ntmps14
  have hge := grownCap_ge w s.size 0 5
  have hcm := grownCap_le_maxLen w s.size 0 5 (by unfold maxLen; omega)
  have hb0 : BRow (w.drew.alloc (.cells (bytesRow s (grownCap w s.size 0 5)) 5 ((bytesRow s (grownCap w s.size 0 5)).size, (bytesRow s (grownCap w s.size 0 5)).size + 1))) w.heap.size s.size (grownCap w s.size 0 5) (bL s.data.toList) :=
    row_cells (heap_alloc_new w.drew _) s.size _ _ hge hcm (bytesRow_size s _ hge) (Or.inr (bytesRow_size s _ hge)) (fun j hj => bytesRow_at s _ j hj)
  have hb1 : BRow ((w.alloc (.cells (bytesRow s (grownCap w s.size 0 5)) 5 ((bytesRow s (grownCap w s.size 0 5)).size, (bytesRow s (grownCap w s.size 0 5)).size + 1))).alloc (.cells #[.int .u8 6] 5)).drew w.heap.size s.size (grownCap w s.size 0 5) (bL s.data.toList) :=
    hb0.below ((Below.refl _ _).alloc (Nat.le_refl _) (.cells #[.int .u8 6] 5))
  have cc : ((w.alloc (.cells (bytesRow s (grownCap w s.size 0 5)) 5 ((bytesRow s (grownCap w s.size 0 5)).size, (bytesRow s (grownCap w s.size 0 5)).size + 1))).alloc (.cells #[.int .u8 6] 5)).drew.cell? ⟨w.heap.size + 1, 0, none⟩ = some (.int .u8 ((6 : Nat) : Int)) := by
    simp
  have Bel0 : Below w.heap.size w ((w.alloc (.cells (bytesRow s (grownCap w s.size 0 5)) 5 ((bytesRow s (grownCap w s.size 0 5)).size, (bytesRow s (grownCap w s.size 0 5)).size + 1))).alloc (.cells #[.int .u8 6] 5)).drew := (((Below.refl _ w).alloc (Nat.le_refl _) _).alloc (by simp) _).drew
  have HB0 := Lib.hid hb1
  have CC := Lib.hid cc
  have Bel0 := Lib.hid Bel0
  clear hb1 cc
  have HS := Lib.hid hs
  have LS := Lib.hid ls
  clear hb0 hge hcm hs ls
  go_wp2_with (at_builtin; refine wpList_append_byte rfl (.tmp 10) (.tmp 11) 48 rfl 5 i0 U48 hi hz0 hz1 hz2 w.heap.size s.size (grownCap w s.size 0 5) 6 (bL s.data.toList) rfl HB0.out ⟨w.heap.size + 1, 0, none⟩ 1 rfl CC.out (by have := HS.out; omega) ?_)
  · intro g1 cap1 w1 R1 G1 e1
    have B1 : Below w.heap.size w w1 := Bel0.out.grown G1 Bel0.out.size (fun k hk => by cases hk; exact Nat.le_refl _)
    have L1 : w.heap.size ≤ g1 := by rcases e1 with rfl | rfl; exact Nat.le_refl _; omega
    have R1 := Lib.hid R1
    have B1 := Lib.hid B1
    have L1 := Lib.hid L1
    clear HB0 Bel0 G1 e1 CV
    have hL : ∃ L, L = s.data.toList := ⟨_, rfl⟩
    obtain ⟨L, hL⟩ := hL
    rw [← hL] at R1
    have HL := Lib.hid hL
    have R2 := Lib.hid (R1.out.congr (B' := pre L) (fun j hj => by
      have ll : L.length = s.size := by rw [HL.out]; exact LS.out
      unfold upN pre
      by_cases c : j = s.size
      · rw [if_pos c, if_neg (by omega), if_pos (by omega)]
      · rw [if_neg c, if_pos (by omega)]))
    clear R1 hL
    obtain ⟨q, hq⟩ : ∃ q, q = s.size / 136 := ⟨_, rfl⟩
    have HQ := Lib.hid hq
    clear hq
    go_wp2_with fail
    go_loopw [3] (fun s3 wr => ∃ n g cap : Nat, s3 = .slice (some ⟨g, 0, none⟩) n cap ∧ s.size + 1 ≤ n ∧ n ≤ 136 * (q + 1) ∧ BRow wr g n cap (pre L) ∧ Below w.heap.size w wr ∧ w.heap.size ≤ g) (fun s3 _ => 136 * (q + 1) - sliceLen s3)
    case atStart => exact ⟨s.size + 1, g1, cap1, rfl, Nat.le_refl _, by have := HQ.out; omega, R2.out, B1.out, L1.out⟩
    case round =>
      obtain ⟨n, g, cap, rfl, hn1, hn2, hR, hB, hg⟩ := hrel
      clear R2 B1 L1
      have n0 : n ≤ 1000136 := by have := HQ.out; have := HS.out; omega
      have r1 : (n : Int).tmod 136 = (n : Int) % 136 := Int.tmod_eq_emod_of_nonneg (by omega)
      have r2 : IntKind.i64.wrap ((n : Int) % 136) = (n : Int) % 136 := IntWalk.i64_in _ ⟨by omega, by omega⟩
      by_cases h0 : n % 136 = 0
      · have z1 : (((n : Int) % 136) != 0) = false := by simp; omega
        have hq1 : n = 136 * (q + 1) := by have := HQ.out; omega
        obtain ⟨m, rfl⟩ : ∃ m, n = m + 1 := ⟨n - 1, by omega⟩
        have s1 : IntKind.i64.wrap (((m + 1 : Nat) : Int) - 1) = (m : Int) := by rw [show ((m + 1 : Nat) : Int) - 1 = (m : Int) from by omega]; exact IntWalk.i64_in _ ⟨by omega, by omega⟩
        have s5 : IntKind.i64.wrap ((m : Int) + 1 - 1) = (m : Int) := by rw [show (m : Int) + 1 - 1 = (m : Int) from by omega]; exact IntWalk.i64_in _ ⟨by omega, by omega⟩
        have s2 : (0 : Int) ≤ (m : Int) := by omega
        have s3 : (m : Int) < ((m + 1 : Nat) : Int) := by omega
        have s4 : ((m : Int)).toNat = m := by omega
        have y0 := hR.cell m (by omega)
        have y1 := (hR.there m (by have := hR.le; omega)).2
        rw [Nat.zero_add] at y1
        have ll : L.length = s.size := by rw [HL.out]; exact LS.out
        obtain ⟨c, hc⟩ : ∃ c, c = pre L m := ⟨_, rfl⟩
        have hcv : c = 6 ∨ c = 0 := by
          rw [hc]; unfold pre
          rw [if_neg (by omega)]
          by_cases e : m = L.length
          · rw [if_pos e]; exact Or.inl rfl
          · rw [if_neg e]; exact Or.inr rfl
        have y2 : bits .or .u8 (c : Int) 128 = ((c + 128 : Nat) : Int) := by
          rcases hcv with h | h <;> rw [h] <;> decide
        rw [← hc] at y0
        have hq0 : L.length / 136 = q := by rw [ll]; exact HQ.out.symm
        have RF := Lib.hid ((hR.set m (c + 128) (by have := hR.le; omega) (m + 1) hR.le (fun j h1 h2 => h1)).congr (B' := pad L) (fun j hj => by
          unfold upN pad
          by_cases e : j = m
          · subst e
            rw [if_pos rfl, if_neg (by omega)]
            by_cases e2 : j = L.length
            · rw [if_pos e2, if_pos (by omega), hc]; unfold pre; rw [if_neg (by omega), if_pos e2]
            · rw [if_neg e2, if_pos (by omega), hc]; unfold pre; rw [if_neg (by omega), if_neg e2]
          · rw [if_neg e]; unfold pre
            by_cases e3 : j < L.length
            · rw [if_pos e3, if_pos e3]
            · rw [if_neg e3, if_neg e3]
              by_cases e4 : j = L.length
              · rw [if_pos e4, if_pos e4, if_neg (by omega)]
              · rw [if_neg e4, if_neg e4, if_neg (by omega)]))
        have BF := Lib.hid (hB.setCell (p := ⟨g, m, none⟩) hg (.int .u8 ((c + 128 : Nat) : Int)))
        have HQ1 := Lib.hid hq1
        have HQ0 := Lib.hid hq0
        clear hR hB hc hcv hq1 hq0 ll h0
        go_upto_region 5 with (fail)
        generalize hW0 : wr.setCell ⟨g, m, none⟩ (.int .u8 ((c + 128 : Nat) : Int)) = W0 at RF BF
        have eW : wr.setCell ⟨g, m, none⟩ (.int .u8 ((c : Int) + 128)) = W0 := by rw [← hW0]; push_cast; rfl
        rw [eW]
        clear hW0 eW y0 y1 y2 s1 s2 s3 s4 s5 z1 r1 r2
        have hz : Row (W0.alloc (.cells #[.int .u64 0, .int .u64 0, .int .u64 0, .int .u64 0, .int .u64 0, .int .u64 0, .int .u64 0, .int .u64 0, .int .u64 0, .int .u64 0, .int .u64 0, .int .u64 0, .int .u64 0, .int .u64 0, .int .u64 0, .int .u64 0, .int .u64 0, .int .u64 0, .int .u64 0, .int .u64 0, .int .u64 0, .int .u64 0, .int .u64 0, .int .u64 0, .int .u64 0] 23)) W0.heap.size 23 #[.int .u64 0, .int .u64 0, .int .u64 0, .int .u64 0, .int .u64 0, .int .u64 0, .int .u64 0, .int .u64 0, .int .u64 0, .int .u64 0, .int .u64 0, .int .u64 0, .int .u64 0, .int .u64 0, .int .u64 0, .int .u64 0, .int .u64 0, .int .u64 0, .int .u64 0, .int .u64 0, .int .u64 0, .int .u64 0, .int .u64 0, .int .u64 0, .int .u64 0] := Row.new _ _ _
        have hi : (Tryd.prog.info? 23).map (·.size) = some (#[.int .u64 0, .int .u64 0, .int .u64 0, .int .u64 0, .int .u64 0, .int .u64 0, .int .u64 0, .int .u64 0, .int .u64 0, .int .u64 0, .int .u64 0, .int .u64 0, .int .u64 0, .int .u64 0, .int .u64 0, .int .u64 0, .int .u64 0, .int .u64 0, .int .u64 0, .int .u64 0, .int .u64 0, .int .u64 0, .int .u64 0, .int .u64 0, .int .u64 0] : Array Value).size := by kernel_rfl
        go_upto_region 6 with (refine wpList_store_row rfl 23 _ _ rfl _ _ rfl rfl _ _ hz hi rfl (by kernel_rfl) ?_)
        have RZ : Row ((W0.alloc (.cells #[.int .u64 0, .int .u64 0, .int .u64 0, .int .u64 0, .int .u64 0, .int .u64 0, .int .u64 0, .int .u64 0, .int .u64 0, .int .u64 0, .int .u64 0, .int .u64 0, .int .u64 0, .int .u64 0, .int .u64 0, .int .u64 0, .int .u64 0, .int .u64 0, .int .u64 0, .int .u64 0, .int .u64 0, .int .u64 0, .int .u64 0, .int .u64 0, .int .u64 0] 23)).setRow W0.heap.size #[.int .u64 0, .int .u64 0, .int .u64 0, .int .u64 0, .int .u64 0, .int .u64 0, .int .u64 0, .int .u64 0, .int .u64 0, .int .u64 0, .int .u64 0, .int .u64 0, .int .u64 0, .int .u64 0, .int .u64 0, .int .u64 0, .int .u64 0, .int .u64 0, .int .u64 0, .int .u64 0, .int .u64 0, .int .u64 0, .int .u64 0, .int .u64 0, .int .u64 0]) W0.heap.size 23 (vec 25 (fun _ => 0)) := by
          have := hz.setRow #[.int .u64 0, .int .u64 0, .int .u64 0, .int .u64 0, .int .u64 0, .int .u64 0, .int .u64 0, .int .u64 0, .int .u64 0, .int .u64 0, .int .u64 0, .int .u64 0, .int .u64 0, .int .u64 0, .int .u64 0, .int .u64 0, .int .u64 0, .int .u64 0, .int .u64 0, .int .u64 0, .int .u64 0, .int .u64 0, .int .u64 0, .int .u64 0, .int .u64 0]
          rw [zero25] at this ⊢
          exact this
        have BZ : Below w.heap.size w ((W0.alloc (.cells #[.int .u64 0, .int .u64 0, .int .u64 0, .int .u64 0, .int .u64 0, .int .u64 0, .int .u64 0, .int .u64 0, .int .u64 0, .int .u64 0, .int .u64 0, .int .u64 0, .int .u64 0, .int .u64 0, .int .u64 0, .int .u64 0, .int .u64 0, .int .u64 0, .int .u64 0, .int .u64 0, .int .u64 0, .int .u64 0, .int .u64 0, .int .u64 0, .int .u64 0] 23)).setRow W0.heap.size #[.int .u64 0, .int .u64 0, .int .u64 0, .int .u64 0, .int .u64 0, .int .u64 0, .int .u64 0, .int .u64 0, .int .u64 0, .int .u64 0, .int .u64 0, .int .u64 0, .int .u64 0, .int .u64 0, .int .u64 0, .int .u64 0, .int .u64 0, .int .u64 0, .int .u64 0, .int .u64 0, .int .u64 0, .int .u64 0, .int .u64 0, .int .u64 0, .int .u64 0]) := below_setRow (BF.out.alloc BF.out.size _) BF.out.size _
        have RB : BRow ((W0.alloc (.cells #[.int .u64 0, .int .u64 0, .int .u64 0, .int .u64 0, .int .u64 0, .int .u64 0, .int .u64 0, .int .u64 0, .int .u64 0, .int .u64 0, .int .u64 0, .int .u64 0, .int .u64 0, .int .u64 0, .int .u64 0, .int .u64 0, .int .u64 0, .int .u64 0, .int .u64 0, .int .u64 0, .int .u64 0, .int .u64 0, .int .u64 0, .int .u64 0, .int .u64 0] 23)).setRow W0.heap.size #[.int .u64 0, .int .u64 0, .int .u64 0, .int .u64 0, .int .u64 0, .int .u64 0, .int .u64 0, .int .u64 0, .int .u64 0, .int .u64 0, .int .u64 0, .int .u64 0, .int .u64 0, .int .u64 0, .int .u64 0, .int .u64 0, .int .u64 0, .int .u64 0, .int .u64 0, .int .u64 0, .int .u64 0, .int .u64 0, .int .u64 0, .int .u64 0, .int .u64 0]) g (m + 1) cap (pad L) :=
          RF.out.below (below_setRow ((Below.refl _ W0).alloc (Nat.le_refl _) _) (Nat.le_refl _) _)
        have hgk : g < W0.heap.size := RF.out.lt
        have hwk : w.heap.size ≤ W0.heap.size := BF.out.size
        generalize (W0.alloc (.cells #[.int .u64 0, .int .u64 0, .int .u64 0, .int .u64 0, .int .u64 0, .int .u64 0, .int .u64 0, .int .u64 0, .int .u64 0, .int .u64 0, .int .u64 0, .int .u64 0, .int .u64 0, .int .u64 0, .int .u64 0, .int .u64 0, .int .u64 0, .int .u64 0, .int .u64 0, .int .u64 0, .int .u64 0, .int .u64 0, .int .u64 0, .int .u64 0, .int .u64 0] 23)).setRow W0.heap.size #[.int .u64 0, .int .u64 0, .int .u64 0, .int .u64 0, .int .u64 0, .int .u64 0, .int .u64 0, .int .u64 0, .int .u64 0, .int .u64 0, .int .u64 0, .int .u64 0, .int .u64 0, .int .u64 0, .int .u64 0, .int .u64 0, .int .u64 0, .int .u64 0, .int .u64 0, .int .u64 0, .int .u64 0, .int .u64 0, .int .u64 0, .int .u64 0, .int .u64 0] = W1 at RZ BZ RB ⊢
        generalize W0.heap.size = K at RZ hgk hwk ⊢
        clear hz hi RF BF
        have RZ := Lib.hid RZ
        have BZ := Lib.hid BZ
        have RB := Lib.hid RB
        have hgkne : g ≠ K := by omega
        have HM1 : Hid (m + 1 = 136 * (q + 1)) := HQ1
        go_wp2_with fail
        go_loopw [5] (fun s5 wr2 => ∃ k : Nat, k ≤ q + 1 ∧ s5 = .int .i64 ((136 * k : Nat) : Int) ∧ Row wr2 K 23 (vec 25 (blk (pad L) k)) ∧ BRow wr2 g (m + 1) cap (pad L) ∧ Below w.heap.size w wr2) (fun s5 _ => 136 * (q + 1) - (intOf s5).toNat)
        case atStart => exact ⟨0, Nat.zero_le _, rfl, RZ.out, RB.out, BZ.out⟩
        case round =>
          obtain ⟨k, hk, rfl, hR, hBR, hB⟩ := hrel
          clear RZ RB BZ
          by_cases hlt : k < q + 1
          · have c1 : ((136 * k : Nat) : Int) < ((m + 1 : Nat) : Int) := by have := HM1.out; omega
            obtain ⟨A, hA⟩ : ∃ A, A = 136 * k := ⟨_, rfl⟩
            rw [← hA] at c1 ⊢
            have c3 : decide ((A : Int) < (m : Int) + 1) = true := by simp; omega
            have c2 : A + 136 ≤ m + 1 := by have := HM1.out; omega
            have bsz : m + 1 ≤ 1000136 := n0
            have AE := Lib.hid hA
            have BK : blk (pad L) (k + 1) = perm (pf (blk (pad L) k) 0 (fun i => pad L (A + i)) 136) 24 := by rw [hA]; rfl
            generalize blk (pad L) k = G0 at hR BK
            have BK := Lib.hid BK
            have HR := Lib.hid hR
            have HBR := Lib.hid hBR
            have HB := Lib.hid hB
            clear hR hBR hB hA
            go_wp2_with fail
            go_loopw [6] (fun s6 wr3 => ∃ i : Nat, i ≤ 136 ∧ s6 = .int .i64 i ∧ Row wr3 K 23 (vec 25 (pf G0 0 (fun i => pad L (A + i)) i)) ∧ BRow wr3 g (m + 1) cap (pad L) ∧ Below w.heap.size w wr3) (fun s6 _ => 136 - (intOf s6).toNat)
            case atStart => exact ⟨0, Nat.zero_le _, rfl, HR.out, HBR.out, HB.out⟩
            case round =>
              obtain ⟨i, hi, rfl, hR, hBR, hB⟩ := hrel
              clear HR HBR HB
              by_cases hli : i < 136
              · have EN : pf G0 0 (fun i => pad L (A + i)) (i + 1) = put (pf G0 0 (fun i => pad L (A + i)) i) (0 + i) (pad L (A + i)) := rfl
                rw [Nat.zero_add] at EN
                generalize pf G0 0 (fun i => pad L (A + i)) i = F at hR EN
                have hbb := pad_lt L (A + i)
                have y0 := hBR.cell (A + i) (by omega)
                obtain ⟨b, hb⟩ : ∃ b, b = pad L (A + i) := ⟨_, rfl⟩
                rw [← hb] at hbb y0 EN
                have g0 := hR.cell (i := i / 8) (by omega)
                have z0 := hR.frozen (i / 8)
                have w1 : IntKind.i64.wrap ((A : Int) + (i : Int)) = ((A + i : Nat) : Int) := by rw [show (A : Int) + (i : Int) = ((A + i : Nat) : Int) from by push_cast; rfl]; exact IntWalk.i64_in _ ⟨by omega, by omega⟩
                have w2 : (0 : Int) ≤ ((A + i : Nat) : Int) := by omega
                have w3 : ((A + i : Nat) : Int) < ((m + 1 : Nat) : Int) := by omega
                have w4 : (((A + i : Nat) : Int)).toNat = A + i := by omega
                have w5 : IntKind.i64.wrap ((A : Int) + (i : Int)) = (A : Int) + (i : Int) := IntWalk.i64_in _ ⟨by omega, by omega⟩
                have w6 : (0 : Int) ≤ (A : Int) + (i : Int) := by omega
                have w7 : (A : Int) + (i : Int) < (m : Int) + 1 := by omega
                have w8 : ((A : Int) + (i : Int)).toNat = A + i := by omega
                clear w1 w2 w3 w4
                have q1 : (i : Int).tdiv 8 = (i : Int) / 8 := Int.tdiv_eq_ediv_of_nonneg (by omega)
                have q2 : IntKind.i64.wrap ((i : Int) / 8) = (i : Int) / 8 := IntWalk.i64_in _ ⟨by omega, by omega⟩
                have q3 : ((i : Int) / 8).toNat = i / 8 := by omega
                have q4 : 0 ≤ (i : Int) / 8 := by omega
                have q5 : (i : Int) / 8 < 25 := by omega
                have r1 : (i : Int).tmod 8 = (i : Int) % 8 := Int.tmod_eq_emod_of_nonneg (by omega)
                have r2 : IntKind.i64.wrap ((i : Int) % 8) = (i : Int) % 8 := IntWalk.i64_in _ ⟨by omega, by omega⟩
                have r3 : IntKind.i64.wrap (8 * ((i : Int) % 8)) = 8 * ((i : Int) % 8) := IntWalk.i64_in _ ⟨by omega, by omega⟩
                have r4 : 0 ≤ 8 * ((i : Int) % 8) := by omega
                have r5 : 8 * ((i : Int) % 8) ≤ 64 := by omega
                have r6 : (8 * ((i : Int) % 8)).toNat = 8 * (i % 8) := by omega
                have b1 : (0 : Int) ≤ (b : Int) := by omega
                have b2 : (b : Int) < 256 := by omega
                have b3 : IntKind.u64.wrap (b : Int) = (b : Int) := IntWalk.u64_in _ ⟨by omega, by omega⟩
                have hi1 : (i : Int) < 136 := by omega
                have Fq := (hR.set (i / 8) (F (i / 8) ^^^ byteAt i b)).drew
                rw [← byte_val F i b hbb, show upd F (i / 8) (F (i / 8) ^^^ byteAt i b) = put F i b from rfl, ← EN] at Fq
                have HFq := Lib.hid Fq
                have HBR := Lib.hid hBR
                have HB := Lib.hid hB
                have EB := Lib.hid hb
                clear hR hBR hB Fq EN hbb hb hi
                go_wp2_with fail
                go_still_tail 19, (by kernel_rfl)
                clear r1 r2 r3 r4 r5 r6 w5 w6 w7 w8 q1 q2 q3 q4 q5 b1 b2 b3 c1 c2 hi1 y0
                go_wp2_with fail
                go_roundw
                case rel => exact ⟨i + 1, by omega, by go_num, HFq.out, HBR.out.but hgkne (((But.drew K wr).trans (But.setCell K (i / 8) _ _))), HB.out.drew.setCell (p := ⟨K, i / 8, none⟩) hwk _⟩
                case measure => simp [intOf]; omega
              · obtain rfl : i = 136 := by omega
                generalize pf G0 0 (fun i => pad L (A + i)) 136 = F at hR BK
                have HPm := fun V => refPermute_any F V
                rw [← BK.out] at HPm
                have IG := info25 (blk (pad L) (k + 1))
                generalize hG1 : blk (pad L) (k + 1) = G1 at HPm IG
                have EG := Lib.hid hG1
                clear hG1
                have wA : IntKind.i64.wrap ((A : Int) + 136) = (A : Int) + 136 := IntWalk.i64_in _ ⟨by omega, by omega⟩
                have HPm := Lib.hid HPm
                have HR := Lib.hid hR
                have HBR := Lib.hid hBR
                have HB := Lib.hid hB
                have R0 := hR
                clear hR hBR hB hi hli
                go_wp2_with (first | (refine wpList_load_row rfl 23 _ rfl _ rfl _ _ _ _ R0 U rfl (info25 _) ?_))
                refine (HPm.out _).mono ?_
                rintro e w4 ⟨rfl, hb4⟩
                have R4 := HR.out.below hb4 HR.out.lt
                have BR4 := HBR.out.below hb4
                have B4 := HB.out.trans (hb4.mono HB.out.size)
                have R5 := Lib.hid (R4.setRow (vec 25 G1))
                have B5 := Lib.hid (below_setRow B4 hwk (vec 25 G1))
                have BR5 := Lib.hid (BR4.same (w' := w4.setRow K (vec 25 G1)) (setRow_other w4 K g _ (fun e => hgkne e)) (by rw [size_setRow]; exact Nat.le_refl _))
                clear hb4 R0 HR HBR HB BR4 B4
                go_wp2_with (first | (refine wpList_store_row rfl 23 _ _ rfl _ _ rfl rfl _ _ R4 IG (same_size _ _ _) (vec_one _ _) ?_))
                go_wp2_with fail
                go_roundw
                case rel => exact ⟨k + 1, by omega, by have := AE.out; first | (congr 1; omega) | (go_num), by rw [EG.out]; exact R5.out, BR5.out, B5.out⟩
                case measure => have := AE.out; have := HM1.out; simp [intOf]; omega
          · obtain rfl : k = q + 1 := by omega
            have c1 : ¬ ((136 * (q + 1) : Nat) : Int) < ((m + 1 : Nat) : Int) := by have := HM1.out; omega
            have EF := blk_all L
            have ll : L.length = s.size := by rw [HL.out]; exact LS.out
            rw [ll, ← HQ.out] at EF
            have ED : digS (blk (pad L) (q + 1)) = dgS s.data.toList := by
              rw [EF]
              unfold dgS finS
              rw [← HL.out, ll]
            generalize blk (pad L) (q + 1) = F at hR ED
            have ED := Lib.hid ED
            have HR := Lib.hid hR
            have HB := Lib.hid hB
            clear hR hBR hB EF ll hlt hk
            go_wp2_with fail
            go_loopw [7, 8] (fun s7 s8 wr5 => ∃ i g' cap' : Nat, i ≤ 32 ∧ s7 = .slice (some ⟨g', 0, none⟩) i cap' ∧ s8 = .int .i64 i ∧ BRow wr5 g' i cap' (dgB F) ∧ K < g' ∧ w.heap.size ≤ g' ∧ Row wr5 K 23 (vec 25 F) ∧ Below w.heap.size w wr5) (fun _ s8 _ => 32 - (intOf s8).toNat)
            case atStart => exact ⟨0, wr.heap.size, 0, by omega, rfl, rfl, row_cells (heap_alloc_new wr _) 0 0 _ (Nat.le_refl _) (Nat.zero_le _) rfl (Or.inl rfl) (fun j hj => absurd hj (Nat.not_lt_zero _)), HR.out.lt, HB.out.size, HR.out.alloc _, HB.out.alloc HB.out.size _⟩
            case round =>
              obtain ⟨i, g', cap', hi32, rfl, rfl, own, hKg, hwg, R, B⟩ := hrel
              clear HR HB
              by_cases hlt : i < 32
              · have y0 := R.cell (i := i / 8) (by omega)
                have q1 : (i : Int).tdiv 8 = (i : Int) / 8 := Int.tdiv_eq_ediv_of_nonneg (by omega)
                have q2 : IntKind.i64.wrap ((i : Int) / 8) = (i : Int) / 8 := IntWalk.i64_in _ ⟨by omega, by omega⟩
                have q3 : ((i : Int) / 8).toNat = i / 8 := by omega
                have q4 : 0 ≤ (i : Int) / 8 := by omega
                have q5 : (i : Int) / 8 < 25 := by omega
                have r1 : (i : Int).tmod 8 = (i : Int) % 8 := Int.tmod_eq_emod_of_nonneg (by omega)
                have r2 : IntKind.i64.wrap ((i : Int) % 8) = (i : Int) % 8 := IntWalk.i64_in _ ⟨by omega, by omega⟩
                have r3 : IntKind.i64.wrap (8 * ((i : Int) % 8)) = 8 * ((i : Int) % 8) := IntWalk.i64_in _ ⟨by omega, by omega⟩
                have r4 : 0 ≤ 8 * ((i : Int) % 8) := by omega
                have r5 : 8 * ((i : Int) % 8) ≤ 64 := by omega
                have r6 : (8 * ((i : Int) % 8)).toNat = 8 * (i % 8) := by omega
                have hgl : g' < wr.heap.size := own.lt
                have HO := Lib.hid (own.below ((Below.refl _ _).alloc (Nat.le_refl _) (.cells #[.int .u8 (dgB F i : Int)] 5)))
                have CC : (wr.alloc (.cells #[.int .u8 (dgB F i : Int)] 5)).cell? ⟨wr.heap.size, 0, none⟩ = some (.int .u8 (dgB F i : Int)) := by simp
                have CC := Lib.hid CC
                have HB' := Lib.hid (B.alloc B.size (.cells #[.int .u8 (dgB F i : Int)] 5))
                have HR' := Lib.hid (R.alloc (.cells #[.int .u8 (dgB F i : Int)] 5))
                have hKw : K < wr.heap.size := R.lt
                have hww : w.heap.size ≤ wr.heap.size := B.size
                clear R B own
                have v1 : IntKind.u8.wrap (wd (F (i / 8)) / 2 ^ (8 * (i % 8))) = (dgB F i : Int) := by
                  rw [wd_shr, show IntKind.u8.wrap (wd (F (i / 8) >>> (8 * (i % 8)))) = wd (F (i / 8) >>> (8 * (i % 8))) % 256 from IntKind.wrap_u8 _]
                  unfold dgB wd; push_cast; rfl
                go_wp2_with (at_builtin; refine wpList_append_byte rfl (.tmp 69) (.tmp 79) 48 rfl 5 i0 U48 hi hz0 hz1 hz2 g' i cap' (dgB F i) (dgB F) rfl HO.out ⟨wr.heap.size, 0, none⟩ 1 rfl CC.out (by omega) ?_)
                intro g2 cap2 w2 R2 G2 e2
                have R2 := Lib.hid (R2.congr (B' := dgB F) (fun j hj => by
                  unfold upN
                  by_cases c : j = i
                  · rw [if_pos c, c]
                  · rw [if_neg c]))
                have B2 := Lib.hid (HB'.out.grown G2 HB'.out.size (fun k hk => by cases hk; exact hwg))
                have RK := Lib.hid ((G2.block K (by simp; omega) (fun e => by have := Option.some.inj e; omega)).trans HR'.out)
                have hK2 : K < g2 := by rcases e2 with rfl | rfl; exact hKg; omega
                have hw2 : w.heap.size ≤ g2 := by rcases e2 with rfl | rfl; exact hwg; omega
                have e1 : IntKind.i64.wrap ((i : Int) + 1) = (i : Int) + 1 := IntWalk.i64_in _ ⟨by omega, by omega⟩
                clear G2 e2 HO CC HB' HR' v1
                go_wp2_with fail
                go_roundw
                case rel => exact ⟨i + 1, g2, cap2, by omega, rfl, by go_num, R2.out, hK2, hw2, RK.out, B2.out⟩
                case measure => simp [intOf]; omega
              · obtain rfl : i = 32 := by omega
                have hconv : (convert 48 9 (.slice (some ⟨g', 0, none⟩) 32 cap')).run Tryd.prog wr = .ok (.string (digS F)) wr := by
                  have h := run_convert_bytes_back (P := Tryd.prog) wr 48 9 5 ⟨g', 0, none⟩ cap' (digU F 32) U48 (by kernel_rfl) (by kernel_rfl) (fun j hj => by
                    rw [digU_len] at hj
                    have := own.cell j hj
                    have e := digL_get F 32 j hj
                    have e2 : (digL F 32)[j]? = some (.int .u8 (dgB F j : Int)) := by unfold digL; rw [List.getElem?_map, List.getElem?_range hj]; rfl
                    rw [show (⟨g', 0, none⟩ : Addr).add j = ⟨g', j, none⟩ from by simp [Addr.add]; omega, this, ← e2, e])
                  rw [digU_len] at h
                  exact h
                have HB := Lib.hid B
                clear B R own
                go_wp2_with fail
                go_ret
                exact ⟨by rw [← ED.out]; rfl, HB.out⟩
      · have z1 : (((n : Int) % 136) != 0) = true := by simp; omega
        have HR := Lib.hid (hR.below ((Below.refl _ _).alloc (Nat.le_refl _) (.cells #[.int .u8 0] 5)))
        have CC : (wr.alloc (.cells #[.int .u8 0] 5)).cell? ⟨wr.heap.size, 0, none⟩ = some (.int .u8 ((0 : Nat) : Int)) := by simp
        have CC := Lib.hid CC
        have HB := Lib.hid (hB.alloc hB.size (.cells #[.int .u8 0] 5))
        have N0 := Lib.hid n0
        have hlt : n + 1 ≤ 136 * (q + 1) := by omega
        have hw0 : w.heap.size ≤ wr.heap.size := hB.size
        clear hR hB h0
        go_wp2_with (at_builtin; refine wpList_append_byte rfl (.tmp 17) (.tmp 18) 48 rfl 5 i0 U48 hi hz0 hz1 hz2 g n cap 0 (pre L) rfl HR.out ⟨wr.heap.size, 0, none⟩ 1 rfl CC.out (by have := N0.out; omega) ?_)
        intro g2 cap2 w2 R2 G2 e2
        have B2 := Lib.hid (HB.out.grown G2 HB.out.size (fun k hk => by cases hk; exact hg))
        have L2 : w.heap.size ≤ g2 := by rcases e2 with rfl | rfl; exact hg; have := hw0; omega
        have R2 := Lib.hid (R2.congr (B' := pre L) (fun j hj => by
          have ll : L.length = s.size := by rw [HL.out]; exact LS.out
          unfold upN
          by_cases c : j = n
          · rw [if_pos c]; unfold pre; rw [if_neg (by omega), if_neg (by omega)]
          · rw [if_neg c]))
        clear G2 e2 HB HR CC
        go_wp2_with fail
        go_roundw
        case rel => exact ⟨n + 1, g2, cap2, rfl, by omega, by omega, R2.out, B2.out, L2⟩
        case measure => simp [sliceLen]; omega
end Go.Proofs.YtfjbchmneojgaaaDoor
