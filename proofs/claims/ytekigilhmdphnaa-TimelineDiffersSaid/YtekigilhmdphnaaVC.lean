/- ends. -/
import Derived.Test.YtekigilhmdphnaaVB
import Derived.Test.YtekigilhmdphnaaUM
import Derived.WalkArith
namespace Go.Proofs.Ytekigilhmdphnaa
open Go.RowKit Go.Maps Go.Sort Go.Shelf

def accK (n : Nat → Nat) (P : Nat → Nat → Pc) : Nat → List Int
  | 0 => []
  | k + 1 => accK n P k ++ eps (toL (P k) (n k))
/-- The days of ends, in order. -/
def Days2 (L M : List Pc) (ds : List Int) : Prop := ds.Pairwise (· < ·) ∧ ∀ x, x ∈ ds ↔ (∃ p ∈ L, x = p.f ∨ x = p.u) ∨ (∃ p ∈ M, x = p.f ∨ x = p.u)
def EndsR (L M : List Pc) (w : World) (e : Ending) (w' : World) : Prop := ∃ v ds, e = .returned v ∧ w'.ownsRow w.heap.size 3 1 v ds.length (ds.map encZ) ∧ Days2 L M ds ∧ ds.length ≤ 2 * (L.length + M.length) ∧ (v = .slice none 0 0 ↔ ds = []) ∧ Below w.heap.size w w'
def InR (Q : Nat → Pc) (n : Nat) : Prop := ∀ k, k < n → (0 ≤ (Q k).f ∧ (Q k).f ≤ 1048576) ∧ 0 ≤ (Q k).u ∧ (Q k).u ≤ 1048576

theorem IsP.gbn {w w0 wr : World} {p : Option Addr} {n c : Nat} {P : Nat → Pc} (h : IsP w p n c P) (hb : Below w.heap.size w w0) (g : w0.grownBy wr (some w.heap.size)) : IsP wr p n c P :=
  (h.below hb).gb g fun h0 a ha e => by
    obtain ⟨b, off, hp, hr⟩ := h.row h0
    rw [ha] at hp
    cases hp
    have h1 := hr.1
    injection e with e
    have e : w.heap.size = b := e
    omega
theorem accK_two (n : Nat → Nat) (P : Nat → Nat → Pc) : accK n P 2 = eps (toL (P 0) (n 0)) ++ eps (toL (P 1) (n 1)) := rfl
theorem accK_len (n : Nat → Nat) (P : Nat → Nat → Pc) (kk j : Nat) (hk : kk < 2) (hj : j ≤ n kk) (hn0 : n 0 ≤ 1000) (hn1 : n 1 ≤ 1000) : (accK n P kk ++ eps (toL (P kk) j)).length ≤ 4000 := by
  rw [List.length_append, eps_length, toL_length]
  rcases (by omega : kk = 0 ∨ kk = 1) with rfl | rfl
  · show 0 + _ ≤ _; omega
  · rw [show accK n P 1 = eps (toL (P 0) (n 0)) from rfl, eps_length, toL_length]; omega
theorem two_cases {Q : Nat → Prop} (h0 : Q 0) (h1 : Q 1) : ∀ k, k < 2 → Q k := fun k hk => by
  rcases (by omega : k = 0 ∨ k = 1) with rfl | rfl
  · exact h0
  · exact h1
theorem wf_small {x : Int} (h : 0 ≤ x) (g : x ≤ 1048576) : (Lit.int .i64 x).wf = true :=
   WalkArith.wf_i64 (by omega)

theorem gb_cell {w w' : World} {row : Option Nat} {b o : Nat} (g : w.grownBy w' row) (hb : b < w.heap.size) (hne : some b ≠ row) : w'.cell? ⟨b, o, none⟩ = w.cell? ⟨b, o, none⟩ := World.cell?_of_block (a := ⟨b, o, none⟩) (g.block b hb hne)
theorem Mp.lt {w : World} {B : Nat} {acc : List Int} (h : Mp w B acc) : B < w.heap.size := World.ownsMap.lt h
theorem Mp.put2 {w : World} {B : Nat} {acc acc' : List Int} {x : Int} (h : w.ownsMap Try.prog 3 (plainElem (H := Unit) Try.prog 4) B (acc.length + 1) ((setOf (.lit (.bool true)) (acc.map (Lit.int .i64))).put (.int .i64 x) (.lit (.bool true)))) (e : acc' = acc ++ [x]) : Mp w B acc' := e ▸ Mp.put h

theorem intKeys_length (D : DataW Unit) : (intKeys D).length = Maps.size D := by cases D <;> simp [intKeys, Maps.size]
theorem ends_end {w wr w2 : World} {B n0 n1 : Nat} {P0 P1 : Nat → Pc} {v : Value} {ss : List Int} (hm : Mp wr B (eps (toL P0 n0) ++ eps (toL P1 n1)))
    (hS : ss.Perm (intKeys (setOf (H := Unit) (.lit (.bool true)) ((eps (toL P0 n0) ++ eps (toL P1 n1)).map (Lit.int .i64)))))
    (hrow : w2.ownsRow wr.heap.size 3 1 v ss.length ((ss.mergeSort (fun x y => decide (x ≤ y))).map encZ)) (hnil : v = .slice none 0 0 ↔ ss = []) (hb : Below w.heap.size w w2) (hz : w.heap.size ≤ wr.heap.size) :
    EndsR (toL P0 n0) (toL P1 n1) w (.returned v) w2 := by
  obtain ⟨nd, mm⟩ := hm.keys hS
  obtain ⟨a1, a2⟩ := asc_sort nd
  have hl := List.length_mergeSort (le := fun x y : Int => decide (x ≤ y)) ss
  have hs := hm.size
  rw [← intKeys_length, ← hS.length_eq, List.length_append, eps_length, eps_length] at hs
  refine ⟨v, ss.mergeSort (fun x y => decide (x ≤ y)), rfl, ?_, ⟨a1, fun x => ?_⟩, by rw [hl]; omega, ?_, hb⟩
  · rw [hl]; exact ownsRow_base_a hrow hz
  · rw [a2 x, mm x, List.mem_append, mem_eps, mem_eps]
  · rw [hnil]
    constructor
    · rintro rfl; simp
    · intro e
      rw [e] at hl
      exact List.length_eq_zero_iff.1 hl.symm

set_option maxRecDepth 100000 in
set_option maxHeartbeats 4000000 in
theorem ends_any (p : Nat → Option Addr) (n c : Nat → Nat) (P : Nat → Nat → Pc) (w : World) (h0 : IsP w (p 0) (n 0) (c 0) (P 0)) (h1 : IsP w (p 1) (n 1) (c 1) (P 1)) (hn0 : n 0 ≤ 1000) (hn1 : n 1 ≤ 1000) (r0 : InR (P 0) (n 0)) (r1 : InR (P 1) (n 1)) :
    Calls Try.prog 53 #[.slice (p 0) (n 0) (c 0), .slice (p 1) (n 1) (c 1)] w (EndsR (toL (P 0) (n 0)) (toL (P 1) (n 1)) w) := by
  have hmm := @run_makeMap Try.prog
  have HP := Lib.hid (two_cases (Q := fun k => IsP w (p k) (n k) (c k) (P k)) h0 h1)
  have HN := Lib.hid (two_cases (Q := fun k => n k ≤ 1000) hn0 hn1)
  have HR := Lib.hid (two_cases (Q := fun k => InR (P k) (n k)) r0 r1)
  have HL := Lib.hid (fun kk j a b => accK_len n P kk j a b hn0 hn1)
  have MP := Mp.new w
  have al := (Below.refl w.heap.size w).alloc (Nat.le_refl _) (.map #[] 0)
  have al2 := al.alloc (by simp) (.cells #[.slice (p 0) (n 0) (c 0), .slice (p 1) (n 1) (c 1)] 22)
  have MP := Lib.hid (MP.kept (row := none) (World.grownBy_alloc _ _ _) (by simp) : Mp ((w.alloc (.map #[] 0)).alloc (.cells #[.slice (p 0) (n 0) (c 0), .slice (p 1) (n 1) (c 1)] 22)) w.heap.size [])
  have CE := Lib.hid (two_cases (Q := fun k => ((w.alloc (.map #[] 0)).alloc (.cells #[.slice (p 0) (n 0) (c 0), .slice (p 1) (n 1) (c 1)] 22)).cell? ⟨w.heap.size + 1, k, none⟩ = some (.slice (p k) (n k) (c k))) (by simp) (by simp))
  have SZ := Lib.hid (show ((w.alloc (.map #[] 0)).alloc (.cells #[.slice (p 0) (n 0) (c 0), .slice (p 1) (n 1) (c 1)] 22)).heap.size = w.heap.size + 2 by simp)
  have AL := Lib.hid al2
  clear al al2 h0 h1 r0 r1 hn0 hn1
  go_enter Try.func53, Try.ntmps53
  go_wp2_with fail
  generalize (w.alloc (.map #[] 0)).alloc (.cells #[.slice (p 0) (n 0) (c 0), .slice (p 1) (n 1) (c 1)] 22) = w0 at *
  go_loopg [15] 2 (fun gg s15 wr => ∃ kk : Nat, kk ≤ 2 ∧ 2 - kk ≤ gg ∧ s15 = .int .i64 kk ∧ Aside (Mp wr w.heap.size (accK n P kk)) ∧ Aside (w0.grownBy wr (some w.heap.size)))
  case atStart => exact ⟨0, Nat.zero_le _, by omega, rfl, MP.out, ⟨rfl, rfl, rfl, Nat.le_refl _, fun _ _ _ => rfl⟩⟩
  case round =>
    obtain ⟨kk, hkk, hg, rfl, MK, GK⟩ := hrel
    by_cases hlt : kk < 2
    · have hltz : (kk : Int) < 2 := by omega
      have hz0 : (0 : Int) ≤ (kk : Int) := by omega
      have l0 : wr.cell? ⟨w.heap.size + 1, kk, none⟩ = some (.slice (p kk) (n kk) (c kk)) := by
        rw [← CE.out kk hlt]
        exact World.cell?_of_block (a := ⟨w.heap.size + 1, kk, none⟩) (GK.out.block _ (by show w.heap.size + 1 < _; rw [SZ.out]; omega) (by simp))
      have hp := Lib.hid (HP.out kk hlt)
      have hnk := Lib.hid (HN.out kk hlt)
      have hrk := Lib.hid (HR.out kk hlt)
      have hlk := Lib.hid (fun j => HL.out kk j hlt)
      have AK := Lib.hid (show accK n P (kk + 1) = accK n P kk ++ eps (toL (P kk) (n kk)) from rfl)
      generalize hpq : p kk = q at l0 hp ⊢
      generalize hcq : c kk = cc at l0 hp ⊢
      generalize P kk = Q at *
      generalize hnq : n kk = m at *
      generalize accK n P kk = acc at *
      go_wp2_with fail
      have M0 : Mp wr w.heap.size (acc ++ eps (toL Q 0)) := by rw [show eps (toL Q 0) = [] from rfl, List.append_nil]; exact MK.out
      have M0 := Lib.hid M0
      clear MK l0 hpq hcq hnq
      go_loopg [21] m (fun gg s21 wr => ∃ j : Nat, j ≤ m ∧ m - j ≤ gg ∧ s21 = .int .i64 j ∧ Aside (Mp wr w.heap.size (acc ++ eps (toL Q j))) ∧ Aside (w0.grownBy wr (some w.heap.size)))
      case atStart => exact ⟨0, Nat.zero_le _, by omega, rfl, M0.out, GK.out⟩
      case round =>
        obtain ⟨j, hj, hg, rfl, MJ, GJ⟩ := hrel
        by_cases hjt : j < m
        · have hjz : (j : Int) < (m : Int) := by omega
          have hz0 : (0 : Int) ≤ (j : Int) := by omega
          have h1000 := hnk.out
          obtain ⟨b, off, rfl, hp3⟩ := (hp.out.gbn AL.out GJ.out).row (by omega)
          obtain ⟨l0, l1, l2⟩ := hp3.2 j hjt
          obtain ⟨⟨f0, f1⟩, g0, g1⟩ := hrk.out j hjt
          have K1 := Lib.hid (keyOf_int_mk Try.underlying3 (wf_small f0 f1))
          have K2 := Lib.hid (keyOf_int_mk Try.underlying3 (wf_small g0 g1))
          have LJ := hlk.out (j + 1) (by omega)
          have ES : acc ++ eps (toL Q (j + 1)) = acc ++ eps (toL Q j) ++ [(Q j).f] ++ [(Q j).u] := by rw [toL_succ, eps_snoc, List.append_assoc, List.append_assoc, List.append_assoc]
          rw [ES] at LJ
          have ES := Lib.hid ES
          clear f0 f1 g0 g1 hp3
          generalize Q j = x at *
          generalize acc ++ eps (toL Q j) = ac at *
          have L1 := Lib.hid (show ac.length < maxLen by rw [List.length_append, List.length_append] at LJ; unfold maxLen; omega)
          have L2 := Lib.hid (show (ac ++ [x.f]).length < maxLen by rw [List.length_append] at LJ; unfold maxLen; omega)
          have MB := Lib.hid (MJ.out.kept (row := none) (World.grownBy_alloc wr (.cells #[.int .i64 x.f, .int .i64 x.u, .int .i64 x.v] 47) none) (by simp))
          have NB := Lib.hid (show some wr.heap.size ≠ some w.heap.size by have := MJ.out.lt; intro e; injection e; omega)
          have G1 := Lib.hid (gb_trans GJ.out (World.grownBy_alloc wr (.cells #[.int .i64 x.f, .int .i64 x.u, .int .i64 x.v] 47) _))
          have tok1 : True := trivial
          clear LJ MJ GJ
          go_wp2_with (first
            | (at_mapUpdate; have _t := tok1; refine wpList_mapUpdate_own _ rfl _ _ _ 72 rfl 3 4 lawI Try.underlying72 (plainElem (H := Unit) Try.prog 4) w.heap.size ac.length (setOf (.lit (.bool true)) (ac.map (Lit.int .i64))) rfl MB.out L1.out _ _ _ rfl rfl K1.out _ [] (plainElem_bool Try.underlying4 true) ?_; intro w2 own2 g2; have c1 := (gb_cell (o := 1) g2 (by simp) NB.out).trans (show _ = some (.int .i64 x.u) by simp); have O2 := Lib.hid (Mp.put own2); have G2 := Lib.hid (gb_trans G1.out g2); clear tok1 own2 g2)
            | (at_mapUpdate; refine wpList_mapUpdate_own _ rfl _ _ _ 72 rfl 3 4 lawI Try.underlying72 (plainElem (H := Unit) Try.prog 4) w.heap.size (ac ++ [x.f]).length (setOf (.lit (.bool true)) ((ac ++ [x.f]).map (Lit.int .i64))) rfl O2.out L2.out _ _ _ rfl rfl K2.out _ [] (plainElem_bool Try.underlying4 true) ?_; intro w3 own3 g3; have O3 := Lib.hid (Mp.put2 own3 ES.out); have G3 := Lib.hid (gb_trans G2.out g3); clear own3 g3))
          go_roundg (m - (j + 1))
          case measure => omega
          case rel => exact ⟨j + 1, by omega, by omega, by go_num, O3.out, G3.out⟩
        · have : j = m := by omega
          subst this
          have hjz : ¬ (j : Int) < (j : Int) := by omega
          have MK := Lib.hid (show Mp wr w.heap.size (accK n P (kk + 1)) from AK.out ▸ MJ.out)
          have GK2 := Lib.hid GJ.out
          clear MJ GJ
          go_wp2_with fail
          go_roundg (2 - (kk + 1))
          case measure => omega
          case rel => exact ⟨kk + 1, by omega, by omega, by go_num, MK.out, GK2.out⟩
    · obtain rfl : kk = 2 := by omega
      have hltz : ¬ ((2 : Nat) : Int) < 2 := by omega
      have MF := Lib.hid (show Mp wr w.heap.size (eps (toL (P 0) (n 0)) ++ eps (toL (P 1) (n 1))) from MK.out)
      have BK := Lib.hid (AL.out.grown GK.out AL.out.size (fun j hj => by cases hj; exact Nat.le_refl _))
      have CK := Lib.hid (keys_any (some w.heap.size) wr)
      have SZ2 := MF.out.size
      rw [List.length_append, eps_length, eps_length, toL_length, toL_length] at SZ2
      have a0 := HN.out 0 (by omega)
      have a1 := HN.out 1 (by omega)
      have CS := Lib.hid (sorted_any w.heap.size _ _ _ wr MF.out (by unfold maxLen; omega) (by omega))
      clear MK GK SZ2 a0 a1
      go_wp2_with (first
        | (go_at_call 60; refine CK.out.mono ?_; rintro e w2 ⟨rfl, rfl⟩)
        | (go_at_call 59; refine CS.out.mono ?_; rintro e w2 ⟨v, ss, rfl, hS, hrow, hnil, hb⟩))
      go_ret
      exact ends_end (MF.out) hS hrow hnil (hb.mono BK.out.size |> BK.out.trans) (BK.out.size)
end Go.Proofs.Ytekigilhmdphnaa
