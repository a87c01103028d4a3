/- The set of a version's codes: finder. -/
import Derived.Test.YtfgpmghaebdhpaaGreatDoorFJ
import Derived.Maps.OwnOps
import Derived.Maps.OwnSet
import Derived.StringKeys
namespace Go.Proofs.YtfgpmghaebdhpaaGreatDoor
open Go.RowKit Go.Maps Go.Shelf

theorem lawS : Keyed Tryz.prog 9 := string_keyed Tryz.underlying9
theorem keyS (s : Txt) : keyOf Tryz.prog 9 (.string s.1) = some (.string s.1.data.toList) := Go.WideMaps.keyOf_string_mk Tryz.underlying9 (Nat.le_trans s.2 (by unfold maxLen; omega))
def litS (s : Txt) : Lit := .string s.1.data.toList
/-- What lies in the map: a key for each text of a list. -/
def Ms (w : World) (B : Nat) (acc : List Txt) : Prop := w.ownsMap Tryz.prog 9 (plainElem (H := Unit) Tryz.prog 4) B acc.length (setOf (.lit (.bool true)) (acc.map litS))
theorem Ms.new (w : World) : Ms (w.alloc (.map #[] 0)) w.heap.size [] := World.ownsMap_made w _ _ _
theorem Ms.kept {w w' : World} {B : Nat} {acc : List Txt} {row : Option Nat} (h : Ms w B acc) (hg : w.grownBy w' row) (hne : some B ≠ row) : Ms w' B acc := World.ownsMap.kept h hg hne
theorem Ms.below {w w' : World} {B : Nat} {acc : List Txt} (h : Ms w B acc) (hb : Below w.heap.size w w') : Ms w' B acc := h.kept (row := none) (nGb hb) (by simp)
theorem Ms.put {w : World} {B : Nat} {acc : List Txt} {x : Txt} (h : w.ownsMap Tryz.prog 9 (plainElem (H := Unit) Tryz.prog 4) B (acc.length + 1) ((setOf (.lit (.bool true)) (acc.map litS)).put (litS x) (.lit (.bool true)))) : Ms w B (acc ++ [x]) := by
  unfold Ms
  rw [List.map_append, List.map_cons, List.map_nil, setOf_snoc, List.length_append]
  exact h
set_option maxRecDepth 100000 in
theorem Ms.add {w : World} {B : Nat} {acc : List Txt} (h : Ms w B acc) {x : Txt} (hl : acc.length ≤ 1000000) :
    ∃ w', (Instr.mapUpdate 93 (.map (some B)) (.string x.1) (.bool true)).run Tryz.prog w = .ok () w' ∧ Ms w' B (acc ++ [x]) ∧ w.grownBy w' (some B) := by
  obtain ⟨w', hrun, hown, hg⟩ := World.ownsMap.update h lawS Tryz.underlying93 (by unfold maxLen; omega) (keyS x) (plainElem_bool Tryz.underlying4 true)
  exact ⟨w', hrun, Ms.put hown, hg⟩
theorem run_mkMs (z : Int) (w : World) : (Instr.makeMap 93 (some (.int .i64 z))).run Tryz.prog w = .ok (.map (some w.heap.size)) (w.alloc (.map #[] 0)) := by
  kernel_rfl

/-- A version: its number, its span, its classes, and what was moved, as a value. -/
structure Pl where
  ve : Int
  fr : Int
  un : Int
  cs : List Cl
  p : Option Addr
  c : Nat
  mv : Value
def Pl.cv (x : Pl) : Value := .slice x.p x.cs.length x.c
def Pl.val (x : Pl) : Value := .agg #[.int .i64 x.ve, .int .i64 x.fr, .int .i64 x.un, x.cv, x.mv]
structure FdL (cs : List Cl) (w : World) (W : World) (k : Nat) (wr : World) : Prop where
  ms : Ms wr (w.heap.size + 1) ((cs.take k).map (·.co))
  bel : Below w.heap.size w wr
  mid : W.grownBy wr (some (w.heap.size + 1))
set_option maxRecDepth 100000 in
set_option maxHeartbeats 8000000 in
theorem finder_any (x : Pl) (w : World) (hv : IsCl w x.cv x.cs) (hn : x.cs.length ≤ 1000) (qm : Option Addr) (nm cm : Nat) (hm : x.mv = .slice qm nm cm) :
    Calls Tryz.prog 47 #[x.val] w fun e w' => ∃ B b, e = .returned (.func (.func 53) #[] #[.pointer (some ⟨B, 0, none⟩)]) ∧ w'.cell? ⟨B, 0, none⟩ = some (.map (some b)) ∧ Ms w' b (x.cs.map (·.co)) ∧ Below w.heap.size w w' := by
  obtain ⟨ve, fr, un, cs, p, c, mv⟩ := x
  obtain rfl : mv = .slice qm nm cm := hm
  replace hv : IsCl w (.slice p cs.length c) cs := hv
  replace hn : cs.length ≤ 1000 := hn
  show Calls Tryz.prog 47 #[.agg #[.int .i64 ve, .int .i64 fr, .int .i64 un, .slice p cs.length c, .slice qm nm cm]] w fun e w' => ∃ B b, e = .returned (.func (.func 53) #[] #[.pointer (some ⟨B, 0, none⟩)]) ∧ w'.cell? ⟨B, 0, none⟩ = some (.map (some b)) ∧ Ms w' b (cs.map (·.co)) ∧ Below w.heap.size w w'
  obtain ⟨p', c', e', hc, hp⟩ := hv
  obtain ⟨rfl, -, rfl⟩ := Value.slice.inj e'
  obtain ⟨n, hnn⟩ : ∃ n, n = cs.length := ⟨_, rfl⟩
  rw [← hnn] at hn hc ⊢
  have HN := Lib.hid hnn
  have HP := Lib.hid hp
  have hmm := run_mkMs (n : Int)
  have B1 := (Below.refl w.heap.size w).alloc (Nat.le_refl _) (.cells #[.int .i64 ve, .int .i64 fr, .int .i64 un, .slice p n c, .slice qm nm cm] 54)
  have C1 := nCell w #[.int .i64 ve, .int .i64 fr, .int .i64 un, .slice p n c, .slice qm nm cm] 54 3
  have s1 : (w.alloc (.cells #[.int .i64 ve, .int .i64 fr, .int .i64 un, .slice p n c, .slice qm nm cm] 54)).heap.size = w.heap.size + 1 := by simp
  obtain ⟨w1, hw1⟩ : ∃ w1, w1 = w.alloc (.cells #[.int .i64 ve, .int .i64 fr, .int .i64 un, .slice p n c, .slice qm nm cm] 54) := ⟨_, rfl⟩
  rw [← hw1] at B1 C1 s1
  have M2 := Ms.new w1
  have B2 := (Below.refl w1.heap.size w1).alloc (Nat.le_refl _) (.map #[] 0)
  have s2 : (w1.alloc (.map #[] 0)).heap.size = w.heap.size + 1 + 1 := by simp [s1]
  obtain ⟨w2, hw2⟩ : ∃ w2, w2 = w1.alloc (.map #[] 0) := ⟨_, rfl⟩
  rw [← hw2] at M2 B2 s2
  have B3 := (Below.refl w2.heap.size w2).alloc (Nat.le_refl _) (.cells #[.map (some (w.heap.size + 1))] 93)
  have C3 := nCell w2 #[.map (some (w.heap.size + 1))] 93 0
  have M3 := M2.below B3
  have s3 : (w2.alloc (.cells #[.map (some (w.heap.size + 1))] 93)).heap.size = w.heap.size + 1 + 1 + 1 := by simp [s2]
  obtain ⟨w3, hw3⟩ : ∃ w3, w3 = w2.alloc (.cells #[.map (some (w.heap.size + 1))] 93) := ⟨_, rfl⟩
  rw [← hw3] at M3 B3 C3 s3
  have B23 := B2.trans (B3.mono B2.size)
  have e3 : w3.cell? ⟨w.heap.size, 3, none⟩ = some (.slice p n c) := (B23.cell (p := ⟨w.heap.size, 3, none⟩) (by show w.heap.size < w1.heap.size; omega)).trans C1
  have eb : w3.cell? ⟨w.heap.size + 1 + 1, 0, none⟩ = some (.map (some (w.heap.size + 1))) := by rw [s2] at C3; exact C3
  have BA := Lib.hid (B1.trans (B23.mono B1.size))
  rw [s1] at M3
  have M3 := Lib.hid M3
  have S3 := Lib.hid s3
  have EB := Lib.hid eb
  have E3 := Lib.hid e3
  have HW := Lib.hid (show w3 = ((w.alloc (.cells #[.int .i64 ve, .int .i64 fr, .int .i64 un, .slice p n c, .slice qm nm cm] 54)).alloc (.map #[] 0)).alloc (.cells #[.map (some (w.heap.size + 1))] 93) by rw [hw3, hw2, hw1])
  clear hp hnn e' B1 C1 s1 hw1 M2 B2 s2 hw2 B3 C3 s3 hw3 B23 w1 w2 eb e3
  go_enter Tryz.func47, Tryz.ntmps47
  go_upto_region 2 with (fail)
  have hw := HW.out
  have e3 := E3.out
  rw [← hw]
  clear hw hmm HW
  go_wp2_with fail
  go_loopw [13] (fun si wr => ∃ k : Nat, k ≤ n ∧ si = .int .i64 k ∧ Hid (FdL cs w w3 k wr)) (fun si _ => n - (intOf si).toNat)
  case atStart => exact ⟨0, Nat.zero_le _, rfl, ⟨by rw [List.take_zero]; exact M3.out, BA.out, grown_refl _ _⟩⟩
  case round =>
    obtain ⟨k, hk, rfl, hrel⟩ := hrel
    clear e3
    by_cases hlt : k < n
    · obtain ⟨x, hx⟩ : ∃ x, cs[k]? = some x := ⟨_, List.getElem?_eq_getElem (by rw [← HN.out]; exact hlt)⟩
      obtain ⟨g, off, rfl, hcell⟩ := HP.out (by rw [← HN.out]; omega)
      have OA := (hcell k x hx).below hrel.out.bel
      have TK := Lib.hid (show (cs.take (k + 1)).map (·.co) = (cs.take k).map (·.co) ++ [x.co] by rw [List.take_add_one, hx, List.map_append]; rfl)
      have LK := Lib.hid (show ((cs.take k).map (·.co)).length ≤ 1000 by rw [List.length_map, List.length_take]; omega)
      have AL := (Below.refl wr.heap.size wr).alloc (Nat.le_refl _) (.cells #[.string x.co.1, .string x.ti.1] 50)
      have NC := nCell wr #[.string x.co.1, .string x.ti.1] 50
      have B2 := Lib.hid (hrel.out.bel.trans (AL.mono hrel.out.bel.size))
      have MI := Lib.hid (grown_bel hrel.out.mid AL)
      have MM := hrel.out.ms.below AL
      obtain ⟨w5, hup, m5, g5⟩ := MM.add (x := x.co) (by have := LK.out; omega)
      have eb : (wr.alloc (.cells #[.string x.co.1, .string x.ti.1] 50)).cell? ⟨w.heap.size + 1 + 1, 0, none⟩ = some (.map (some (w.heap.size + 1))) := cell_grown EB.out MI.out (by omega)
      have B5 := Lib.hid (B2.out.grown g5 B2.out.size (fun j e => by cases e; omega))
      have G5 := Lib.hid (show w3.grownBy w5 (some (w.heap.size + 1)) from ⟨g5.os.trans MI.out.os, g5.tape.trans MI.out.tape, g5.output.trans MI.out.output, Nat.le_trans MI.out.size g5.size, fun j hj hne => (g5.block j (Nat.lt_of_lt_of_le hj MI.out.size) hne).trans (MI.out.block j hj hne)⟩)
      have M5 := Lib.hid m5
      have v0 : (wr.alloc (.cells #[.string x.co.1, .string x.ti.1] 50)).cell? ⟨wr.heap.size, 0, none⟩ = some (.string x.co.1) := NC 0
      obtain ⟨lt0, c0, c1⟩ := OA
      clear hrel hcell hx AL NC MM m5 g5
      go_wp2_with fail
      go_roundw
      case rel => exact ⟨k + 1, by omega, by go_num, by rw [TK.out]; exact M5.out, B5.out, G5.out⟩
      case measure => simp [intOf]; omega
    · obtain rfl : k = n := by omega
      have MF := hrel.out.ms
      rw [List.take_of_length_le (by rw [← HN.out]; exact Nat.le_refl _)] at MF
      have eb := Lib.hid (cell_grown EB.out hrel.out.mid (by omega))
      have BF := Lib.hid hrel.out.bel
      replace MF := Lib.hid MF
      clear hrel
      go_wp2_with fail
      go_ret
      exact ⟨_, _, rfl, eb.out, MF.out, BF.out⟩
end Go.Proofs.YtfgpmghaebdhpaaGreatDoor
