/- Notes and files: what they hold in memory. -/
import Derived.Test.YtfgpmghaebdhpaaGreatDoorProg
import Derived.Test.YtfgpmghaebdhpaaGreatDoorRows
import Derived.WalkKit
import Derived.WalkSpells
import Derived.WalkArith
import Derived.Handy
import Derived.Lib.Hide
import Derived.Shelf.Abstract
import Derived.Deep.LoopGhost
import Derived.Deep.Draws
import Derived.Deep.RegionHeld3
import Derived.Deep.DeepCutAuto
import Derived.Deep.QuietTactic
import Derived.BigQuiet
import Derived.IntWalk
import Derived.Maps.AppendAt
import Derived.Laws.OwnMore
namespace Go.Proofs.YtfgpmghaebdhpaaGreatDoor
open Go.RowKit Go.Shelf

theorem nDrew (w : World) (q : Nat) : Below w.heap.size w (w.drewN q) := ⟨rfl, rfl, rfl, Nat.le_refl _, fun _ _ => rfl⟩
theorem nGb {w w' : World} {r : Option Nat} (h : Below w.heap.size w w') : w.grownBy w' r := ⟨h.os, h.tape, h.output, h.size, fun k hk _ => h.block k hk⟩
theorem nOwn {w w' : World} {K n size : Nat} {e : TypeId} {v : Value} {xs : List Value} (h : w.ownsRow K e size v n xs) (b : Below w.heap.size w w') : w'.ownsRow K e size v n xs := by
  by_cases g : v.ownBlock = none
  · exact h.kept (nGb (r := none) b) (Or.inl g)
  · exact h.kept (nGb (r := none) b) (Or.inr g)
theorem nFrom {w : World} {K n size : Nat} {e : TypeId} {v : Value} {xs : List Value} (h : w.ownsRow K e size v n xs) : ∀ g, v.ownBlock = some g → K ≤ g := fun g hg => (h.lt g hg).1
/-- What grows in a row that lies above all that was there keeps all that was there. -/
theorem nBelow {w w1 w2 : World} {n size : Nat} {e : TypeId} {v : Value} {xs : List Value} (h : Below w.heap.size w w1) (hv : w1.ownsRow w.heap.size e size v n xs) (g : w1.grownBy w2 v.ownBlock) : Below w.heap.size w w2 :=
  ⟨g.os.trans h.os, g.tape.trans h.tape, g.output.trans h.output, Nat.le_trans h.size g.size, fun k hk => by
    have : some k ≠ v.ownBlock := fun e => by have := nFrom hv k e.symm; omega
    exact (g.block k (Nat.lt_of_lt_of_le hk h.size) this).trans (h.block k hk)⟩
theorem nCell (W : World) (cs : Array Value) (t : TypeId) (i : Nat) : (W.alloc (.cells cs t)).cell? ⟨W.heap.size, i, none⟩ = cs[i]? := by
  have h := heap_alloc_new W (.cells cs t)
  generalize W.alloc (.cells cs t) = V at h ⊢
  generalize W.heap.size = g at h ⊢
  simp [World.cell?, h]
theorem nLt {w : World} {b o : Nat} {v : Value} (hb : w.cell? ⟨b, o, none⟩ = some v) : b < w.heap.size := by
  rcases Nat.lt_or_ge b w.heap.size with h | h
  · exact h
  · simp [World.cell?, Array.getElem?_eq_none h] at hb

/-- A note. -/
structure Nt where
  nm : ByteArray
  f : Int
  l : Int
  r : Int
def Nt.val (x : Nt) : Value := .agg #[.string x.nm, .int .i64 x.f, .int .i64 x.l, .int .i64 x.r]
/-- A note in memory, at a place. -/
structure NtAt (w : World) (g off : Nat) (x : Nt) : Prop where
  lt : g < w.heap.size
  c0 : w.cell? ⟨g, off, none⟩ = some (.string x.nm)
  c1 : w.cell? ⟨g, off + 1, none⟩ = some (.int .i64 x.f)
  c2 : w.cell? ⟨g, off + 2, none⟩ = some (.int .i64 x.l)
  c3 : w.cell? ⟨g, off + 3, none⟩ = some (.int .i64 x.r)
theorem NtAt.below {w w' : World} {g off : Nat} {x : Nt} (h : NtAt w g off x) (hb : Below w.heap.size w w') : NtAt w' g off x :=
  ⟨Nat.lt_of_lt_of_le h.lt hb.size, (hb.cell (p := ⟨g, off, none⟩) h.lt).trans h.c0, (hb.cell (p := ⟨g, off + 1, none⟩) h.lt).trans h.c1, (hb.cell (p := ⟨g, off + 2, none⟩) h.lt).trans h.c2, (hb.cell (p := ⟨g, off + 3, none⟩) h.lt).trans h.c3⟩
/-- A list of notes in memory. -/
def IsNt (w : World) (v : Value) (ns : List Nt) : Prop := ∃ p c, v = .slice p ns.length c ∧ ns.length ≤ c ∧ (0 < ns.length → ∃ g off, p = some ⟨g, off, none⟩ ∧ ∀ (j : Nat) x, ns[j]? = some x → NtAt w g (off + j * 4) x)
theorem IsNt.below {w w' : World} {v : Value} {ns : List Nt} (h : IsNt w v ns) (hb : Below w.heap.size w w') : IsNt w' v ns := by
  obtain ⟨p, c, h1, h2, h3⟩ := h
  refine ⟨p, c, h1, h2, fun h0 => ?_⟩
  obtain ⟨g, off, e, hc⟩ := h3 h0
  exact ⟨g, off, e, fun j x hj => (hc j x hj).below hb⟩
def c4 (x : Nt) : List Value := [.string x.nm, .int .i64 x.f, .int .i64 x.l, .int .i64 x.r]
def cellsN (ns : List Nt) : List Value := ns.flatMap c4
theorem cellsN_snoc (ns : List Nt) (x : Nt) : cellsN (ns ++ [x]) = cellsN ns ++ c4 x := by
  unfold cellsN
  rw [List.flatMap_append, List.flatMap_cons, List.flatMap_nil, List.append_nil]
theorem cellsN_len : ∀ ns : List Nt, (cellsN ns).length = ns.length * 4
  | [] => rfl
  | o :: t => by
    have := cellsN_len t
    unfold cellsN at this ⊢
    rw [List.flatMap_cons, List.length_append, this, List.length_cons]
    show 4 + t.length * 4 = _
    omega
theorem cellsN_get : ∀ (ns : List Nt) (j : Nat) (x : Nt), ns[j]? = some x → ∀ k, k < 4 → (cellsN ns)[j * 4 + k]? = (c4 x)[k]?
  | [], j, x, h, _, _ => by simp at h
  | a :: t, 0, x, h, k, hk => by
    have : a = x := by simpa using h
    subst this
    unfold cellsN
    rw [List.flatMap_cons, List.getElem?_append_left (by show 0 * 4 + k < 4; omega)]
    rw [Nat.zero_mul, Nat.zero_add]
  | a :: t, j + 1, x, h, k, hk => by
    have := cellsN_get t j x (by simpa using h) k hk
    unfold cellsN at this ⊢
    rw [List.flatMap_cons, List.getElem?_append_right (by show 4 ≤ (j + 1) * 4 + k; omega)]
    rw [← this]
    congr 1
    show (j + 1) * 4 + k - 4 = _
    omega
/-- A row of one's own is a list in memory. -/
theorem ownN {w : World} {K : Nat} {v : Value} {ns : List Nt} (h : w.ownsRow K 39 4 v ns.length (cellsN ns)) : IsNt w v ns := by
  have hc := h
  rcases h.2 with ⟨rfl, he⟩ | ⟨g, cap, cur, rfl, _, hb, hn, _⟩
  · rw [List.length_eq_zero_iff.1 he]
    exact ⟨none, 0, rfl, Nat.le_refl _, fun h => absurd h (by simp)⟩
  · have lt : g < w.heap.size := (Array.getElem?_eq_some_iff.1 hb).1
    refine ⟨_, cap, rfl, hn, fun _ => ⟨g, 0, rfl, fun j x hj => ?_⟩⟩
    have get : ∀ k, k < 4 → w.cell? ⟨g, j * 4 + k, none⟩ = (c4 x)[k]? := fun k hk => by
      have hl : j < ns.length := (List.getElem?_eq_some_iff.1 hj).1
      rw [hc.cellAt (j * 4 + k) (by omega), cellsN_get ns j x hj k hk]
    exact ⟨lt, by rw [Nat.zero_add]; exact get 0 (by omega), by rw [Nat.zero_add]; exact get 1 (by omega), by rw [Nat.zero_add]; exact get 2 (by omega), by rw [Nat.zero_add]; exact get 3 (by omega)⟩
/-- A box that holds a note, and may be written. -/
structure Bx4 (w : World) (B : Nat) (x : Nt) : Prop where
  blk : w.heap[B]? = some (.cells #[.string x.nm, .int .i64 x.f, .int .i64 x.l, .int .i64 x.r] 39 (0, 0))
theorem Bx4.lt {w : World} {B : Nat} {x : Nt} (h : Bx4 w B x) : B < w.heap.size := (Array.getElem?_eq_some_iff.1 h.blk).1
theorem Bx4.c0 {w : World} {B : Nat} {x : Nt} (h : Bx4 w B x) : w.cell? ⟨B, 0, none⟩ = some (.string x.nm) := by simp [World.cell?, h.blk]
theorem Bx4.c1 {w : World} {B : Nat} {x : Nt} (h : Bx4 w B x) : w.cell? ⟨B, 1, none⟩ = some (.int .i64 x.f) := by simp [World.cell?, h.blk]
theorem Bx4.c2 {w : World} {B : Nat} {x : Nt} (h : Bx4 w B x) : w.cell? ⟨B, 2, none⟩ = some (.int .i64 x.l) := by simp [World.cell?, h.blk]
theorem Bx4.c3 {w : World} {B : Nat} {x : Nt} (h : Bx4 w B x) : w.cell? ⟨B, 3, none⟩ = some (.int .i64 x.r) := by simp [World.cell?, h.blk]
theorem Bx4.below {w w' : World} {B : Nat} {x : Nt} (h : Bx4 w B x) (hb : Below w.heap.size w w') : Bx4 w' B x := ⟨(hb.block B h.lt).trans h.blk⟩
theorem Bx4.new (w : World) (x : Nt) : Bx4 (w.alloc (.cells #[.string x.nm, .int .i64 x.f, .int .i64 x.l, .int .i64 x.r] 39)) w.heap.size x := ⟨heap_alloc_new w _⟩
theorem Bx4.set {w : World} {B : Nat} {x : Nt} (h : Bx4 w B x) (y : Nt) : Bx4 (w.setRow B #[.string y.nm, .int .i64 y.f, .int .i64 y.l, .int .i64 y.r]) B y := ⟨setRow_heap w B _ _ _ _ h.blk⟩
theorem szNote (a b c d : Value) : (Tryz.prog.info? 39).map (·.size) = some (#[a, b, c, d] : Array Value).size := (show (Tryz.prog.info? 39).map (·.size) = some 4 by kernel_rfl)
theorem one4 (s : ByteArray) (i f u : Int) : (#[Value.string s, .int .i64 i, .int .i64 f, .int .i64 u] : Array Value).all (·.oneCell') = true := by simp [Value.oneCell']
theorem size4 (a b c d a' b' c' d' : Value) : (#[a, b, c, d] : Array Value).size = (#[a', b', c', d'] : Array Value).size := by simp
end Go.Proofs.YtfgpmghaebdhpaaGreatDoor
