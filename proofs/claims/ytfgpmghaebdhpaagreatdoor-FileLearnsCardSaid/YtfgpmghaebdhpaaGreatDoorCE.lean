/- Parse. -/
import Derived.Test.YtfgpmghaebdhpaaGreatDoorCD
import Derived.Maps.AppendAt
namespace Go.Proofs.YtfgpmghaebdhpaaGreatDoor
open Go.RowKit Go.Shelf
attribute [local go_sem] Oper.semAt_some

/-- The numbers of a code. -/
structure PR (l : List UInt8) (ns : List Nat) : Prop where
  rng : ∀ n ∈ ns, 1 ≤ n ∧ n ≤ 999
  len : ns.length ≤ 6
  txt : ns.map dec = sp l
def encN (n : Nat) : Value := .int .i64 n
/-- No numbers stand in these parts, or too many. -/
def Bad (L : List (List UInt8)) : Prop := ∀ ns : List Nat, (∀ n ∈ ns, 1 ≤ n ∧ n ≤ 999) → ns.map dec = L → 6 < ns.length
theorem bad_all {l : List UInt8} {L : List (List UInt8)} (h : Bad L) (g : L <+: sp l) (ns : List Nat) : ¬ PR l ns := fun p => by
  obtain ⟨M, hM⟩ := g
  have e : (ns.take L.length).map dec = L := by
    rw [List.map_take, p.txt, ← hM, List.take_left]
  have := h (ns.take L.length) (fun n hn => p.rng n (List.mem_of_mem_take hn)) e
  rw [List.length_take] at this
  have := p.len
  omega

set_option maxHeartbeats 1000000 in
theorem SplitSeq_any (s : ByteArray) (V : World) :
    Calls Tryz.prog 68 #[.string s, .string ⟨#[46]⟩] V fun e V' => e = .returned (.func (.func 82) #[] #[.pointer (some ⟨V.heap.size + 1, 0, none⟩), .pointer (some ⟨V.heap.size, 0, none⟩), .pointer (some ⟨V.heap.size + 2, 0, none⟩)]) ∧
      V' = ((V.alloc (.cells #[.string s] 9)).alloc (.cells #[.string ⟨#[46]⟩] 9)).alloc (.cells #[.int .i64 0] 3) := by
  go_enter Tryz.func68, Tryz.ntmps68
  go_wp2
  go_ret
  first | exact ⟨rfl, rfl⟩ | (simp; done)
theorem c_box {W : World} {B : Nat} {v : Value} {t : TypeId} (h : W.heap[B]? = some (.cells #[v] t (0, 0))) : W.cell? ⟨B, 0, none⟩ = some v ∧ W.frozen? ⟨B, 0, none⟩ = false := ⟨by simp [World.cell?, h], by simp [World.frozen?, h]⟩
theorem c_new (W : World) (v : Value) (t : TypeId) : (W.alloc (.cells #[v] t)).cell? ⟨W.heap.size, 0, none⟩ = some v ∧ (W.alloc (.cells #[v] t)).frozen? ⟨W.heap.size, 0, none⟩ = false := c_box (World.alloc_heap_new W _)
theorem c_al {W : World} {a : Addr} {v : Value} (o : Obj) (h : W.cell? a = some v) : (W.alloc o).cell? a = some v := cell_kept h (World.grownBy_alloc W o none) (fun r e => by cases e)
theorem f_al {W : World} {a : Addr} {v : Value} (o : Obj) (h : W.cell? a = some v) (hf : W.frozen? a = false) : (W.alloc o).frozen? a = false := (frozen_kept h (World.grownBy_alloc W o none) (fun r e => by cases e)).trans hf
theorem KpB.trans {b : Nat} {A B C : World} (h : KpB b A B) (g : KpB b B C) : KpB b A C := fun k hk => (g k hk).trans (h k hk)
theorem split_box (s : Txt) (V : World) (n : Nat) (hn : 2 ≤ n) :
    SeqBox Fence.wide n Tryz.prog 82 #[.pointer (some ⟨V.heap.size + 1, 0, none⟩), .pointer (some ⟨V.heap.size, 0, none⟩), .pointer (some ⟨V.heap.size + 2, 0, none⟩)] encT V.heap.size (KpB V.heap.size) (fun xs => xs.map bts = sp (bts s)) (fun pre => pre.map bts <+: sp (bts s)) ((bts s).length + 1)
      (((V.alloc (.cells #[.string s.1] 9)).alloc (.cells #[.string ⟨#[46]⟩] 9)).alloc (.cells #[.int .i64 0] 3)) := fun l J Jx W hW hJ _ hY h0 => by
  have z : (((V.alloc (.cells #[.string s.1] 9)).alloc (.cells #[.string ⟨#[46]⟩] 9)).alloc (.cells #[.int .i64 0] 3)).heap.size = V.heap.size + 3 := by simp
  have b : Bx V.heap.size s.1 (((V.alloc (.cells #[.string s.1] 9)).alloc (.cells #[.string ⟨#[46]⟩] 9)).alloc (.cells #[.int .i64 0] 3)) := by
    have a := c_new V (.string s.1) 9
    have d := c_new (V.alloc (.cells #[.string s.1] 9)) (.string ⟨#[46]⟩) 9
    have c := c_new ((V.alloc (.cells #[.string s.1] 9)).alloc (.cells #[.string ⟨#[46]⟩] 9)) (.int .i64 0) 3
    rw [World.size_alloc] at d
    rw [World.size_alloc, World.size_alloc] at c
    exact ⟨c_al _ (c_al _ a.1), f_al _ (c_al _ a.1) (f_al _ a.1 a.2), c_al _ d.1, c.1, by rw [z]; omega⟩
  rw [z] at hW
  refine split_in Fence.wide n trivial trivial rfl hn l V.heap.size s J Jx hY W hJ (b.keeps fun k hk => hW.block k (by rcases hk with rfl | rfl | rfl <;> omega)) h0 (fun t V' => ?_)
  exact callsIn_wide.2 (Any.strings_Index_one Tryz.lays143 t 46 V')
end Go.Proofs.YtfgpmghaebdhpaaGreatDoor
