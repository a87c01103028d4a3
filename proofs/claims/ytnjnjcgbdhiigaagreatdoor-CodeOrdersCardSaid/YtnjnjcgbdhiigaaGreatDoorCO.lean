/- The natural order: the mathematics, cut. -/
import Derived.Test.YtnjnjcgbdhiigaaGreatDoorCM
import Derived.Test.YtnjnjcgbdhiigaaGreatDoorCN
import Derived.Shelf.Strings.SlTrimAscii
import Derived.Deep.QuietTactic
import Derived.BigQuiet
namespace Go.Proofs.YtnjnjcgbdhiigaaGreatDoor
open Go.RowKit Go.Shelf

def digs : List UInt8 := [48, 49, 50, 51, 52, 53, 54, 55, 56, 57]
def dg (c : UInt8) : Bool := digs.contains c
theorem dg_iff (c : UInt8) : dg c = decide (48 ≤ c.toNat ∧ c.toNat ≤ 57) := by
  have h : ∀ n : Fin 256, dg (UInt8.ofNat n) = decide (48 ≤ (UInt8.ofNat n).toNat ∧ (UInt8.ofNat n).toNat ≤ 57) := by decide +kernel
  have e : UInt8.ofNat c.toNat = c := UInt8.ofNat_toNat
  have := h ⟨c.toNat, c.toNat_lt⟩
  simpa [e] using this
/-- How long the first part is. -/
def cutN (l : List UInt8) : Nat := if l.length - (l.dropWhile dg).length = 0 ∧ l ≠ [] then 1 else l.length - (l.dropWhile dg).length
theorem dropWhile_le (p : UInt8 → Bool) : ∀ l : List UInt8, (l.dropWhile p).length ≤ l.length
  | [] => Nat.le_refl _
  | c :: r => by
    rw [List.dropWhile_cons]
    split
    · have := dropWhile_le p r; simp; omega
    · exact Nat.le_refl _
theorem cutN_le (l : List UInt8) : cutN l ≤ l.length := by
  unfold cutN
  split
  · rename_i h
    have : 0 < l.length := List.length_pos_iff.2 h.2
    omega
  · omega
theorem cutN_pos {l : List UInt8} (h : l ≠ []) : 1 ≤ cutN l := by
  unfold cutN
  split
  · omega
  · rename_i g
    have : ¬ (l.length - (l.dropWhile dg).length = 0) := fun e => g ⟨e, h⟩
    omega
/-- The parts of two texts, side by side. -/
def pf (a b : List UInt8) : List (List UInt8 × List UInt8) :=
  if _h : a = [] ∧ b = [] then [] else (a.take (cutN a), b.take (cutN b)) :: pf (a.drop (cutN a)) (b.drop (cutN b))
termination_by a.length + b.length
decreasing_by
  have ha := cutN_le a
  have hb := cutN_le b
  rw [List.length_drop, List.length_drop]
  by_cases e : a = []
  · have hb' : b ≠ [] := fun g => _h ⟨e, g⟩
    have := cutN_pos hb'
    have := List.length_pos_iff.2 hb'
    omega
  · have := cutN_pos e
    have := List.length_pos_iff.2 e
    omega
theorem pf_len (a b : List UInt8) : (pf a b).length ≤ a.length + b.length := by
  generalize hn : a.length + b.length = n
  induction n using Nat.strongRecOn generalizing a b with
  | _ n ih =>
    unfold pf
    split
    · simp
    · rename_i h
      have ha := cutN_le a
      have hb := cutN_le b
      have lt : (a.drop (cutN a)).length + (b.drop (cutN b)).length < n := by
        rw [List.length_drop, List.length_drop]
        by_cases e : a = []
        · have hb' : b ≠ [] := fun g => h ⟨e, g⟩
          have := cutN_pos hb'
          have := List.length_pos_iff.2 hb'
          omega
        · have := cutN_pos e
          have := List.length_pos_iff.2 e
          omega
      have := ih _ lt _ _ rfl
      rw [List.length_cons]
      omega
def dh (p : List UInt8) : Bool := dg (p.headD 0)
def cmpNum (p q : List UInt8) : Int :=
  if cmpI ((Lib.trimLeftB p 48).length : Int) ((Lib.trimLeftB q 48).length : Int) = 0 then Lib.compareBytes (Lib.trimLeftB p 48) (Lib.trimLeftB q 48) else cmpI ((Lib.trimLeftB p 48).length : Int) ((Lib.trimLeftB q 48).length : Int)
def cmpP (p q : List UInt8) : Int :=
  if p = [] ∨ q = [] then cmpI (p.length : Int) (q.length : Int) else
  if dh p = true ∧ dh q = true then cmpNum p q else if dh p = true then -1 else if dh q = true then 1 else Lib.compareBytes p q
/-- The first of the parts that decides. -/
def fst0 : List (List UInt8 × List UInt8) → Int
  | [] => 0
  | (p, q) :: r => if cmpP p q = 0 then fst0 r else cmpP p q
def natL (a b : List UInt8) : Int := if fst0 (pf a b) = 0 then Lib.compareBytes a b else fst0 (pf a b)

theorem trimL_any (s : ByteArray) (hs : s.size ≤ 1000) (w : World) :
    Calls Tryz.prog 111 #[.string s, .string ⟨#[48, 49, 50, 51, 52, 53, 54, 55, 56, 57]⟩] w fun e w' => e = .returned (.string ⟨(s.data.toList.dropWhile dg).toArray⟩) ∧ Below w.heap.size w w' := by
  by_cases h0 : s.size = 0
  · have h : s.data.toList = [] := List.length_eq_zero_iff.1 (by rw [len_sz]; exact h0)
    refine (Any.strings_TrimLeft_empty Tryz.lays161 s ⟨#[48, 49, 50, 51, 52, 53, 54, 55, 56, 57]⟩ w (Or.inl h0)).mono ?_
    rintro e w' ⟨rfl, rfl⟩
    refine ⟨?_, Below.refl _ _⟩
    rw [h]
    have : s = ⟨([] : List UInt8).toArray⟩ := (eq_bytes _ _).2 (by rw [h])
    rw [this]; rfl
  · refine (Any.strings_TrimLeft_set Tryz.lays161 (fun w => by kernel_rfl) (by kernel_rfl) s ⟨#[48, 49, 50, 51, 52, 53, 54, 55, 56, 57]⟩ w (by decide) (by omega) (by decide) (fun j b hj => (by decide : ∀ b ∈ digs, b.toNat < 128) b (List.mem_of_getElem? hj))).mono ?_
    rintro e w' ⟨rfl, rfl⟩
    exact ⟨rfl, ((Below.refl _ w).alloc (Nat.le_refl _) _).alloc (by simp) _⟩
end Go.Proofs.YtnjnjcgbdhiigaaGreatDoor
