/- Taking in any string: the plain mathematics. -/
import Derived.Test.YtfjbchmneojgaaaDoorSum
namespace Go.Proofs.YtfjbchmneojgaaaDoor
open Go.RowKit

/-- The bytes of a word, one behind the other. -/
def wpart (b : Nat → Nat) : Nat → BitVec 64
  | 0 => 0
  | i + 1 => wpart b i ||| (BitVec.ofNat 64 (b i) <<< (8 * i))
theorem byte_shl_lt (x i : Nat) (hx : x < 256) : (BitVec.ofNat 64 x <<< (8 * i)).toNat < 2 ^ (8 * (i + 1)) := by
  rw [BitVec.toNat_shiftLeft, Nat.shiftLeft_eq]
  refine Nat.lt_of_le_of_lt (Nat.mod_le _ _) ?_
  rw [BitVec.toNat_ofNat, Nat.mod_eq_of_lt (by omega : x < 2 ^ 64), show 8 * (i + 1) = 8 + 8 * i from by omega, Nat.pow_add]
  exact Nat.mul_lt_mul_of_pos_right hx (Nat.two_pow_pos _)
theorem wpart_lt (b : Nat → Nat) (hb : ∀ i, b i < 256) : ∀ i, (wpart b i).toNat < 2 ^ (8 * i)
  | 0 => by simp [wpart]
  | i + 1 => by
    show (wpart b i ||| (BitVec.ofNat 64 (b i) <<< (8 * i))).toNat < _
    rw [BitVec.toNat_or]
    refine Nat.or_lt_two_pow ?_ (byte_shl_lt _ _ (hb i))
    exact Nat.lt_of_lt_of_le (wpart_lt b hb i) (Nat.pow_le_pow_right (by decide) (by omega))
theorem wpart_xor (b : Nat → Nat) (hb : ∀ i, b i < 256) (i : Nat) : wpart b (i + 1) = wpart b i ^^^ (BitVec.ofNat 64 (b i) <<< (8 * i)) := by
  show wpart b i ||| (BitVec.ofNat 64 (b i) <<< (8 * i)) = _
  apply BitVec.eq_of_getLsbD_eq
  intro k hk
  rw [BitVec.getLsbD_or, BitVec.getLsbD_xor]
  by_cases c : k < 8 * i
  · have : (BitVec.ofNat 64 (b i) <<< (8 * i)).getLsbD k = false := by
      rw [BitVec.getLsbD_shiftLeft]; simp [c]
    rw [this, Bool.or_false, Bool.xor_false]
  · have : (wpart b i).getLsbD k = false := by
      show (wpart b i).toNat.testBit k = false
      exact Nat.testBit_lt_two_pow (Nat.lt_of_lt_of_le (wpart_lt b hb i) (Nat.pow_le_pow_right (by decide) (by omega)))
    rw [this, Bool.false_or, Bool.false_xor]

/-- Bytes are taken in from a place on. -/
def pf (f : Nat → BitVec 64) (p : Nat) (b : Nat → Nat) : Nat → Nat → BitVec 64
  | 0 => f
  | k + 1 => put (pf f p b k) (p + k) (b k)
/-- What the first bytes add to a word. -/
def xb (b : Nat → Nat) (j : Nat) : Nat → BitVec 64
  | 0 => 0
  | k + 1 => if k / 8 = j then xb b j k ^^^ byteAt k (b k) else xb b j k
theorem pf_xb (f : Nat → BitVec 64) (b : Nat → Nat) : ∀ k, pf f 0 b k = fun j => f j ^^^ xb b j k
  | 0 => by funext j; simp [pf, xb]
  | k + 1 => by
    funext j
    show put (pf f 0 b k) (0 + k) (b k) j = _
    rw [Nat.zero_add]
    show (if j = k / 8 then pf f 0 b k (k / 8) ^^^ byteAt k (b k) else pf f 0 b k j) = f j ^^^ (if k / 8 = j then xb b j k ^^^ byteAt k (b k) else xb b j k)
    rw [pf_xb f b k]
    by_cases c : j = k / 8
    · subst c
      rw [if_pos rfl, if_pos rfl, BitVec.xor_assoc]
    · rw [if_neg c, if_neg (fun h => c h.symm)]
theorem xb_word (b : Nat → Nat) (hb : ∀ i, b i < 256) (j : Nat) : ∀ k, xb b j k = wpart (fun i => b (8 * j + i)) (min (k - 8 * j) 8)
  | 0 => by simp [xb, wpart]
  | k + 1 => by
    show (if k / 8 = j then xb b j k ^^^ byteAt k (b k) else xb b j k) = _
    rw [xb_word b hb j k]
    by_cases c : k / 8 = j
    · rw [if_pos c, show min (k + 1 - 8 * j) 8 = (k - 8 * j) + 1 from by omega, show min (k - 8 * j) 8 = k - 8 * j from by omega, wpart_xor _ (fun i => hb _)]
      unfold byteAt
      rw [show k % 8 = k - 8 * j from by omega, show 8 * j + (k - 8 * j) = k from by omega]
    · rw [if_neg c, show min (k + 1 - 8 * j) 8 = min (k - 8 * j) 8 from by omega]
/-- A state into which the first words of a block have been taken. -/
def mix (f : Nat → BitVec 64) (b : Nat → Nat) (k : Nat) : Nat → BitVec 64 := fun j => if j < k then f j ^^^ wpart (fun i => b (8 * j + i)) 8 else f j
theorem mix_all (f : Nat → BitVec 64) (b : Nat → Nat) (hb : ∀ i, b i < 256) : mix f b 17 = pf f 0 b 136 := by
  rw [pf_xb]
  funext j
  unfold mix
  rw [xb_word b hb]
  by_cases c : j < 17
  · rw [if_pos c, show min (136 - 8 * j) 8 = 8 from by omega]
  · rw [if_neg c, show min (136 - 8 * j) 8 = 0 from by omega]
    simp [wpart]
theorem mix_next (f : Nat → BitVec 64) (b : Nat → Nat) (k : Nat) : upd (mix f b k) k (f k ^^^ wpart (fun i => b (8 * k + i)) 8) = mix f b (k + 1) := by
  funext j
  unfold upd mix
  by_cases c : j = k
  · subst c; rw [if_pos rfl, if_pos (by omega)]
  · rw [if_neg c]
    by_cases d : j < k
    · rw [if_pos d, if_pos (by omega)]
    · rw [if_neg d, if_neg (by omega)]
theorem mix_at (f : Nat → BitVec 64) (b : Nat → Nat) (k : Nat) : mix f b k k = f k := by unfold mix; rw [if_neg (Nat.lt_irrefl _)]
/-- Byte i of a text. -/
def byt (s : ByteArray) (i : Nat) : Nat := (PlainAid.bt s i).toNat
theorem byt_lt (s : ByteArray) (i : Nat) : byt s i < 256 := by
  have a := PlainAid.bt_nonneg s i
  have b := PlainAid.bt_le s i
  unfold byt; omega
theorem byt_is (s : ByteArray) (i : Nat) : PlainAid.bt s i = (byt s i : Int) := by
  have a := PlainAid.bt_nonneg s i
  unfold byt; omega
theorem byt_get (s : ByteArray) (i : Nat) (h : i < s.size) : s.data.toList[i]? = some (UInt8.ofNat (byt s i)) ∧ s.data.toList[i]? = some s[i] ∧ s[i].toNat = byt s i := by
  have e : s.data.toList[i]? = some s[i] := by rw [List.getElem?_eq_getElem (by rw [Array.length_toList]; exact h)]; rfl
  have g := PlainAid.get_bt s i h
  rw [byt_is] at g
  have n : s[i].toNat = byt s i := by exact_mod_cast g
  refine ⟨?_, e, n⟩
  rw [e, ← n, UInt8.ofNat_toNat]
theorem puts_pf (f : Nat → BitVec 64) (p : Nat) (s : ByteArray) : ∀ k, k ≤ s.size → puts f p (s.data.toList.take k) = pf f p (byt s) k
  | 0, _ => rfl
  | k + 1, h => by
    obtain ⟨_, e, n⟩ := byt_get s k (by omega)
    rw [List.take_add_one, e, Option.toList_some, puts_snoc, puts_pf f p s k (by omega), List.length_take, Array.length_toList, show min k s.data.size = k from Nat.min_eq_left (by show k ≤ s.size; omega), n]
    rfl

/-- A byte is taken in; a block that is full is permuted. -/
def abB (f : Nat → BitVec 64) (n b : Nat) : Nat → BitVec 64 := if (n + 1) % 136 = 0 then perm (put f (n % 136) b) 24 else put f (n % 136) b
def ab (f : Nat → BitVec 64) (n : Nat) : List UInt8 → Nat → BitVec 64
  | [] => f
  | b :: r => ab (abB f n b.toNat) (n + 1) r
theorem ab_app (m : List UInt8) : ∀ (l : List UInt8) (f : Nat → BitVec 64) (n : Nat), ab f n (l ++ m) = ab (ab f n l) (n + l.length) m
  | [], _, _ => rfl
  | b :: r, f, n => by
    show ab (abB f n b.toNat) (n + 1) (r ++ m) = ab (ab (abB f n b.toNat) (n + 1) r) (n + (r.length + 1)) m
    rw [ab_app m r, show n + 1 + r.length = n + (r.length + 1) from by omega]
theorem ab_snoc (b : UInt8) (l : List UInt8) (f : Nat → BitVec 64) (n : Nat) : ab f n (l ++ [b]) = abB (ab f n l) (n + l.length) b.toNat := ab_app [b] l f n
theorem puts_app (m : List UInt8) : ∀ (l : List UInt8) (f : Nat → BitVec 64) (n : Nat), puts f n (l ++ m) = puts (puts f n l) (n + l.length) m
  | [], _, _ => rfl
  | b :: r, f, n => by
    show puts (put f n b.toNat) (n + 1) (r ++ m) = puts (puts (put f n b.toNat) (n + 1) r) (n + (r.length + 1)) m
    rw [puts_app m r, show n + 1 + r.length = n + (r.length + 1) from by omega]
theorem ab_run : ∀ (l : List UInt8) (f : Nat → BitVec 64) (n : Nat), n % 136 + l.length < 136 → ab f n l = puts f (n % 136) l
  | [], _, _, _ => rfl
  | b :: r, f, n, h => by
    rw [List.length_cons] at h
    show ab (abB f n b.toNat) (n + 1) r = puts (put f (n % 136) b.toNat) (n % 136 + 1) r
    have e : (n + 1) % 136 = n % 136 + 1 := by omega
    rw [ab_run r _ (n + 1) (by omega), e]
    unfold abB
    rw [if_neg (by omega)]
theorem ab_block (l : List UInt8) (f : Nat → BitVec 64) (n : Nat) (hn : n % 136 = 0) (hl : l.length = 136) : ab f n l = perm (puts f 0 l) 24 := by
  obtain ⟨r, b, rfl⟩ : ∃ r b, l = r ++ [b] := ⟨l.dropLast, l.getLast (by intro h; rw [h] at hl; cases hl), (List.dropLast_concat_getLast _).symm⟩
  rw [List.length_append, List.length_singleton] at hl
  rw [ab_snoc, ab_run r f n (by omega), puts_snoc, hn]
  unfold abB
  rw [if_pos (by omega), show (n + r.length) % 136 = 0 + r.length from by omega]
theorem Tabs.but {V w w' : World} {g : Nat} (h : Tabs V) (hV : Below V.heap.size V w) (hg : V.heap.size ≤ g) (hb : But g w w') : Tabs w' :=
  h.below (hV.trans (hb.below hg hV.size))
end Go.Proofs.YtfjbchmneojgaaaDoor
