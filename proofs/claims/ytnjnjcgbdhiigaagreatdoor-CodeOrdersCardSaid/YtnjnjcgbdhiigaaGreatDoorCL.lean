/- Format: the mathematics. -/
import Derived.Test.YtnjnjcgbdhiigaaGreatDoorCK
import Derived.Lib.Join
namespace Go.Proofs.YtnjnjcgbdhiigaaGreatDoor
open Go.RowKit Go.Shelf

theorem join_jn : ∀ L : List (List UInt8), Lib.join L [46] = jn L
  | [] => rfl
  | [p] => Lib.join_one p [46]
  | p :: q :: r => by
    have ih := join_jn (q :: r)
    rw [Lib.join_cons] at ih ⊢
    show _ = p ++ 46 :: jn (q :: r)
    rw [← ih]
    simp [Lib.joinTail]
theorem sp_app : ∀ (p : List UInt8) (r : List UInt8), (46 : UInt8) ∉ p → sp (p ++ 46 :: r) = p :: sp r
  | [], r, _ => by show sp (46 :: r) = _; unfold sp; rw [if_pos rfl]; conv => lhs; rw [sp.eq_def]; rfl
  | c :: p, r, h => by
    have hc : c ≠ 46 := fun e => h (by rw [e]; exact List.mem_cons_self)
    have ih := sp_app p r (fun g => h (List.mem_cons_of_mem _ g))
    show sp (c :: (p ++ 46 :: r)) = _
    conv => lhs; unfold sp
    rw [if_neg hc, ih]
theorem sp_jn : ∀ L : List (List UInt8), L ≠ [] → (∀ p ∈ L, (46 : UInt8) ∉ p) → sp (jn L) = L
  | [], h, _ => absurd rfl h
  | [p], _, h => sp_none p (h p List.mem_cons_self)
  | p :: q :: r, _, h => by
    show sp (p ++ 46 :: jn (q :: r)) = _
    rw [sp_app p _ (h p List.mem_cons_self), sp_jn (q :: r) (by simp) (fun x hx => h x (List.mem_cons_of_mem _ hx))]
theorem dec_dot {n : Nat} (h2 : n ≤ 999) : (46 : UInt8) ∉ dec n ∧ (dec n).length ≤ 3 := by
  have bn : ∀ k, k < 10 → (46 : UInt8) ≠ UInt8.ofNat (48 + k) := fun k hk e => by
    have := congrArg UInt8.toNat e
    rw [byte_nat (by omega)] at this
    have h46 : (46 : UInt8).toNat = 46 := rfl
    omega
  rcases (by omega : n < 10 ∨ (10 ≤ n ∧ n < 100) ∨ (100 ≤ n ∧ n < 1000)) with a | ⟨a, b⟩ | ⟨a, b⟩
  · rw [dec1 a]; refine ⟨by simp only [List.mem_cons, List.not_mem_nil, or_false]; exact bn n a, by simp⟩
  · rw [dec2 a b]; refine ⟨by simp only [List.mem_cons, List.not_mem_nil, or_false, not_or]; exact ⟨bn _ (by omega), bn _ (by omega)⟩, by simp⟩
  · rw [dec3 a b]; refine ⟨by simp only [List.mem_cons, List.not_mem_nil, or_false, not_or]; exact ⟨bn _ (by omega), bn _ (by omega), bn _ (by omega)⟩, by simp⟩
theorem jn_len : ∀ (L : List (List UInt8)), (∀ p ∈ L, p.length ≤ 3) → (jn L).length ≤ 4 * L.length
  | [], _ => by simp [jn]
  | [p], h => by have := h p List.mem_cons_self; simp [jn]; omega
  | p :: q :: r, h => by
    have := h p List.mem_cons_self
    have ih := jn_len (q :: r) (fun x hx => h x (List.mem_cons_of_mem _ hx))
    show (p ++ 46 :: jn (q :: r)).length ≤ _
    rw [List.length_append, List.length_cons]
    simp only [List.length_cons] at ih ⊢
    omega
/-- The numbers of which there is a code. -/
def OkN (ns : List Nat) : Prop := ns ≠ [] ∧ ns.length ≤ 6 ∧ ∀ n ∈ ns, 1 ≤ n ∧ n ≤ 999
/-- Its text. -/
def cd (ns : List Nat) : List UInt8 := jn (ns.map dec)
theorem OkN.pr {ns : List Nat} (h : OkN ns) : PR (cd ns) ns where
  rng := h.2.2
  len := h.2.1
  txt := (sp_jn _ (by simpa using h.1) (fun p hp => by obtain ⟨n, hn, rfl⟩ := List.mem_map.1 hp; exact (dec_dot (h.2.2 n hn).2).1)).symm
theorem PR.ok {l : List UInt8} {ns : List Nat} (h : PR l ns) : OkN ns ∧ l = cd ns := by
  have o : OkN ns := ⟨fun e => by have := h.pos; rw [e] at this; simp at this, h.len, h.rng⟩
  exact ⟨o, h.text o.pr⟩
theorem OkN.size {ns : List Nat} (h : OkN ns) : (cd ns).length ≤ 24 := by
  have := jn_len (ns.map dec) (fun p hp => by obtain ⟨n, hn, rfl⟩ := List.mem_map.1 hp; exact (dec_dot (h.2.2 n hn).2).2)
  rw [List.length_map] at this
  have := h.2.1
  unfold cd; omega
/-- Any numbers in memory. -/
def IsZ (w : World) (v : Value) (zs : List Int) : Prop := ∃ p : Option Addr, ∃ c : Nat, v = .slice p zs.length c ∧ zs.length ≤ c ∧ (0 < zs.length → ∃ g off, p = some ⟨g, off, none⟩ ∧ g < w.heap.size ∧ ∀ j (h : j < zs.length), w.cell? ⟨g, off + j, none⟩ = some (.int .i64 zs[j]))
theorem IsN.z {w : World} {v : Value} {ns : List Nat} (h : IsN w v ns) : IsZ w v (ints ns) := by
  obtain ⟨g, off, c, h1, h2, h3, h4⟩ := h
  have e : (ints ns).length = ns.length := by simp [ints]
  refine ⟨some ⟨g, off, none⟩, c, by rw [e]; exact h1, by rw [e]; exact h3, fun _ => ⟨g, off, rfl, h2, fun j hj => ?_⟩⟩
  rw [h4 j (by rw [← e]; exact hj)]
  simp [ints]
theorem IsZ.below {w w' : World} {v : Value} {zs : List Int} (h : IsZ w v zs) (hb : Below w.heap.size w w') : IsZ w' v zs := by
  obtain ⟨p, c, h1, h2, h3⟩ := h
  refine ⟨p, c, h1, h2, fun h0 => ?_⟩
  obtain ⟨g, off, e, hg, hc⟩ := h3 h0
  exact ⟨g, off, e, Nat.lt_of_lt_of_le hg hb.size, fun j hj => (hb.cell (p := ⟨g, off + j, none⟩) hg).trans (hc j hj)⟩
/-- What Format returns. -/
def FmR (zs : List Int) (w : World) (e : Ending) (w' : World) : Prop :=
  ((∃ ns, ∃ t : Txt, OkN ns ∧ zs = ints ns ∧ bts t = cd ns ∧ e = .returned (.tuple #[.string t.1, .int .i64 0])) ∨ ((∀ ns, zs = ints ns → ¬ OkN ns) ∧ e = .returned (.tuple #[.string ⟨#[]⟩, .int .i64 2]))) ∧ Below w.heap.size w w'
/-- The numbers' texts. -/
def txts (zs : List Int) : List ByteArray := zs.map fun z => ⟨(dec z.toNat).toArray⟩
theorem ints_of {zs : List Int} (h : ∀ z ∈ zs, 1 ≤ z ∧ z ≤ 999) : ∃ ns, zs = ints ns ∧ ns.length = zs.length ∧ (∀ n ∈ ns, 1 ≤ n ∧ n ≤ 999) ∧ ns.map dec = (txts zs).map (·.data.toList) := by
  refine ⟨zs.map Int.toNat, ?_, by simp, ?_, ?_⟩
  · unfold ints
    rw [List.map_map]
    symm
    have : ∀ z ∈ zs, (Int.ofNat ∘ Int.toNat) z = id z := fun z hz => by have := h z hz; show ((z.toNat : Nat) : Int) = z; omega
    rw [List.map_congr_left this, List.map_id]
  · intro n hn
    obtain ⟨z, hz, rfl⟩ := List.mem_map.1 hn
    have := h z hz
    omega
  · unfold txts
    rw [List.map_map, List.map_map]
    apply List.map_congr_left
    intro z _
    show dec z.toNat = (⟨(dec z.toNat).toArray⟩ : ByteArray).data.toList
    simp
end Go.Proofs.YtnjnjcgbdhiigaaGreatDoor
