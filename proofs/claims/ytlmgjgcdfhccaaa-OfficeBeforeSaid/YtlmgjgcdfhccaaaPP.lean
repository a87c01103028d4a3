/- Ending an office changes nobody's duties before: mathematics. -/
import Derived.Test.YtlmgjgcdfhccaaaPO
namespace Go.Proofs.Ytlmgjgcdfhccaaa
open Go.RowKit Go.Maps Go.Shelf

theorem ky_eq {a b : Of} (h : ky a = ky b) : a.id = b.id ∧ a.nm.1 = b.nm.1 ∧ a.fr = b.fr ∧ a.un = b.un ∧ a.nx = b.nx := by
  unfold ky at h
  simp only [Prod.mk.injEq] at h
  exact h
section
variable {os os2 : List Of} (h : os2.map ky = os.map ky)
include h
theorem ixO_ky (x : Int) : ixO os2 x = ixO os x := by
  have e : ∀ l : List Of, ixO l x = (l.map ky).findIdx? (fun t => decide (t.1 = x)) := fun l => by
    unfold ixO
    rw [List.findIdx?_map]
    rfl
  rw [e, e, h]
theorem frA_ky (x : Int) : frA os2 x = frA os x := by
  unfold frA
  rw [ixO_ky h]
  have e : ∀ (l : List Of) (k : Nat), (l[k]?).map (·.fr) = ((l.map ky)[k]?).map (fun t => t.2.2.1) := fun l k => by
    rw [List.getElem?_map, Option.map_map]
    rfl
  rw [e, e, h]
theorem suc_ky {a b : Of} (e : ky a = ky b) : sucE os2 a = sucE os b := by
  obtain ⟨-, -, -, e4, e5⟩ := ky_eq e
  unfold sucE
  rw [e5, e4]
  simp only [ixO_ky h, frA_ky h]
omit h in
theorem self_ky {a b : Of} (e : ky a = ky b) : selfE a = selfE b := by
  obtain ⟨e1, e2, e3, e4, e5⟩ := ky_eq e
  unfold selfE rngB bts
  rw [e1, e2, e3, e4, e5]
theorem len_ky : os2.length = os.length := by
  have := congrArg List.length h
  rwa [List.length_map, List.length_map] at this
theorem prev_ky (k : Nat) : prevId os2 k = prevId os k := by
  unfold prevId
  have e : ∀ (l : List Of) (k : Nat), (l[k]?).map (·.id) = ((l.map ky)[k]?).map (fun t => t.1) := fun l k => by
    rw [List.getElem?_map, Option.map_map]
    rfl
  rw [e, e, h]
theorem fE_ky (k : Nat) : fE os2 k = fE os k := by
  unfold fE
  cases h1 : os2[k]? with
  | none =>
    rw [List.getElem?_eq_none (by rw [← len_ky h]; exact List.getElem?_eq_none_iff.1 h1)]
  | some a =>
    obtain ⟨b, hb, e⟩ := ky_at h h1
    rw [hb]
    show (if selfE a ≠ 0 then selfE a else if 0 < k ∧ a.id ≤ prevId os2 k then 5 else sucE os2 a) = (if selfE b ≠ 0 then selfE b else if 0 < k ∧ b.id ≤ prevId os k then 5 else sucE os b)
    rw [self_ky e, (ky_eq e).1, prev_ky h, suc_ky h e]
theorem ckI_ky : ∀ k, ckI os2 k = ckI os k
  | 0 => rfl
  | k + 1 => by
    unfold ckI
    rw [ckI_ky k, fE_ky h]
theorem ckV_ky : ckV os2 = ckV os := by
  unfold ckV
  rw [len_ky h, ckI_ky h]
end
theorem inF_at {os : List Of} (hg : (ckV os).2 = 0) {j : Nat} {a : Of} (ha : os[j]? = some a) (d : Int) : inF os d a.id = hasB a.fr a.un d := by
  unfold inF
  rw [good_ix hg ha]
  have e : os[(some j).getD 0]? = some a := ha
  rw [e]
theorem hrV_late {os : List Of} (hg : (ckV os).2 = 0) {d : Int} {k : Nat} {L : List Int} (hc : Ch os d k L) {a : Of} (ha : os[k]? = some a) (hd : d < a.fr) : hrV os d L = (0, false) := by
  obtain ⟨o', ho', hfr, _⟩ := hc.frs hg
  rw [ha] at ho'; cases ho'
  have hm := last_mem hc.pos
  obtain ⟨j, b, hb, e⟩ := hc.mem _ hm
  have h1 := hfr _ hm
  have h2 := good_ix hg hb
  rw [e] at h2
  rw [frA_at h2 hb] at h1
  unfold hrV
  rw [if_neg]
  rw [← e, inF_at hg hb]
  unfold hasB
  simp
  intro h3
  omega
theorem hrV_cons {os : List Of} {d x : Int} {L : List Int} (h : 0 < L.length) : hrV os d (x :: L) = hrV os d L := by
  cases L with
  | nil => simp at h
  | cons y t =>
    have : (x :: y :: t).getLastD 0 = (y :: t).getLastD 0 := by simp [List.getLastD]
    unfold hrV
    rw [this]
theorem hrV_one {os : List Of} (hg : (ckV os).2 = 0) {j : Nat} {a : Of} (ha : os[j]? = some a) (d : Int) : hrV os d [a.id] = if hasB a.fr a.un d = true then (a.id, true) else (0, false) := by
  unfold hrV
  show (if inF os d a.id = true then (a.id, true) else (0, false)) = _
  rw [inF_at hg ha]
/-- What ending changes. -/
structure Chg (os os2 : List Of) (i : Nat) (day : Int) : Prop where
  ix : ∀ x, ixO os2 x = ixO os x
  at_ : ∀ j a, os[j]? = some a → ∃ a2, os2[j]? = some a2 ∧ a2.id = a.id ∧ a2.fr = a.fr ∧ (j ≠ i → a2.un = a.un ∧ a2.nx = a.nx) ∧ (j = i → a2.un = day)
theorem heir_same {os os2 : List Of} {i : Nat} {day d : Int} (hg : (ckV os).2 = 0) (hg2 : (ckV os2).2 = 0) (hc : Chg os os2 i day) {o : Of} (ho : os[i]? = some o) (hu : day ≤ o.un) (hd : d < day) {k : Nat} {L : List Int} (h : Ch os d k L) :
    ∀ {L2 : List Int}, Ch os2 d k L2 → hrV os d L = hrV os2 d L2 := by
  induction h with
  | @stop k a ha hs =>
    intro L2 h2
    obtain ⟨a2, ha2, e1, e2, e3, e4⟩ := hc.at_ k a ha
    by_cases late : d < a.fr
    · rw [hrV_late hg (.stop ha hs) ha late, hrV_late hg2 h2 ha2 (by rw [e2]; exact late)]
    · by_cases ki : k = i
      · subst ki
        rw [ho] at ha; cases ha
        have hb : hasB o.fr o.un d = true := by unfold hasB; simp; omega
        have hb2 : hasB a2.fr a2.un d = true := by rw [e2, e4 rfl]; unfold hasB; simp; omega
        rw [h2.one (.stop ha2 (Or.inl hb2)), hrV_one hg ho, hrV_one hg2 ha2, if_pos hb, if_pos hb2, e1]
      · obtain ⟨e5, e6⟩ := e3 ki
        rw [h2.one (.stop ha2 (by rw [e2, e5, e6]; exact hs)), hrV_one hg ha, hrV_one hg2 ha2, e1, e2, e5]
  | @step k j a x r L ha hb hx hj hl ih =>
    intro L2 h2
    obtain ⟨a2, ha2, e1, e2, e3, e4⟩ := hc.at_ k a ha
    by_cases late : d < a.fr
    · rw [hrV_late hg (.step ha hb hx hj hl) ha late, hrV_late hg2 h2 ha2 (by rw [e2]; exact late)]
    · by_cases ki : k = i
      · subst ki
        rw [ho] at ha; cases ha
        have : hasB o.fr o.un d = true := by unfold hasB; simp; omega
        rw [this] at hb; cases hb
      · obtain ⟨e5, e6⟩ := e3 ki
        cases h2 with
        | stop hq hs =>
          rw [ha2] at hq; cases hq
          rcases hs with hs | hs
          · rw [e2, e5, hb] at hs; cases hs
          · rw [e6, hx] at hs; cases hs
        | @step _ j2 _ x2 r2 L3 hq _ hx2 hj2 hl2 =>
          rw [ha2] at hq; cases hq
          rw [e6, hx] at hx2
          obtain ⟨rfl, rfl⟩ := List.cons.inj hx2
          rw [hc.ix, hj] at hj2
          cases hj2
          rw [hrV_cons hl.pos, hrV_cons hl2.pos]
          exact ih hl2
theorem hrF_same {os os2 : List Of} {i : Nat} {day d : Int} (hg : (ckV os).2 = 0) (hg2 : (ckV os2).2 = 0) (hc : Chg os os2 i day) {o : Of} (ho : os[i]? = some o) (hu : day ≤ o.un) (hd : d < day) (x : Int) : hrF os x d = hrF os2 x d := by
  have h1 := chF_spec os x d
  have h2 := chF_spec os2 x d
  unfold hrF hrT
  rcases h1 with ⟨_, k, hk, c1⟩ | ⟨n1, e1⟩
  · rcases h2 with ⟨_, k2, hk2, c2⟩ | ⟨n2, e2⟩
    · rw [hc.ix, hk] at hk2
      cases hk2
      rw [if_neg (fun e => by have := c1.pos; rw [e] at this; simp at this), if_neg (fun e => by have := c2.pos; rw [e] at this; simp at this)]
      exact heir_same hg hg2 hc ho hu hd c1 c2
    · rcases n2 with n2 | n2
      · exact absurd hg2 n2
      · rw [hc.ix, hk] at n2; cases n2
  · rcases h2 with ⟨_, k2, hk2, c2⟩ | ⟨n2, e2⟩
    · rcases n1 with n1 | n1
      · exact absurd hg n1
      · rw [hc.ix, n1] at hk2; cases hk2
    · rw [if_pos e1, if_pos e2]
/-- The list in which an office ends. -/
theorem end_chg {os os2 : List Of} {i : Nat} {o : Of} (ho : os[i]? = some o) {day : Int} {zs : List Int} {p : Option Addr} {c : Nat} (h : os2.map ky = (os.set i (enO o day zs p c)).map ky) : Chg os os2 i day := by
  have hi := (List.getElem?_eq_some_iff.1 ho).1
  have idm : (os.set i (enO o day zs p c)).map (·.id) = os.map (·.id) := by
    refine List.ext_getElem? fun j => ?_
    rw [List.getElem?_map, List.getElem?_map]
    by_cases e : i = j
    · subst e
      rw [List.getElem?_set_self hi, ho]; rfl
    · rw [List.getElem?_set_ne e]
  refine ⟨fun x => ?_, fun j a ha => ?_⟩
  · rw [ixO_ky h]
    have e : ∀ l : List Of, ixO l x = (l.map (·.id)).findIdx? (fun t => decide (t = x)) := fun l => by
      unfold ixO
      rw [List.findIdx?_map]
      rfl
    rw [e, e, idm]
  · have hj := (List.getElem?_eq_some_iff.1 ha).1
    obtain ⟨a2, ha2⟩ : ∃ a2, os2[j]? = some a2 := ⟨_, List.getElem?_eq_getElem (by rw [len_ky h, List.length_set]; exact hj)⟩
    obtain ⟨b, hb, e⟩ := ky_at h ha2
    obtain ⟨e1, _, e3, e4, e5⟩ := ky_eq e
    refine ⟨a2, ha2, ?_⟩
    by_cases ji : i = j
    · subst ji
      rw [List.getElem?_set_self hi] at hb
      cases hb
      rw [ho] at ha; cases ha
      exact ⟨e1, e3, fun k => absurd rfl k, fun _ => e4⟩
    · rw [List.getElem?_set_ne ji] at hb
      rw [ha] at hb; cases hb
      exact ⟨e1, e3, fun _ => ⟨e4, e5⟩, fun k => absurd k.symm ji⟩
end Go.Proofs.Ytlmgjgcdfhccaaa
