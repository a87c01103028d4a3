/- Holders of duties: mathematics. -/
import Derived.Test.YtlmgjgcdfhccaaaPG
namespace Go.Proofs.Ytlmgjgcdfhccaaa
open Go.RowKit Go.Maps Go.Shelf

theorem hrF_cases {os : List Of} (id day : Int) : hrF os id day = (0, false) ∨ ∃ h j o, hrF os id day = (h, true) ∧ (ckV os).2 = 0 ∧ (∃ i, ixO os id = some i) ∧ ixO os h = some j ∧ os[j]? = some o ∧ o.id = h ∧ hasB o.fr o.un day = true := by
  have hc := chF_spec os id day
  rcases hc with ⟨hg, i, hi, hc⟩ | ⟨_, e⟩
  · have hne : chF os id day ≠ [] := fun e => by have := hc.pos; rw [e] at this; simp at this
    obtain ⟨j, o, ho, ho2⟩ := hc.mem _ (last_mem hc.pos)
    have hx := good_ix hg ho
    rw [ho2] at hx
    unfold hrF hrT hrV
    rw [if_neg hne]
    by_cases f : inF os day ((chF os id day).getLastD 0) = true
    · rw [if_pos f]
      refine Or.inr ⟨_, j, o, rfl, hg, ⟨i, hi⟩, hx, ho, ho2, ?_⟩
      unfold inF at f
      rw [hx] at f
      have e : os[(some j).getD 0]? = some o := ho
      rw [e] at f
      exact f
    · rw [if_neg f]; exact Or.inl rfl
  · refine Or.inl ?_
    unfold hrF hrT
    rw [if_pos e]
theorem hrF_own {os : List Of} (hg : (ckV os).2 = 0) {k : Nat} {o : Of} (ho : os[k]? = some o) (day : Int) : hrF os o.id day = (o.id, true) ↔ hasB o.fr o.un day = true := by
  have hx := good_ix hg ho
  constructor
  · intro h
    rcases hrF_cases (os := os) o.id day with e | ⟨h', j, o', e, _, _, hj, ho', e2, hb⟩
    · rw [e] at h; simp at h
    · rw [e] at h
      obtain ⟨rfl, _⟩ := Prod.mk.inj h
      rw [hx] at hj; cases hj
      rw [ho] at ho'; cases ho'
      exact hb
  · intro h
    have hc : CV os o.id day [o.id] := Or.inl ⟨hg, k, hx, .stop ho (Or.inl h)⟩
    rw [hrF_eq hc]
    have f : inF os day o.id = true := by
      unfold inF
      rw [hx]
      have e : os[(some k).getD 0]? = some o := ho
      rw [e]
      exact h
    show hrT os day [o.id] = _
    unfold hrT hrV
    rw [if_neg (by simp)]
    show (if inF os day o.id = true then (o.id, true) else (0, false)) = _
    rw [if_pos f]
theorem mem_dut {os : List Of} (hg : (ckV os).2 = 0) {id : Int} (hi : ixO os id ≠ none) (day x : Int) : x ∈ dutL os id day ↔ (∃ i, ixO os x = some i) ∧ hrF os x day = (id, true) := by
  unfold dutL
  rw [if_pos ⟨hg, hi⟩, List.mem_map]
  constructor
  · rintro ⟨o, ho, rfl⟩
    obtain ⟨h1, h2⟩ := List.mem_filter.1 ho
    obtain ⟨k, hk⟩ := List.mem_iff_getElem?.1 h1
    exact ⟨ixO_of hk, of_decide_eq_true h2⟩
  · rintro ⟨⟨i, hi⟩, h⟩
    obtain ⟨o, ho, rfl⟩ := ixO_at hi
    exact ⟨o, List.mem_filter.2 ⟨List.mem_of_getElem? ho, decide_eq_true h⟩, rfl⟩
theorem asc_dut {os : List Of} (hg : (ckV os).2 = 0) (id day : Int) : (dutL os id day).Pairwise (· < ·) := by
  unfold dutL
  split
  · refine List.Pairwise.map _ (fun a b h => h) (List.Pairwise.filter _ ?_)
    exact List.pairwise_map.1 (good_asc hg)
  · exact List.Pairwise.nil
theorem own_dut {os : List Of} (hg : (ckV os).2 = 0) {k : Nat} {o : Of} (ho : os[k]? = some o) (day : Int) : decide (o.id ∈ dutL os o.id day) = hasB o.fr o.un day := by
  have hx := good_ix hg ho
  have : o.id ∈ dutL os o.id day ↔ hasB o.fr o.un day = true := by
    rw [mem_dut hg (by rw [hx]; simp), ← hrF_own hg ho]
    exact ⟨fun h => h.2, fun h => ⟨⟨k, hx⟩, h⟩⟩
  by_cases e : hasB o.fr o.un day = true
  · rw [e]; exact decide_eq_true (this.2 e)
  · rw [decide_eq_false (fun h => e (this.1 h))]
    simpa using e
theorem nil_dut {os : List Of} (hg : (ckV os).2 = 0) {k : Nat} {o : Of} (ho : os[k]? = some o) {day : Int} (h : hasB o.fr o.un day = false) : dutL os o.id day = [] := by
  have hx := good_ix hg ho
  cases hd : dutL os o.id day with
  | nil => rfl
  | cons x t =>
    have : x ∈ dutL os o.id day := by rw [hd]; exact List.mem_cons_self ..
    obtain ⟨_, e⟩ := (mem_dut hg (by rw [hx]; simp) day x).1 this
    rcases hrF_cases (os := os) x day with e2 | ⟨h', j, o', e2, _, _, hj, ho', e3, hb⟩
    · rw [e2] at e; simp at e
    · rw [e2] at e
      obtain ⟨rfl, _⟩ := Prod.mk.inj e
      rw [hx] at hj; cases hj
      rw [ho] at ho'; cases ho'
      rw [h] at hb; cases hb
open Classical in
/-- Who holds the duties of an office, of the first so many. -/
noncomputable def hoF (os : List Of) (day : Int) (k : Nat) (id : Int) : Int :=
  if (∃ i, ixO os id = some i) ∧ (hrF os id day).2 = true ∧ (∃ j, ixO os (hrF os id day).1 = some j ∧ j < k) then (hrF os id day).1 else 0
/-- A function changed at some numbers. -/
def putF (F : Int → Int) (l : List Int) (v : Int) : Int → Int := fun x => if x ∈ l then v else F x
theorem putF_nil (F : Int → Int) (v : Int) : putF F [] v = F := by funext x; simp [putF]
theorem putF_snoc (F : Int → Int) (l : List Int) (y v : Int) : putF F (l ++ [y]) v = fun x => if x = y then v else putF F l v x := by
  funext x
  unfold putF
  by_cases e : x = y
  · subst e; simp
  · by_cases h : x ∈ l <;> simp [h, e]
theorem hoF_zero (os : List Of) (day : Int) : hoF os day 0 = fun _ => 0 := by
  funext id
  unfold hoF
  rw [if_neg]
  rintro ⟨_, _, j, _, h⟩
  omega
theorem hoF_step {os : List Of} (hg : (ckV os).2 = 0) {k : Nat} {o : Of} (ho : os[k]? = some o) (day : Int) : putF (hoF os day k) (dutL os o.id day) o.id = hoF os day (k + 1) := by
  have hx := good_ix hg ho
  funext id
  unfold putF
  by_cases m : id ∈ dutL os o.id day
  · rw [if_pos m]
    obtain ⟨h1, h2⟩ := (mem_dut hg (by rw [hx]; simp) day id).1 m
    unfold hoF
    rw [if_pos ⟨h1, by rw [h2], k, by rw [h2]; exact hx, by omega⟩, h2]
  · rw [if_neg m]
    have hm := fun h => m ((mem_dut hg (by rw [hx]; simp) day id).2 h)
    unfold hoF
    by_cases h1 : ∃ i, ixO os id = some i
    · by_cases h2 : (hrF os id day).2 = true
      · by_cases h3 : ∃ j, ixO os (hrF os id day).1 = some j ∧ j < k
        · obtain ⟨j, hj, hl⟩ := h3
          rw [if_pos ⟨h1, h2, j, hj, hl⟩, if_pos ⟨h1, h2, j, hj, by omega⟩]
        · rw [if_neg (fun h => h3 h.2.2), if_neg]
          rintro ⟨_, _, j, hj, hl⟩
          have : j = k := by
            by_cases e : j = k
            · exact e
            · exact absurd ⟨j, hj, by omega⟩ h3
          subst this
          obtain ⟨o', ho', e'⟩ := ixO_at hj
          rw [ho] at ho'; cases ho'
          exact hm ⟨h1, Prod.ext e'.symm h2⟩
      · rw [if_neg (fun h => h2 h.2.1), if_neg (fun h => h2 h.2.1)]
    · rw [if_neg (fun h => h1 h.1), if_neg (fun h => h1 h.1)]
theorem hoF_fresh {os : List Of} (hg : (ckV os).2 = 0) {k : Nat} {o : Of} (ho : os[k]? = some o) {day id : Int} (m : id ∈ dutL os o.id day) : hoF os day k id = 0 := by
  have hx := good_ix hg ho
  obtain ⟨h1, h2⟩ := (mem_dut hg (by rw [hx]; simp) day id).1 m
  unfold hoF
  rw [if_neg]
  rintro ⟨_, _, j, hj, hl⟩
  rw [h2] at hj
  rw [hx] at hj; cases hj
  omega
theorem hoF_all (os : List Of) (o : Of) (day : Int) :
    (hrF os o.id day = (0, false) ∧ hoF os day os.length o.id = 0) ∨ (∃ h, h ≠ 0 ∧ hrF os o.id day = (h, true) ∧ hoF os day os.length o.id = h) := by
  rcases hrF_cases (os := os) o.id day with e | ⟨h, j, o', e, hg, hi, hj, ho', e2, hb⟩
  · refine Or.inl ⟨e, ?_⟩
    unfold hoF
    rw [if_neg]
    rintro ⟨_, h2, _⟩
    rw [e] at h2; cases h2
  · refine Or.inr ⟨h, ?_, e, ?_⟩
    · have h1 : 1 ≤ o'.id := by
        by_cases g : 1 ≤ o'.id ∧ o'.id ≤ 1073741824 ∧ spanB o'.fr o'.un = true ∧ o'.nx.length ≤ 8
        · exact g.1
        · have := good_self hg ho'
          rw [rng_no g] at this
          omega
      omega
    · unfold hoF
      rw [if_pos ⟨hi, by rw [e], j, by rw [e]; exact hj, ixO_lt hj⟩, e]
/-- The map of holders. -/
def Hd (w : World) (b nn : Nat) (F : Int → Int) : Prop := ∃ D, w.ownsMap Try.prog 3 (plainElem (H := Unit) Try.prog 3) b nn D ∧ IsMap D ∧ ∀ id, D.atKey (.int .i64 id) (.lit (.int .i64 0)) = .lit (.int .i64 (F id))
theorem Hd.kept {w w' : World} {b nn : Nat} {F : Int → Int} {row : Option Nat} (h : Hd w b nn F) (hg : w.grownBy w' row) (hne : some b ≠ row) : Hd w' b nn F := by
  obtain ⟨D, h1, h2⟩ := h
  exact ⟨D, World.ownsMap.kept h1 hg hne, h2⟩
theorem Hd.below {w w' : World} {b nn : Nat} {F : Int → Int} (h : Hd w b nn F) (hb : Below w.heap.size w w') : Hd w' b nn F := h.kept (row := none) (gb_below hb) (by simp)
theorem Hd.lt {w : World} {b nn : Nat} {F : Int → Int} (h : Hd w b nn F) : b < w.heap.size := by
  obtain ⟨D, h1, _⟩ := h
  exact World.ownsMap.lt h1
theorem Hd.new (w : World) : Hd (w.alloc (.map #[] 0)) w.heap.size 0 (fun _ => 0) := ⟨.map [], World.ownsMap_made w _ _ _, isMap_empty, fun _ => rfl⟩
set_option maxRecDepth 100000 in
theorem Hd.get {w : World} {b nn : Nat} {F : Int → Int} (h : Hd w b nn F) {id : Int} (hid : W64 id) :
    (Instr.lookup 39 (.map (some b)) (.int .i64 id) false).run Try.prog w = .ok (.int .i64 (F id)) w := by
  obtain ⟨D, hD, _, hat⟩ := h
  obtain ⟨c, hrun, ha, _⟩ := hD.lookup_int lawI Try.underlying39 Try.underlying3 (zeroI w) (keyI hid)
  rw [hat] at ha
  injection ha with hc
  rw [hrun, litI_inj hc]
set_option maxRecDepth 100000 in
theorem Hd.put {w : World} {b nn : Nat} {F : Int → Int} (h : Hd w b nn F) {id v : Int} (hid : W64 id) (hv : W64 v) (hl : nn ≤ 2000000) :
    ∃ w', (Instr.mapUpdate 39 (.map (some b)) (.int .i64 id) (.int .i64 v)).run Try.prog w = .ok () w' ∧ Hd w' b (nn + 1) (fun x => if x = id then v else F x) ∧ w.grownBy w' (some b) := by
  obtain ⟨D, hD, hm, hat⟩ := h
  obtain ⟨w', hrun, hown, hg⟩ := hD.update lawI Try.underlying39 (by unfold maxLen; omega) (keyI hid) (plainElem_int (H := Unit) (q := .i64) (a := v) Try.underlying3 hv.wf)
  refine ⟨w', hrun, ⟨_, hown, hm.put _ _, fun x => ?_⟩, hg⟩
  by_cases e : x = id
  · subst e
    rw [atKey_put_same hm (show WideAt.IsKeyLit (.int .i64 x) from trivial)]
    show _ = DataW.lit (.int .i64 (if x = x then v else F x))
    rw [if_pos rfl]
  · rw [atKey_put_other (fun g => e (litI_inj g)), hat]
    show _ = DataW.lit (.int .i64 (if x = id then v else F x))
    rw [if_neg e]
theorem run_mkMap0 (w : World) : (Instr.makeMap 39 none).run Try.prog w = .ok (.map (some w.heap.size)) (w.alloc (.map #[] 0)) := by
  kernel_rfl
end Go.Proofs.Ytlmgjgcdfhccaaa
