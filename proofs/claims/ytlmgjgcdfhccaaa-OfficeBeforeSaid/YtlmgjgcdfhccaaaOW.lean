/- Reach. -/
import Derived.Test.YtlmgjgcdfhccaaaOV
import Derived.Laws.EntriesVeiled
namespace Go.Proofs.Ytlmgjgcdfhccaaa
open Go.RowKit Go.Maps Go.Shelf

/-- What Reach gives. -/
def RV (os : List Of) (id : Int) (l : List Int) : Prop :=
  ((ckV os).2 = 0 ∧ ixO os id ≠ none ∧ l.Pairwise (· < ·) ∧ (∀ x, x ∈ l ↔ Rc os id x)) ∨ (¬ ((ckV os).2 = 0 ∧ ixO os id ≠ none) ∧ l = [])
theorem asc_uniq : ∀ {a b : List Int}, a.Pairwise (· < ·) → b.Pairwise (· < ·) → (∀ x, x ∈ a ↔ x ∈ b) → a = b
  | [], [], _, _, _ => rfl
  | [], y :: b, _, _, h => by have := (h y).2 (List.mem_cons_self ..); simp at this
  | x :: a, [], _, _, h => by have := (h x).1 (List.mem_cons_self ..); simp at this
  | x :: a, y :: b, ha, hb, h => by
    obtain ⟨ha1, ha2⟩ := List.pairwise_cons.1 ha
    obtain ⟨hb1, hb2⟩ := List.pairwise_cons.1 hb
    have e : x = y := by
      rcases List.mem_cons.1 ((h x).1 (List.mem_cons_self ..)) with e | e
      · exact e
      · rcases List.mem_cons.1 ((h y).2 (List.mem_cons_self ..)) with g | g
        · exact g.symm
        · have := hb1 x e; have := ha1 y g; omega
    subst e
    rw [asc_uniq ha2 hb2 (fun z => ⟨fun hz => by
      rcases List.mem_cons.1 ((h z).1 (List.mem_cons_of_mem _ hz)) with e | e
      · have := ha1 z hz; omega
      · exact e, fun hz => by
      rcases List.mem_cons.1 ((h z).2 (List.mem_cons_of_mem _ hz)) with e | e
      · have := hb1 z hz; omega
      · exact e⟩)]
theorem RV.uniq {os : List Of} {id : Int} {a b : List Int} (ha : RV os id a) (hb : RV os id b) : a = b := by
  rcases ha with ⟨h1, h2, h3, h4⟩ | ⟨h1, h2⟩
  · rcases hb with ⟨_, _, g3, g4⟩ | ⟨g1, _⟩
    · exact asc_uniq h3 g3 (fun x => (h4 x).trans (g4 x).symm)
    · exact absurd ⟨h1, h2⟩ g1
  · rcases hb with ⟨g1, g2, _⟩ | ⟨_, g2⟩
    · exact absurd ⟨g1, g2⟩ h1
    · rw [h2, g2]
theorem run_mkMapB (w : World) : (Instr.makeMap 55 none).run Try.prog w = .ok (.map (some w.heap.size)) (w.alloc (.map #[] 0)) := by kernel_rfl
set_option maxRecDepth 100000 in
set_option maxHeartbeats 8000000 in
theorem Reach_any (v : Value) (os : List Of) (id : Int) (w : World) (hw : Lw w) (hv : IsO w v os) (hn : os.length ≤ 1000) (hr : NumO os) (hid : W64 id) :
    Calls Try.prog 16 #[v, .int .i64 id] w fun e w' => ∃ u l, e = .returned u ∧ RV os id l ∧ IsZ w' u l ∧ Below w.heap.size w w' := by
  obtain ⟨p, c, rfl, hcap, hp⟩ := hv
  have HV := Lib.hid (show IsO w (.slice p os.length c) os from ⟨p, c, rfl, hcap, hp⟩)
  clear hp hcap
  obtain ⟨n, hnn⟩ : ∃ n, n = os.length := ⟨_, rfl⟩
  rw [← hnn] at hn HV ⊢
  have HN := Lib.hid hnn
  clear hnn
  obtain ⟨w0, hw0⟩ : ∃ W, W = w.alloc (.cells #[.slice p n c] 22) := ⟨_, rfl⟩
  have B0 : Below w.heap.size w w0 := by rw [hw0]; exact (Below.refl _ w).alloc (Nat.le_refl _) _
  have hw_ : Lw w0 := hw.below B0
  have lB0 : w0.cell? ⟨w.heap.size, 0, none⟩ = some (.slice p n c) := by rw [hw0]; exact World.cell?_alloc_mark w _ _ (0, 0) 0
  have sz0 : w0.heap.size = w.heap.size + 1 := by rw [hw0]; simp
  by_cases g : (ckV os).2 = 0
  rotate_left
  · have KN := Lib.hid (known_no _ os id w0 hw_ (HV.out.below B0) (by rw [← HN.out]; exact hn) hr g)
    have RN := Lib.hid (show RV os id [] from Or.inr ⟨fun h => g h.1, rfl⟩)
    have BB := Lib.hid B0
    clear hw hn hr g B0 hw_ HV
    go_enter Try.func16, Try.ntmps16
    go_wp2_with fail
    rw [← hw0]
    clear hw0
    refine KN.out.mono ?_; rintro e w1 ⟨rfl, b1⟩
    have B1 := Lib.hid (BB.out.trans (b1.mono BB.out.size))
    clear b1 KN
    go_wp2_with fail
    go_ret
    exact ⟨_, _, rfl, RN.out, isZ_nil _, B1.out.alloc B1.out.size _⟩
  have KN := Lib.hid (known_ok _ os id w0 hw_ (HV.out.below B0) (by rw [← HN.out]; exact hn) hr hid g)
  cases h : ixO os id with
  | none =>
    rw [h] at KN
    have RN := Lib.hid (show RV os id [] from Or.inr ⟨fun k => k.2 h, rfl⟩)
    have BB := Lib.hid B0
    clear hw hn hr g B0 hw_ HV
    go_enter Try.func16, Try.ntmps16
    go_wp2_with fail
    rw [← hw0]
    clear hw0
    refine KN.out.mono ?_; rintro e w1 ⟨b, rfl, ix, b1⟩
    have B1 := Lib.hid (BB.out.trans (b1.mono BB.out.size))
    clear b1 ix KN
    go_wp2_with fail
    go_ret
    exact ⟨_, _, rfl, RN.out, isZ_nil _, B1.out.alloc B1.out.size _⟩
  | some i0 =>
    rw [h] at KN
    have HH := Lib.hid h
    have BB := Lib.hid B0
    have HR := Lib.hid hr
    have HG := Lib.hid g
    clear hw hr g B0 hw_ h
    go_enter Try.func16, Try.ntmps16
    go_wp2_with fail
    rw [← hw0]
    clear hw0
    refine KN.out.mono ?_; rintro e w1 ⟨b, rfl, ix, b1⟩
    have IX1 := Lib.hid ix
    have B1 := Lib.hid b1
    clear b1 ix KN
    have hmm := run_mkMapB
    obtain ⟨V, hV⟩ : ∃ V, V = w1.alloc (.cells #[.map (some b)] 39) := ⟨_, rfl⟩
    have sV : V.heap.size = w1.heap.size + 1 := by rw [hV]; simp
    have BV : Below w1.heap.size w1 V := by rw [hV]; exact (Below.refl _ w1).alloc (Nat.le_refl _) _
    have aV : V.cell? ⟨w1.heap.size, 0, none⟩ = some (.map (some b)) := by rw [hV]; exact World.cell?_alloc_mark w1 _ _ (0, 0) 0
    have BW := Lib.hid (BB.out.trans ((B1.out.trans (BV.mono B1.out.size)).mono BB.out.size))
    have lV : V.cell? ⟨w.heap.size, 0, none⟩ = some (.slice p n c) := ((B1.out.trans (BV.mono B1.out.size)).cell (p := ⟨w.heap.size, 0, none⟩) (by show w.heap.size < w0.heap.size; omega)).trans lB0
    have lt1 : w.heap.size < w1.heap.size := by have := B1.out.size; omega
    obtain ⟨W3, hW3⟩ : ∃ W3, W3 = ((V.alloc (.map #[] 0)).alloc (.cells #[.map (some V.heap.size)] 55)).alloc (.cells #[visF V.heap.size w.heap.size w1.heap.size] 56) := ⟨_, rfl⟩
    have vs0 : Vs os V w.heap.size w1.heap.size [] W3 := by
      refine ⟨?_, ?_, ?_, ?_, ?_, List.nodup_nil, fun x h => by simp at h⟩
      · rw [hW3]; exact (((Below.refl _ V).alloc (Nat.le_refl _) _).alloc (by simp) _).alloc (by simp; omega) _
      · rw [hW3]; exact ((((Below.refl _ _).alloc (Nat.le_refl _) _ : Below ((V.alloc (.map #[] 0)).alloc (.cells #[.map (some V.heap.size)] 55)).heap.size ((V.alloc (.map #[] 0)).alloc (.cells #[.map (some V.heap.size)] 55)) _)).cell (p := ⟨V.heap.size + 1, 0, none⟩) (by simp)).trans (by simp)
      · rw [hW3]; have := World.cell?_alloc_mark ((V.alloc (.map #[] 0)).alloc (.cells #[.map (some V.heap.size)] 55)) #[visF V.heap.size w.heap.size w1.heap.size] 56 (0, 0) 0; simpa using this
      · rw [hW3]; simp
      · rw [hW3]; exact ((Mp.new V).below ((Below.refl _ _).alloc (Nat.le_refl _) _)).below ((Below.refl _ _).alloc (Nat.le_refl _) _)
    have H1 := Lib.hid (visit_any (.slice p n c) os V w.heap.size w1.heap.size b (HV.out.below BW.out) (by rw [← HN.out]; exact hn) HR.out HG.out (IX1.out.below BV) lV aV (by rw [sV]; omega) (by rw [sV]; omega) _ id i0 [] W3 HH.out (Nat.le_refl _) vs0 (fun y h => by simp at h))
    rw [sV] at H1
    rw [sV] at hW3
    have BVh := Lib.hid BV
    clear BV aV lV lB0 vs0 HV lt1 sz0
    go_wp2_with fail
    rw [← hV]
    unfold visF at hW3
    rw [← hW3]
    clear hV hW3
    refine H1.out.mono ?_; rintro e w3 ⟨rfl, acc, vs, gr, _, ida, cla, rca⟩
    have RR := vs.r
    rw [sV] at RR
    have MP := Lib.hid vs.mp
    have RC := Lib.hid (fun (x : Int) => show x ∈ acc ↔ Rc os id x from ⟨fun h => (rca x h).resolve_left (by simp), fun h => by
      induction h with
      | refl => exact ida
      | step hr1 he ih => exact cla _ ih (hr1.fr HG.out) _ he⟩)
    have NI := Lib.hid (show V.heap.size < w3.heap.size by have := vs.sz; omega)
    have LEN := Lib.hid (acc_len vs.nd vs.ids)
    have B3 := Lib.hid (BW.out.trans (vs.bel.mono BW.out.size))
    rw [sV] at MP NI
    clear vs gr ida cla rca H1 sV
    have KK := Lib.hid (keys_any (some (w1.heap.size + 1)) w3)
    have SO := Lib.hid (sorted_any (w1.heap.size + 1) acc.length _ _ w3 MP.out (by have := MP.out.size; have := LEN.out; have := HN.out; unfold maxLen; omega) (by have := MP.out.size; have := LEN.out; have := HN.out; omega))
    go_wp2_with fail
    refine KK.out.mono ?_; rintro e w4 ⟨rfl, rfl⟩
    go_wp2_with fail
    refine SO.out.mono ?_; rintro e w5 ⟨u, ss, rfl, pm, own, hnil, b5⟩
    obtain ⟨nd, mem⟩ := MP.out.keys pm
    obtain ⟨as1, as2⟩ := asc_sort nd
    have FIN := Lib.hid (show ∃ u' l, Ending.returned u = .returned u' ∧ RV os id l ∧ IsZ w5 u' l ∧ Below w.heap.size w w5 from ⟨u, _, rfl, Or.inl ⟨HG.out, by rw [HH.out]; simp, as1, fun x => (as2 x).trans ((mem x).trans (RC.out x))⟩, own_isZ (by have := own; rwa [show ss.length = (ss.mergeSort (fun x y => decide (x ≤ y))).length by simp] at this), B3.out.trans (b5.mono B3.out.size)⟩)
    clear pm own hnil b5 nd mem as1 as2 SO KK MP RC
    go_wp2_with fail
    go_ret
    exact FIN.out
end Go.Proofs.Ytlmgjgcdfhccaaa
