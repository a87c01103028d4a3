/- A range over a function whose iterator writes one box of its own between two rounds. -/
import Derived.Test.YtfgpmghaebdhpaaGreatDoorCB
import Derived.RangeFuncNested
import Derived.RangeFuncBound
import Derived.RangeFuncCalls
import Derived.RangeFuncLeaves
import Derived.Shelf.RegionOpen
import Derived.OwnWalkIn
import Derived.TacticsInMore
import Derived.LoopNIn
import Derived.LoopIn
namespace Go.Proofs.YtfgpmghaebdhpaaGreatDoor
open Go.RowKit Go.Shelf

/-- What stays while the box Bs is written and new memory is made. -/
def BoxOk {β : Type} (Bs : Nat) (J : β → World → Prop) : Prop := ∀ s W W', J s W → W.grownBy W' (some Bs) → J s W'
/-- What the iterator gives: its own box aside, the caller's facts go through. -/
def SeqBox {α : Type} (F : Fence) (n : Nat) (P : Program) (g : Nat) (lb : Array Value) (enc : α → Value) (Bs : Nat) (Kp : World → World → Prop) (S Sp : List α → Prop) (N : Nat) (w : World) : Prop :=
  ∀ (l : Nat) (J Jx : List α → World → Prop) (W : World), Below w.heap.size w W → BoxOk Bs J → BoxOk Bs Jx →
    (∀ pre x W1, J pre W1 → pre.length < N → YieldAt F (n - 1) P l #[enc x] W1 fun e W' =>
      (e = .returned (.bool true) ∧ J (pre ++ [x]) W' ∧ Kp W1 W') ∨ (e = .returned (.bool false) ∧ Jx (pre ++ [x]) W')) →
    J [] W →
    CallsIn F n P g (#[.func (.yield l) #[] #[]] ++ lb) W fun e W' => (∃ v, e = .returned v) ∧ ((∃ xs, S xs ∧ J xs W') ∨ (∃ pre, Sp pre ∧ Jx pre W'))
/-- How a round ends: it goes on, or it returns. -/
def RoundP {α : Type} (Kp : World → World → Prop) (I Ix : List α → World → Prop) (xs : List α) (W : World) : Exit → Act → World → Prop
  | .normal, _, W' => KeepsOthers W W' ∧ Kp W W' ∧ I xs W'
  | .ret, _, W' => KeepsOthers W W' ∧ Ix xs W'
  | _, _, _ => False
/-- The loop's two blocks. -/
structure LoopAt (L D : Nat) (r : Loop) (W : World) : Prop where
  lp : W.heap[L]? = some (.loop r)
  dfr : W.heap[D]? = some (.deferred (some []))
theorem LoopAt.grown {L D Bs : Nat} {r : Loop} {W W' : World} (h : LoopAt L D r W) (g : W.grownBy W' (some Bs)) (hL : Bs < D) (hD : D < L) : LoopAt L D r W' where
  lp := (g.block L (Array.getElem?_eq_some_iff.1 h.lp).1 (by simp; omega)).trans h.lp
  dfr := (g.block D (Array.getElem?_eq_some_iff.1 h.dfr).1 (by simp; omega)).trans h.dfr
theorem LoopAt.turn {L D : Nat} {r : Loop} {W : World} (h : LoopAt L D r W) (r' : Loop) (hD : D < L) : LoopAt L D r' (W.putObj L (.loop r')) where
  lp := World.putObj_heap_same (Array.getElem?_eq_some_iff.1 h.lp).1
  dfr := (World.putObj_heap_other (by omega)).trans h.dfr
theorem LoopAt.keeps {L D : Nat} {r : Loop} {W W' : World} (h : LoopAt L D r W) (k : KeepsOthers W W') : LoopAt L D r W' := ⟨k.same _ _ h.lp rfl, k.same _ _ h.dfr rfl⟩

theorem rangeFunc_box {F : Fence} {n : Nat} {P : Program} {α : Type} {g : Operand} {p : Tmp} {assign body : Code} {Q : Exit → Act → World → Prop} {a : Act} {w : World}
    (hro : F.round = none) (h1 : 1 ≤ n) {gf : Nat} {lb : Array Value} (hg : a.eval g = .func (.func gf) #[] lb) (hFg : F.fn gf) (eg : ∀ args w, (callFunc gf args).run P w = .ok (.enter gf args) w)
    {enc : α → Value} {Bs : Nat} {Kp : World → World → Prop} {S Sp : List α → Prop} {N : Nat} (hseq : SeqBox F (n - 1) P gf lb enc Bs Kp S Sp N w) (hBs : Bs < w.heap.size)
    (hKt : ∀ {A B C : World}, Kp A B → Kp B C → Kp A C) (hKb : ∀ (W : World) (l : Nat) (o : Obj), w.heap.size ≤ l → l < W.heap.size → Kp W (W.putObj l o))
    (I Ix : List α → World → Prop) (hI : ∀ s W W' row, I s W → W.grownBy W' row → (∀ r, row = some r → r = Bs ∨ (w.heap.size ≤ r ∧ ∃ o : Obj, W.heap[r]? = some o ∧ o.isCells = false)) → I s W') (hIx : ∀ s W W' row, Ix s W → W.grownBy W' row → (∀ r, row = some r → r = Bs ∨ (w.heap.size ≤ r ∧ ∃ o : Obj, W.heap[r]? = some o ∧ o.isCells = false)) → Ix s W') (h0 : I [] w) (a₁ : α → Act)
    (hassign : ∀ (l : Nat) (x : α) (W : World) (K : Act → World → Prop), K (a₁ x) W → assign.wpIn (F.inRound l) (n - 1 - 1) P (Exit.then K (fun _ _ _ => False)) { tmps := a.tmps.setIfInBounds p (enc x), defers := [] } W)
    (hbody : ∀ (l : Nat) (pre : List α) (x : α) (W : World), I pre W → pre.length < N → body.wpIn (F.inRound l) (n - 1 - 1) P (RoundP Kp I Ix (pre ++ [x]) W) (a₁ x) W)
    (hdone : ∀ (D : Nat) (xs : List α) (W : World), w.heap.size ≤ D → S xs → I xs W → W.heap[D]? = some (.deferred (some [])) → Q .normal { a with defers := { target := .collected D, args := #[] } :: a.defers } W)
    (hstop : ∀ (D : Nat) (pre : List α) (W : World), w.heap.size ≤ D → Sp pre → Ix pre W → W.heap[D]? = some (.deferred (some [])) → Code.ret.wpIn F n P Q { a with defers := { target := .collected D, args := #[] } :: a.defers } W) :
    (Code.rangeFunc g #[p] assign body).wpIn F n P Q a w := by
  refine wpIn_rangeFunc fun fn hfn => ?_
  rw [hro]
  obtain ⟨mk, hmk⟩ : ∃ mk : LoopState → Option Code → Loop, mk = fun st pe => { state := st, pending := pe, fn, tmps := a.tmps, params := #[p], assign, body, defers := w.heap.size } := ⟨_, rfl⟩
  have A0 : LoopAt (w.heap.size + 1) w.heap.size (mk .ready none) ((w.alloc (.deferred (some []))).alloc (.loop (mk .ready none))) :=
    ⟨by have := World.alloc_heap_new (w.alloc (.deferred (some []))) (.loop (mk .ready none)); rwa [World.size_alloc] at this, (Below.heap_alloc _ _ _ (by simp)).trans (World.alloc_heap_new w _)⟩
  have I0 : I [] ((w.alloc (.deferred (some []))).alloc (.loop (mk .ready none))) := hI _ _ _ none (hI _ _ _ none h0 (World.grownBy_alloc w _ none) (fun r e => by cases e)) (World.grownBy_alloc _ _ none) (fun r e => by cases e)
  have B0 : Below w.heap.size w ((w.alloc (.deferred (some []))).alloc (.loop (mk .ready none))) := ((Below.refl _ w).alloc (Nat.le_refl _) _).alloc (by simp) _
  have step : ∀ {jump : Option Code} {V : World}, LoopAt (w.heap.size + 1) w.heap.size { mk .ready none with state := .busy } V →
      (Instr.endRound (w.heap.size + 1) jump).run P V = .ok (.bool jump.isNone) (V.putObj (w.heap.size + 1) (.loop (mk (if jump.isNone then .ready else .done) jump))) := fun {jump V} h => by
    have := run_endRound (P := P) jump h.lp
    rw [hmk] at this ⊢
    exact this
  generalize hW1 : (w.alloc (.deferred (some []))).alloc (.loop (mk .ready none)) = W1 at A0 I0 B0
  refine ⟨w.heap.size + 1, [{ target := .collected w.heap.size, args := #[] }], W1, { target := .fn (.func gf) lb, args := #[.func (.yield (w.heap.size + 1)) #[] #[]] }, W1, gf,
    #[.func (.yield (w.heap.size + 1)) #[] #[]] ++ lb, W1, by rw [← hW1, hmk]; exact run_enterLoop_outer _ _ _ _ _, ?_, ?_, ?_, fun _ => h1, ?_⟩
  · simp only [resolve, hg]; simp [go_sem]
  · intro f' hf'; simp [Target.leads] at hf'; subst hf'; exact hFg
  · simp [invoke, go_sem, eg]
  refine (hseq (w.heap.size + 1) (fun pre W => I pre W ∧ LoopAt (w.heap.size + 1) w.heap.size (mk .ready none) W) (fun pre W => Ix pre W ∧ LoopAt (w.heap.size + 1) w.heap.size (mk .done (some .ret)) W) _ B0
    (fun s A B h g => ⟨hI s A B _ h.1 g (fun r e => Or.inl (by cases e; rfl)), h.2.grown g hBs (by omega)⟩) (fun s A B h g => ⟨hIx s A B _ h.1 g (fun r e => Or.inl (by cases e; rfl)), h.2.grown g hBs (by omega)⟩) ?_ ⟨I0, A0⟩).mono ?_
  · rintro pre x W ⟨hi, hl⟩ hlen
    have hlt := (Array.getElem?_eq_some_iff.1 hl.lp).1
    have hy := run_yield (P := P) (args := #[enc x]) hl.lp (by rw [hmk]; rfl)
    rw [hmk] at hy
    refine ⟨fn, a.tmps.setIfInBounds p (enc x), assign, body, by simpa using hy, roundIn_of_wpIn hfn ?_⟩
    refine hassign _ x W _ ?_
    refine ⟨_, run_beginRound hl.lp (by rw [hmk]), ?_⟩
    have l2 := hl.turn { mk .ready none with state := .busy } (by omega)
    refine wpIn_mono (hbody _ pre x _ (hI _ _ _ (some (w.heap.size + 1)) hi (grownBy_putObj' W _ _) (fun r e => Or.inr (by cases e; exact ⟨by omega, _, hl.lp, rfl⟩))) hlen) ?_
    rintro e a3 W3 hp
    cases e with
    | normal =>
      obtain ⟨k3, kp3, i3⟩ := hp
      have l3 := l2.keeps k3
      exact ⟨_, _, step (jump := none) l3, .inl ⟨rfl, ⟨hI _ _ _ (some (w.heap.size + 1)) i3 (grownBy_putObj' W3 _ _) (fun r e => Or.inr (by cases e; exact ⟨by omega, _, l3.lp, rfl⟩)), l3.turn _ (by omega)⟩, hKt (hKt (hKb _ _ _ (by omega) hlt) kp3) (hKb _ _ _ (by omega) (Array.getElem?_eq_some_iff.1 l3.lp).1)⟩⟩
    | ret =>
      obtain ⟨k3, i3⟩ := hp
      have l3 := l2.keeps k3
      exact ⟨_, _, step (jump := some .ret) l3, .inr ⟨rfl, hIx _ _ _ (some (w.heap.size + 1)) i3 (grownBy_putObj' W3 _ _) (fun r e => Or.inr (by cases e; exact ⟨by omega, _, l3.lp, rfl⟩)), l3.turn _ (by omega)⟩⟩
    | exit id => exact hp.elim
    | goto t => exact hp.elim
    | panic ch => exact hp.elim
    | outgrown => exact hp.elim
  · rintro e W2 ⟨⟨v, rfl⟩, (⟨xs, hS, hi, hl⟩ | ⟨pre, hSp, hi, hl⟩)⟩
    · exact ⟨none, _, by have := run_endLoop (P := P) hl.lp (by rw [hmk]; simp); rw [hmk] at this; exact this, hdone _ xs _ (Nat.le_refl _) hS (hI _ _ _ (some (w.heap.size + 1)) hi (grownBy_putObj' W2 _ _) (fun r e => Or.inr (by cases e; exact ⟨by omega, _, hl.lp, rfl⟩))) ((World.putObj_heap_other (by omega)).trans hl.dfr)⟩
    · exact ⟨some .ret, _, by have := run_endLoop (P := P) hl.lp (by rw [hmk]; simp); rw [hmk] at this; exact this, hstop _ pre _ (Nat.le_refl _) hSp (hIx _ _ _ (some (w.heap.size + 1)) hi (grownBy_putObj' W2 _ _) (fun r e => Or.inr (by cases e; exact ⟨by omega, _, hl.lp, rfl⟩))) ((World.putObj_heap_other (by omega)).trans hl.dfr)⟩
end Go.Proofs.YtfgpmghaebdhpaaGreatDoor
