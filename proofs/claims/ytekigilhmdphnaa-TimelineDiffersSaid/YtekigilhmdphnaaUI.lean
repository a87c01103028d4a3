/- The reference's join. -/
import Derived.Test.YtekigilhmdphnaaUH
namespace Go.Proofs.Ytekigilhmdphnaa
open Go.RowKit Go.Shelf

theorem Only.trans {v v1 v2 : Value} {w w1 w2 : World} (h : Only v w v1 w1) (g : Only v1 w1 v2 w2) : Only v w v2 w2 :=
  ⟨⟨g.1.os.trans h.1.os, g.1.tape.trans h.1.tape, g.1.output.trans h.1.output, Nat.le_trans h.1.size g.1.size, fun k hk hr => (g.1.block k (Nat.lt_of_lt_of_le hk h.1.size) (fun e => by
      rcases h.2 k e.symm with a | a
      · exact hr a.symm
      · omega)).trans (h.1.block k hk hr)⟩,
    fun k hk => by
      rcases g.2 k hk with a | a
      · exact h.2 k a
      · exact Or.inr (Nat.le_trans h.1.size a)⟩
theorem Only.refl (v : Value) (w : World) : Only v w v w := ⟨⟨rfl, rfl, rfl, Nat.le_refl _, fun _ _ _ => rfl⟩, fun _ h => Or.inl h⟩
theorem Only.quiet {v v1 : Value} {w w1 w2 : World} (h : Only v w v1 w1) (g : Below w1.heap.size w1 w2) : Only v w v1 w2 := ⟨gb_trans h.1 (gb_below g), h.2⟩
theorem Only.below {v v1 : Value} {w w1 : World} {K : Nat} (h : Only v w v1 w1) (hK : K ≤ w.heap.size) (ho : ∀ k, v.ownBlock = some k → K ≤ k) : Below K w w1 := (Below.refl K w).grown h.1 hK ho
/-- A list in another row stays. -/
theorem IsP.gb {w w' : World} {p : Option Addr} {n c : Nat} {P : Nat → Pc} {row : Option Nat} (h : IsP w p n c P) (g : w.grownBy w' row) (hd : 0 < n → ∀ a, p = some a → row ≠ some a.block) : IsP w' p n c P := by
  rcases h with h | ⟨a, h1, h2, h3⟩
  · exact Or.inl h
  · refine Or.inr ⟨a, h1, h2, fun h0 => ⟨(h3 h0).1, ?_⟩⟩
    obtain ⟨hb, hc⟩ := (h3 h0).2
    have e := g.block a.block hb (hd h0 a h1).symm
    refine ⟨Nat.lt_of_lt_of_le hb g.size, fun j hj => ?_⟩
    obtain ⟨x, y, z⟩ := hc j hj
    exact ⟨(World.cell?_of_block (a := ⟨a.block, a.off + j * 3, none⟩) e).trans x, (World.cell?_of_block (a := ⟨a.block, a.off + j * 3 + 1, none⟩) e).trans y, (World.cell?_of_block (a := ⟨a.block, a.off + j * 3 + 2, none⟩) e).trans z⟩
theorem putR_len (L : List Pc) (x : Pc) : (putR L x).length ≤ L.length + 1 := by
  unfold putR; split
  · omega
  · exact putL_len L x
theorem foldR_len : ∀ (M L : List Pc), (M.foldl putR L).length ≤ L.length + M.length
  | [], L => by simp
  | x :: M, L => by
    have := foldR_len M (putR L x)
    have := putR_len L x
    rw [List.foldl_cons, List.length_cons]; omega
theorem foldR_succ (P : Nat → Pc) (A : List Pc) (k : Nat) : (toL P (k + 1)).foldl putR A = putR ((toL P k).foldl putR A) (P k) := by
  rw [toL_succ, List.foldl_append]; rfl

set_option maxRecDepth 10000 in
set_option maxHeartbeats 4000000 in
theorem join_any (K : Nat) (v : Value) (A : List Pc) (p : Option Addr) (n c : Nat) (P : Nat → Pc) (w : World) (hK : K ≤ w.heap.size) (hl : A.length + n ≤ 100000) (ho : w.ownsRow K 47 3 v A.length (cellsP A)) (hP : IsP w p n c P) (hd : 0 < n → ∀ a, p = some a → v.ownBlock ≠ some a.block) :
    Calls Try.prog 51 #[v, .slice p n c] w fun e w' => ∃ v', e = .returned v' ∧ w'.ownsRow K 47 3 v' ((toL P n).foldl putR A).length (cellsP ((toL P n).foldl putR A)) ∧ Only v w v' w' := by
  have HP := Lib.hid hP
  have HO := Lib.hid ho
  have HD := Lib.hid hd
  have HK := Lib.hid hK
  clear hP ho hd hK
  go_enter Try.func51, Try.ntmps51
  go_wp2_with fail
  go_loopg [0, 5] n (fun gg s0 s5 wr => ∃ kk : Nat, kk ≤ n ∧ n - kk ≤ gg ∧ s5 = .int .i64 kk ∧ Aside (wr.ownsRow K 47 3 s0 ((toL P kk).foldl putR A).length (cellsP ((toL P kk).foldl putR A))) ∧ Aside (Only v w s0 wr))
  case atStart => exact ⟨0, Nat.zero_le _, by omega, rfl, HO.out, Only.refl v w⟩
  case round =>
    obtain ⟨kk, hkk, hg, rfl, OW, ON⟩ := hrel
    by_cases hlt : kk < n
    · have hltz : (kk : Int) < (n : Int) := by omega
      have hz0 : (0 : Int) ≤ (kk : Int) := by omega
      obtain ⟨b, off, rfl, hp⟩ := (HP.out.gb ON.out.1 HD.out).row (by omega)
      obtain ⟨l0, l1, l2⟩ := hp.2 kk hlt
      have fl := foldR_len (toL P kk) A
      rw [toL_length] at fl
      have PC := Lib.hid (put_any K _ _ (P kk) wr (Nat.le_trans HK.out ON.out.1.size) (by omega) OW.out)
      rw [← foldR_succ] at PC
      obtain ⟨y, hy⟩ : ∃ y, y = P kk := ⟨_, rfl⟩
      rw [← hy] at l0 l1 l2 PC
      clear hy fl hp
      go_wp2_with fail
      refine PC.out.mono ?_; rintro e w2 ⟨v2, rfl, o2, n2⟩
      have O2 := Lib.hid o2
      have N2 := Lib.hid (ON.out.trans n2)
      clear o2 n2 PC l0 l1 l2
      go_wp2_with fail
      go_roundg (n - (kk + 1))
      case measure => omega
      case rel => exact ⟨kk + 1, by omega, by omega, by go_num, O2.out, N2.out⟩
    · have hltz : ¬ (kk : Int) < (n : Int) := by omega
      have : kk = n := by omega
      subst this
      go_wp2_with fail
      go_ret
      exact ⟨_, rfl, OW.out, ON.out⟩
end Go.Proofs.Ytekigilhmdphnaa
