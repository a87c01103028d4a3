/- Lists of pieces and their cells; what replaced keeps while it runs. -/
import Derived.Test.YtekigilhmdphnaaTX
import Derived.Test.YtekigilhmdphnaaTN
namespace Go.Proofs.Ytekigilhmdphnaa
open Go.RowKit Go.Shelf

def cell3 (p : Pc) : List Value := [.int .i64 p.f, .int .i64 p.u, .int .i64 p.v]
def cellsP : List Pc → List Value
  | [] => []
  | p :: L => .int .i64 p.f :: .int .i64 p.u :: .int .i64 p.v :: cellsP L
theorem cellsP_length : ∀ L : List Pc, (cellsP L).length = L.length * 3
  | [] => rfl
  | p :: L => by simp [cellsP, cellsP_length L]; omega
theorem cellsP_append : ∀ L M : List Pc, cellsP (L ++ M) = cellsP L ++ cellsP M
  | [], _ => rfl
  | p :: L, M => by simp [cellsP, cellsP_append L M]
theorem cellsP_take : ∀ (L : List Pc) (k : Nat), (cellsP L).take (k * 3) = cellsP (L.take k)
  | [], k => by simp [cellsP]
  | p :: L, 0 => by simp [cellsP]
  | p :: L, k + 1 => by
    rw [show (k + 1) * 3 = k * 3 + 1 + 1 + 1 from by omega]
    simp [cellsP, cellsP_take L k]
theorem cellsP_drop : ∀ (L : List Pc) (k : Nat), (cellsP L).drop (k * 3) = cellsP (L.drop k)
  | [], k => by simp [cellsP]
  | p :: L, 0 => by simp
  | p :: L, k + 1 => by
    rw [show (k + 1) * 3 = k * 3 + 1 + 1 + 1 from by omega]
    simp [cellsP, cellsP_drop L k]
theorem cellsP_one : ∀ (L : List Pc), ∀ v ∈ cellsP L, v.oneCell' = true
  | [], v, h => by cases h
  | p :: L, v, h => by
    simp only [cellsP, List.mem_cons] at h
    rcases h with rfl | rfl | rfl | h
    · rfl
    · rfl
    · rfl
    · exact cellsP_one L v h
theorem cellsP_get : ∀ (L : List Pc) (k : Nat) (p : Pc), L[k]? = some p → (cellsP L)[k * 3]? = some (.int .i64 p.f) ∧ (cellsP L)[k * 3 + 1]? = some (.int .i64 p.u) ∧ (cellsP L)[k * 3 + 2]? = some (.int .i64 p.v)
  | [], k, p, h => by simp at h
  | q :: L, 0, p, h => by
    simp at h; subst h
    exact ⟨rfl, rfl, rfl⟩
  | q :: L, k + 1, p, h => by
    rw [List.getElem?_cons_succ] at h
    obtain ⟨a, b, c⟩ := cellsP_get L k p h
    rw [show (k + 1) * 3 = k * 3 + 1 + 1 + 1 from by omega]
    exact ⟨a, b, c⟩
/-- The pieces of a list as a function. -/
def ofL (L : List Pc) : Nat → Pc := fun k => L.getD k default
theorem ofL_get {L : List Pc} {k : Nat} (h : k < L.length) : L[k]? = some (ofL L k) := by
  unfold ofL; rw [List.getD_eq_getElem?_getD, List.getElem?_eq_getElem h]; rfl
/-- The first pieces of a function as a list. -/
def toL (P : Nat → Pc) (n : Nat) : List Pc := (List.range n).map P
theorem toL_length (P : Nat → Pc) (n : Nat) : (toL P n).length = n := by simp [toL]
theorem toL_get (P : Nat → Pc) {n k : Nat} (h : k < n) : (toL P n)[k]? = some (P k) := by simp [toL, h]
theorem ofL_toL (P : Nat → Pc) {n k : Nat} (h : k < n) : ofL (toL P n) k = P k := by
  unfold ofL; rw [List.getD_eq_getElem?_getD, toL_get P h]; rfl
theorem toL_ofL (L : List Pc) : toL (ofL L) L.length = L := by
  apply List.ext_getElem?
  intro k
  by_cases h : k < L.length
  · rw [toL_get _ h, ofL_get h]
  · rw [List.getElem?_eq_none (by rw [toL_length]; omega), List.getElem?_eq_none (by omega)]

/-- The cells of the pieces that lie in memory. -/
theorem Pcs.cells {w : World} {b off n : Nat} {P : Nat → Pc} (h : Pcs w b off n P) : ∀ j u, (cellsP (toL P n))[j]? = some u → w.cell? ((⟨b, off, none⟩ : Addr).add j) = some u := fun j u hj => by
  rw [Addr.add_lit]
  have hl : j < n * 3 := by
    have := (List.getElem?_eq_some_iff.1 hj).1
    rwa [cellsP_length, toL_length] at this
  have hk : j / 3 < n := by omega
  obtain ⟨a, b', c⟩ := h.2 (j / 3) hk
  obtain ⟨x, y, z⟩ := cellsP_get _ _ _ (toL_get P hk)
  have : j % 3 = 0 ∨ j % 3 = 1 ∨ j % 3 = 2 := by omega
  rcases this with e | e | e
  · have e' : j = j / 3 * 3 := by omega
    rw [e'] at hj
    rw [x] at hj
    have : off + j = off + j / 3 * 3 := by omega
    rw [this, a]; exact hj
  · have e' : j = j / 3 * 3 + 1 := by omega
    rw [e'] at hj
    rw [y] at hj
    have : off + j = off + j / 3 * 3 + 1 := by omega
    rw [this, b']; exact hj
  · have e' : j = j / 3 * 3 + 2 := by omega
    rw [e'] at hj
    rw [z] at hj
    have : off + j = off + j / 3 * 3 + 2 := by omega
    rw [this, c]; exact hj
/-- What an own row of pieces is, as pieces. -/
theorem own_pw {w : World} {K : Nat} {v : Value} {L : List Pc} (h : w.ownsRow K 47 3 v L.length (cellsP L)) (hn : 0 < L.length) :
    ∃ g c, v = .slice (some ⟨g, 0, none⟩) L.length c ∧ K ≤ g ∧ g < w.heap.size ∧ L.length ≤ c ∧ c ≤ maxLen ∧ Pw w g L.length (ofL L) := by
  obtain ⟨g, c, rfl, hK, hg, hc, hm, hcells, hth⟩ := owned h hn
  refine ⟨g, c, rfl, hK, hg, hc, hm, ⟨hg, fun j hj => ?_⟩, fun j hj => hth j (by omega)⟩
  obtain ⟨x, y, z⟩ := cellsP_get _ _ _ (ofL_get hj)
  rw [Nat.zero_add]
  exact ⟨hcells _ _ x, hcells _ _ y, hcells _ _ z⟩

/-- What replaced keeps while it runs: its boxes, the list. -/
structure StG (u : World) (A D F : Nat) (p : Option Addr) (n c : Nat) (P : Nat → Pc) (r : Nat) (df du : Int) (W : World) : Prop where
  hA : W.cell? ⟨A, 0, none⟩ = some (.slice p n c)
  hD0 : W.cell? ⟨D, 0, none⟩ = some (.int .i64 df)
  hD1 : W.cell? ⟨D, 1, none⟩ = some (.int .i64 du)
  hF : W.cell? ⟨F, 0, none⟩ = some (.int .i64 r)
  isP : IsP W p n c P
  lA : A < u.heap.size
  lD : D < u.heap.size
  lF : F < u.heap.size
  isPu : IsP u p n c P
  bel : Below u.heap.size u W
theorem StG.go' {u : World} {A D F : Nat} {p : Option Addr} {n c : Nat} {P : Nat → Pc} {r : Nat} {df du : Int} {W V : World} (h : StG u A D F p n c P r df du W) (hb : Below u.heap.size W V) : StG u A D F p n c P r df du V :=
  ⟨(hb.cell (p := ⟨A, 0, none⟩) h.lA).trans h.hA, (hb.cell (p := ⟨D, 0, none⟩) h.lD).trans h.hD0, (hb.cell (p := ⟨D, 1, none⟩) h.lD).trans h.hD1, (hb.cell (p := ⟨F, 0, none⟩) h.lF).trans h.hF, h.isPu.below (h.bel.trans hb), h.lA, h.lD, h.lF, h.isPu, h.bel.trans hb⟩
theorem StG.go {u : World} {A D F : Nat} {p : Option Addr} {n c : Nat} {P : Nat → Pc} {r : Nat} {df du : Int} {W V : World} (h : StG u A D F p n c P r df du W) (hb : Below W.heap.size W V) : StG u A D F p n c P r df du V :=
  h.go' (hb.mono h.bel.size)

/-- The search for the first piece behind a span. -/
theorem StG.search {u : World} {A D F : Nat} {p : Option Addr} {n c : Nat} {P : Nat → Pc} {r : Nat} {df du : Int} {W : World} (h : StG u A D F p n c P r df du W) (hn : n ≤ 1099511627776) (hr : r ≤ n) :
    Calls Try.prog 48 #[.int .i64 (n - r : Nat), .func (.func 49) #[] #[.pointer (some ⟨A, 0, none⟩), .pointer (some ⟨F, 0, none⟩), .pointer (some ⟨D, 0, none⟩)]] W (TurnR (fun k => decide (du ≤ (P (r + k)).f)) (n - r) W) :=
  Search_behind (n - r) _ _ _ _ W (by omega) (fun V hV k hk => by
    have g := h.go hV
    obtain ⟨b, off, rfl, hp⟩ := g.isP.row (by omega)
    exact behindFn_any A F D b off n c P r du k V (by omega) hn g.hA g.hF g.hD1 hp)
end Go.Proofs.Ytekigilhmdphnaa
