/- End. -/
import Derived.Test.YtlmgjgcdfhccaaaPN
namespace Go.Proofs.Ytlmgjgcdfhccaaa
open Go.RowKit Go.Maps Go.Shelf

/-- An office that ends. -/
def enO (o : Of) (day : Int) (zs : List Int) (p : Option Addr) (c : Nat) : Of := ⟨o.id, o.nm, o.fr, day, zs, p, c⟩
/-- The list in which it ends, and the error. -/
def endL (os : List Of) (id day : Int) (zs : List Int) (p : Option Addr) (c : Nat) : List Of := match ixO os id with
  | none => []
  | some i => match os[i]? with
    | none => []
    | some o => os.set i (enO o day zs p c)
def endE (os : List Of) (id day : Int) (zs : List Int) (p : Option Addr) (c : Nat) : Int := if (ckV os).2 ≠ 0 then 1 else match ixO os id with
  | none => 7
  | some i => match os[i]? with
    | none => 7
    | some o => if day ≤ o.fr ∨ o.un < day then 2 else (ckV (os.set i (enO o day zs p c))).2
/-- What counts of an office. -/
def ky (o : Of) : Int × ByteArray × Int × Int × List Int := (o.id, o.nm.1, o.fr, o.un, o.nx)
def EndR (os : List Of) (id day : Int) (zs : List Int) (p : Option Addr) (c : Nat) (e : Ending) (w' : World) : Prop :=
  (endE os id day zs p c = 0 ∧ ∃ u os2, e = .returned (.tuple #[u, .int .i64 0]) ∧ IsO w' u os2 ∧ os2.map ky = (endL os id day zs p c).map ky) ∨
  (endE os id day zs p c ≠ 0 ∧ e = .returned (.tuple #[.slice none 0 0, .int .i64 (endE os id day zs p c)]))
theorem W64.of_le {a b c : Int} (ha : W64 a) (hc : W64 c) (h1 : a ≤ b) (h2 : b ≤ c) : W64 b := ⟨by have := ha.1; omega, by have := hc.2; omega⟩

theorem map_ky_set {os : List Of} {i : Nat} {o o' : Of} (ho : os[i]? = some o) (h : ky o' = ky o) : (os.set i o').map ky = os.map ky := by
  refine List.ext_getElem? fun j => ?_
  rw [List.getElem?_map, List.getElem?_map]
  by_cases e : i = j
  · subst e
    rw [List.getElem?_set_self (List.getElem?_eq_some_iff.1 ho).1, ho]
    show some (ky o') = some (ky o)
    rw [h]
  · rw [List.getElem?_set_ne e]
theorem ky_at {os os2 : List Of} (h : os2.map ky = os.map ky) {j : Nat} {o : Of} (ho : os2[j]? = some o) : ∃ o', os[j]? = some o' ∧ ky o = ky o' := by
  have := congrArg (·[j]?) h
  simp only [List.getElem?_map, ho] at this
  cases h2 : os[j]? with
  | none => rw [h2] at this; cases this
  | some o' =>
    rw [h2] at this
    exact ⟨o', rfl, by injection this⟩
set_option maxRecDepth 100000 in
set_option maxHeartbeats 8000000 in
theorem End_any (v : Value) (os : List Of) (id day : Int) (zs : List Int) (pn : Option Addr) (cn : Nat) (w : World) (hw : Lw w) (hv : IsO w v os) (hn : os.length ≤ 1000) (hr : NumO os) (hz : IsZ w (.slice pn zs.length cn) zs) (hzn : zs.length ≤ 1000) (hzr : ∀ x ∈ zs, W64 x) :
    Calls Try.prog 20 #[v, .int .i64 id, .int .i64 day, .slice pn zs.length cn] w fun e w' => EndR os id day zs pn cn e w' ∧ Below w.heap.size w w' := by
  have CK := Lib.hid (fun V (hV : Below w.heap.size w V) => Check_any v os V (hw.below hV) (hv.below hV) hn hr)
  have FND := Lib.hid (fun V (hV : Below w.heap.size w V) => Find_any v os id V (hv.below hV) hn)
  have CL := Lib.hid (fun V (hV : Below w.heap.size w V) h0 => cloneO_any v os V (hv.below hV) hn h0)
  have CK2 := Lib.hid (fun (os2 : List Of) (u : Value) V (hV : Below w.heap.size w V) (hu : IsO V u os2) hn2 hr2 => Check_any u os2 V (hw.below hV) hu hn2 hr2)
  have HZ := Lib.hid hz
  have HZN := Lib.hid hzn
  have HZR := Lib.hid hzr
  have HR := Lib.hid hr
  have HN := Lib.hid hn
  obtain ⟨p, c, rfl, hc, hp⟩ := hv
  obtain ⟨n, hnn⟩ : ∃ n, n = os.length := ⟨_, rfl⟩
  rw [← hnn] at hc hn CK FND CL ⊢
  have HNN := Lib.hid hnn
  have HP := Lib.hid hp
  obtain ⟨l, hl⟩ : ∃ m, m = zs.length := ⟨_, rfl⟩
  rw [← hl] at HZ HZN hzn ⊢
  have HL := Lib.hid hl
  clear hw hr hz hzr hp hnn hl
  by_cases g : (ckV os).2 = 0
  rotate_left
  · have N := Lib.hid (show endE os id day zs pn cn = 1 from if_pos g)
    have g1 : ((ckV os).2 != 0) = true := by simpa using g
    have g2 : ((ckV os).2 == 0) = false := by simpa using g
    generalize (ckV os).1 = F1 at CK
    generalize (ckV os).2 = F2 at CK g1 g2
    have K1 := Lib.hid (CK.out w (Below.refl _ _))
    clear g CK
    go_enter Try.func20, Try.ntmps20
    go_wp2_with fail
    refine K1.out.mono ?_; rintro e w1 ⟨rfl, b1⟩
    have B1 := Lib.hid b1
    clear b1 K1
    go_wp2_with fail
    go_ret2
    exact ⟨Or.inr ⟨by rw [N.out]; decide, by rw [N.out]; rfl⟩, B1.out⟩
  rw [g] at CK
  generalize (ckV os).1 = F1 at CK
  have HG := Lib.hid g
  have K1 := Lib.hid (CK.out w (Below.refl _ _))
  cases hi : ixO os id with
  | none =>
    have N := Lib.hid (show endE os id day zs pn cn = 7 by unfold endE; rw [if_neg (fun h => h g), hi])
    have Z : ixZ os id = -1 := by unfold ixZ; rw [hi]
    rw [Z] at FND
    clear g CK hi Z
    go_enter Try.func20, Try.ntmps20
    go_wp2_with fail
    refine K1.out.mono ?_; rintro e w1 ⟨rfl, b1⟩
    have B1 := Lib.hid b1
    have K2 := Lib.hid (FND.out w1 b1)
    clear b1 K1
    go_wp2_with fail
    refine K2.out.mono ?_; rintro e w2 ⟨rfl, b2⟩
    have B2 := Lib.hid (B1.out.trans (b2.mono B1.out.size))
    clear b2 K2
    go_wp2_with fail
    go_ret2
    exact ⟨Or.inr ⟨by rw [N.out]; decide, by rw [N.out]; rfl⟩, B2.out⟩
  | some i =>
    obtain ⟨o, ho, hoid⟩ := ixO_at hi
    have ilt : i < n := by have := ixO_lt hi; have := HNN.out; omega
    have Z : ixZ os id = (i : Int) := by unfold ixZ; rw [hi]
    rw [Z] at FND
    have EE := Lib.hid (show endE os id day zs pn cn = if day ≤ o.fr ∨ o.un < day then 2 else (ckV (os.set i (enO o day zs pn cn))).2 by unfold endE; rw [if_neg (fun h => h g), hi]; show (match os[i]? with | none => _ | some o => _) = _; rw [ho])
    have EL := Lib.hid (show endL os id day zs pn cn = os.set i (enO o day zs pn cn) by unfold endL; rw [hi]; show (match os[i]? with | none => _ | some o => _) = _; rw [ho])
    obtain ⟨gb, off, rfl, hcell⟩ := HP.out (by have := HNN.out; omega)
    have OA := hcell i o ho
    have HO := Lib.hid ho
    have D1 : decide ((i : Int) < 0) = false := by simp
    have WO := Lib.hid (HR.out o (List.mem_of_getElem? ho))
    have HI := Lib.hid hi
    have NB := Lib.hid (show 0 < n by omega)
    have OAh := Lib.hid OA
    clear g CK hi Z ho hoid hcell HP
    obtain ⟨id1, nm, fr, un, nx, q2, cc⟩ := o
    replace EE : Hid (endE os id day zs pn cn = if day ≤ fr ∨ un < day then 2 else (ckV (os.set i (enO ⟨id1, nm, fr, un, nx, q2, cc⟩ day zs pn cn))).2) := EE
    replace WO : Hid (W64 id1 ∧ W64 fr ∧ W64 un ∧ (∀ x ∈ nx, W64 x) ∧ 0 ≤ nx.length) := WO
    have c2 : w.cell? ⟨gb, off + i * 5 + 2, none⟩ = some (.int .i64 fr) := OA.c2
    have c3 : w.cell? ⟨gb, off + i * 5 + 3, none⟩ = some (.int .i64 un) := OA.c3
    have lt0 := OA.lt
    clear OA
    by_cases a : day ≤ fr
    · have A : decide (day ≤ fr) = true := decide_eq_true a
      have N := Lib.hid (show endE os id day zs pn cn = 2 by rw [EE.out, if_pos (Or.inl a)])
      clear a
      go_enter Try.func20, Try.ntmps20
      go_wp2_with fail
      refine K1.out.mono ?_; rintro e w1 ⟨rfl, b1⟩
      have B1 := Lib.hid b1
      have K2 := Lib.hid (FND.out w1 b1)
      clear b1 K1
      go_wp2_with fail
      refine K2.out.mono ?_; rintro e w2 ⟨rfl, b2⟩
      have B2 := Lib.hid (B1.out.trans (b2.mono B1.out.size))
      have d2 := (B2.out.cell (p := ⟨gb, off + i * 5 + 2, none⟩) lt0).trans c2
      clear b2 K2 c2 c3
      go_wp2_with fail
      go_ret2
      exact ⟨Or.inr ⟨by rw [N.out]; decide, by rw [N.out]; rfl⟩, B2.out⟩
    have A : decide (day ≤ fr) = false := decide_eq_false a
    by_cases b : un < day
    · have B : decide (un < day) = true := decide_eq_true b
      have N := Lib.hid (show endE os id day zs pn cn = 2 by rw [EE.out, if_pos (Or.inr b)])
      clear a b
      go_enter Try.func20, Try.ntmps20
      go_wp2_with fail
      refine K1.out.mono ?_; rintro e w1 ⟨rfl, b1⟩
      have B1 := Lib.hid b1
      have K2 := Lib.hid (FND.out w1 b1)
      clear b1 K1
      go_wp2_with fail
      refine K2.out.mono ?_; rintro e w2 ⟨rfl, b2⟩
      have B2 := Lib.hid (B1.out.trans (b2.mono B1.out.size))
      have d2 := (B2.out.cell (p := ⟨gb, off + i * 5 + 2, none⟩) lt0).trans c2
      have d3 := (B2.out.cell (p := ⟨gb, off + i * 5 + 3, none⟩) lt0).trans c3
      clear b2 K2 c2 c3
      go_wp2_with fail
      go_ret2
      exact ⟨Or.inr ⟨by rw [N.out]; decide, by rw [N.out]; rfl⟩, B2.out⟩
    have B : decide (un < day) = false := decide_eq_false b
    have EE2 := Lib.hid (show endE os id day zs pn cn = (ckV (os.set i (enO ⟨id1, nm, fr, un, nx, q2, cc⟩ day zs pn cn))).2 by rw [EE.out, if_neg (fun h => h.elim a b)])
    have WD := Lib.hid (WO.out.2.1.of_le WO.out.2.2.1 (by omega : fr ≤ day) (by omega : day ≤ un))
    clear a b EE
    go_enter Try.func20, Try.ntmps20
    go_wp2_with fail
    refine K1.out.mono ?_; rintro e w1 ⟨rfl, b1⟩
    have B1 := Lib.hid b1
    have K2 := Lib.hid (FND.out w1 b1)
    clear b1 K1
    go_wp2_with fail
    refine K2.out.mono ?_; rintro e w2 ⟨rfl, b2⟩
    have B2 := Lib.hid (B1.out.trans (b2.mono B1.out.size))
    have d2 := (B2.out.cell (p := ⟨gb, off + i * 5 + 2, none⟩) lt0).trans c2
    have d3 := (B2.out.cell (p := ⟨gb, off + i * 5 + 3, none⟩) lt0).trans c3
    have K3 := Lib.hid (CL.out w2 B2.out NB.out)
    clear b2 K2 c2 c3 CL
    go_wp2_with fail
    refine K3.out.mono ?_; rintro e w3 ⟨G, C, rfl, hC, hG, rw3, b3⟩
    have B3 := Lib.hid (B2.out.trans (b3.mono B2.out.size))
    have GW := Lib.hid (show w.heap.size ≤ G from Nat.le_trans B2.out.size hG)
    have R3 := Lib.hid rw3
    have cu := rw3.cs i _ HO.out 3 _ rfl
    have cx := rw3.cs i _ HO.out 4 _ rfl
    have fu := (rw3.there (i * 5 + 3) (by have := HNN.out; omega)).2
    have fx := (rw3.there (i * 5 + 4) (by have := HNN.out; omega)).2
    rw [Nat.zero_add] at fu fx
    clear b3 K3 d2 d3 rw3
    obtain ⟨os1, hos1⟩ : ∃ x, x = os.set i (enO ⟨id1, nm, fr, un, nx, q2, cc⟩ day zs pn cn) := ⟨_, rfl⟩
    have len1 : os1.length = n := by rw [hos1, List.length_set]; exact HNN.out.symm
    obtain ⟨W4, hW4⟩ : ∃ W4, W4 = (w3.setCell ⟨G, i * 5 + 3, none⟩ (.int .i64 day)).setCell ⟨G, i * 5 + 4, none⟩ (.slice pn l cn) := ⟨_, rfl⟩
    have rw4 : Rw W4 G os1 := by
      rw [hW4, hos1]
      have s1 := R3.out.set (i := i) (k := 3) ⟨id1, nm, fr, day, nx, q2, cc⟩ (.int .i64 day) HO.out rfl (fun m hm => by
        rcases (by omega : m = 0 ∨ m = 1 ∨ m = 2 ∨ m = 4 ∨ 5 ≤ m) with rfl | rfl | rfl | rfl | h
        · rfl
        · rfl
        · rfl
        · rfl
        · rw [List.getElem?_eq_none (by exact h), List.getElem?_eq_none (by exact h)]) (show IsZg w3 G (.slice q2 nx.length cc) nx from R3.out.nx ⟨id1, nm, fr, un, nx, q2, cc⟩ (List.mem_of_getElem? HO.out))
      have g1 : (os.set i ⟨id1, nm, fr, day, nx, q2, cc⟩)[i]? = some ⟨id1, nm, fr, day, nx, q2, cc⟩ := List.getElem?_set_self (List.getElem?_eq_some_iff.1 HO.out).1
      have s2 := s1.set (i := i) (k := 4) (enO ⟨id1, nm, fr, un, nx, q2, cc⟩ day zs pn cn) (.slice pn zs.length cn) g1 rfl (fun m hm => by
        rcases (by omega : m = 0 ∨ m = 1 ∨ m = 2 ∨ m = 3 ∨ 5 ≤ m) with rfl | rfl | rfl | rfl | h
        · rfl
        · rfl
        · rfl
        · rfl
        · rw [List.getElem?_eq_none (by exact h), List.getElem?_eq_none (by exact h)]) ((show IsZg w3 G (.slice pn zs.length cn) zs from ((by rw [← HL.out]; exact HZ.out : IsZ w (.slice pn zs.length cn) zs).isZg GW.out).below B3.out).set _ _)
      rw [List.set_set, ← HL.out] at s2
      exact s2
    have B4 : Below w.heap.size w W4 := by rw [hW4]; exact (B3.out.setCell (p := ⟨G, i * 5 + 3, none⟩) GW.out _).setCell (p := ⟨G, i * 5 + 4, none⟩) GW.out _
    have R4 := Lib.hid rw4
    have HB4 := Lib.hid B4
    have NUM1 : NumO os1 := fun a ha => by
      rw [hos1] at ha
      rcases List.mem_or_eq_of_mem_set ha with h | rfl
      · exact HR.out a h
      · exact ⟨WO.out.1, WO.out.2.1, WD.out, HZR.out, Nat.zero_le _⟩
    have K4 := CK2.out os1 (.slice (some ⟨G, 0, none⟩) n C) W4 B4 (by rw [← len1]; exact rw4.isO (by omega)) (by omega) NUM1
    have EE3 := Lib.hid (show endE os id day zs pn cn = (ckV os1).2 by rw [hos1]; exact EE2.out)
    have EL3 := Lib.hid (show endL os id day zs pn cn = os1 by rw [hos1]; exact EL.out)
    have LEN1 := Lib.hid len1
    clear EE2 EL hos1 len1 rw4 B4 NUM1 CK2
    go_upto_region 12 with (fail)
    rw [show (w3.setCell ⟨G, i * 5 + 2 + 1, none⟩ (.int .i64 day)).setCell ⟨G, i * 5 + 4, none⟩ (.slice pn l cn) = W4 from hW4.symm]
    clear hW4 cu cx fu fx
    by_cases g4 : (ckV os1).2 = 0
    rotate_left
    · have g1 : ((ckV os1).2 != 0) = true := by simpa using g4
      have g2 : ((ckV os1).2 == 0) = false := by simpa using g4
      have g3 := Lib.hid g4
      generalize (ckV os1).1 = F5 at K4
      generalize (ckV os1).2 = F6 at K4 g1 g2 g3 EE3
      replace K4 := Lib.hid K4
      clear g4
      go_wp2_with fail
      refine K4.out.mono ?_; rintro e w5 ⟨rfl, b5⟩
      have B5 := Lib.hid (HB4.out.trans (b5.mono HB4.out.size))
      clear b5 K4
      go_wp2_with fail
      go_ret2
      exact ⟨Or.inr ⟨by rw [EE3.out]; exact g3.out, by rw [EE3.out]; rfl⟩, B5.out⟩
    rw [g4] at K4
    have G4 := Lib.hid g4
    generalize (ckV os1).1 = F5 at K4
    replace K4 := Lib.hid K4
    clear g4
    go_wp2_with fail
    refine K4.out.mono ?_; rintro e w5 ⟨rfl, b5⟩
    have B5 := Lib.hid (HB4.out.trans (b5.mono HB4.out.size))
    have R5 := Lib.hid (R4.out.below b5)
    clear b5 K4 R4 HB4
    go_wp2_with fail
    go_loopw [16, 70] (fun _ si wr => ∃ k : Nat, k ≤ n ∧ si = .int .i64 k ∧ Hid (Below w.heap.size w wr ∧ ∃ osk, osk.map ky = os1.map ky ∧ Rw wr G osk)) (fun _ si _ => n - (intOf si).toNat)
    case atStart => exact ⟨0, Nat.zero_le _, rfl, B5.out, os1, rfl, R5.out⟩
    case round =>
      obtain ⟨k, hk, rfl, hrel⟩ := hrel
      obtain ⟨bl, osk, hky, rk⟩ := hrel.out
      clear hrel
      have BL := Lib.hid bl
      have KY := Lib.hid hky
      have RK := Lib.hid rk
      have lenk : osk.length = n := by
        have := congrArg List.length hky
        rw [List.length_map, List.length_map] at this
        rw [this]; exact LEN1.out
      have LK := Lib.hid lenk
      by_cases hlt : k < n
      · obtain ⟨ok, hok⟩ : ∃ ok, osk[k]? = some ok := ⟨_, List.getElem?_eq_getElem (by omega)⟩
        obtain ⟨o1, ho1, e1⟩ := ky_at hky hok
        have L8 : ok.nx.length ≤ 8 := by
          have := (good_ok G4.out ho1).len
          have e2 : ok.nx = o1.nx := congrArg (fun x => x.2.2.2.2) e1
          rw [e2]; exact this
        have CZ := Lib.hid (cloneZ_any ok.nv ok.nx wr (rk.nx ok (List.mem_of_getElem? hok)).isZ (by omega))
        have cx := rk.cs k ok hok 4 _ rfl
        have HOK := Lib.hid hok
        have gl := rk.lt
        clear hok ho1 e1 hky rk lenk bl
        obtain ⟨id3, nm3, fr3, un3, nx3, q3, cc3⟩ := ok
        replace cx : wr.cell? ⟨G, k * 5 + 4, none⟩ = some (.slice q3 nx3.length cc3) := cx
        replace CZ : Hid (Calls Try.prog 40 #[.slice q3 nx3.length cc3] wr fun e w' => ∃ p c, e = .returned (.slice p nx3.length c) ∧ (∀ g, g < wr.heap.size → IsZg w' g (.slice p nx3.length c) nx3) ∧ Below wr.heap.size wr w') := CZ
        go_wp2_with fail
        refine CZ.out.mono ?_; rintro e w6 ⟨p6, c6, rfl, z6, b6⟩
        have R6 := Lib.hid (RK.out.below b6)
        have Z6 := Lib.hid (z6 G gl)
        have BB := Lib.hid (BL.out.trans (b6.mono BL.out.size))
        have cx6 := R6.out.cs k _ HOK.out 4 _ rfl
        have fx6 := (R6.out.there (k * 5 + 4) (by have := LK.out; omega)).2
        rw [Nat.zero_add] at fx6
        have R7 := Lib.hid (R6.out.set (i := k) (k := 4) ⟨id3, nm3, fr3, un3, nx3, p6, c6⟩ (.slice p6 nx3.length c6) HOK.out rfl (fun m hm => by
          rcases (by omega : m = 0 ∨ m = 1 ∨ m = 2 ∨ m = 3 ∨ 5 ≤ m) with rfl | rfl | rfl | rfl | h
          · rfl
          · rfl
          · rfl
          · rfl
          · rw [List.getElem?_eq_none (by exact h), List.getElem?_eq_none (by exact h)]) Z6.out)
        have KY7 := Lib.hid ((map_ky_set HOK.out (o' := ⟨id3, nm3, fr3, un3, nx3, p6, c6⟩) rfl).trans KY.out)
        have B7 := Lib.hid (BB.out.setCell (p := ⟨G, k * 5 + 4, none⟩) GW.out (.slice p6 nx3.length c6))
        clear z6 b6 CZ cx
        go_wp2_with fail
        go_roundw
        case rel => exact ⟨k + 1, by omega, by go_num, B7.out, _, KY7.out, R7.out⟩
        case measure => simp [intOf]; omega
      · obtain rfl : k = n := by omega
        have FIN := Lib.hid (show IsO wr (.slice (some ⟨G, 0, none⟩) k C) osk by rw [← LK.out]; exact RK.out.isO (by have := LK.out; omega))
        clear hky rk bl lenk
        go_wp2_with fail
        go_ret2
        exact ⟨Or.inl ⟨by rw [EE3.out]; exact G4.out, _, osk, rfl, FIN.out, by rw [EL3.out]; exact KY.out⟩, BL.out⟩
end Go.Proofs.Ytlmgjgcdfhccaaa
