/- OfficeUnbroken. -/
import Derived.Test.YtlmgjgcdfhccaaaPG
import Derived.Test.YtlmgjgcdfhccaaaPB
namespace Go.Proofs.Ytlmgjgcdfhccaaa
open Go.RowKit Go.Maps Go.Shelf

theorem len_some {L : List Int} {x : Int} (h : L[0]? = some x) : 0 < L.length := (List.getElem?_eq_some_iff.1 h).1
set_option maxRecDepth 100000 in
set_option maxHeartbeats 8000000 in
theorem law_unbroken (q : Option Addr) (n c : Nat) (S : Nat → Ow) (id day : Int) (w : World) (hw : Lw w) (hS : IsW w q n S) (hnc : n ≤ c) (hid : W64 id) :
    Calls Try.prog 7 #[.slice q n c, .int .i64 id, .int .i64 day] w fun e w' => e = .returned (.bool true) ∧ Below w.heap.size w w' := by
  have HW := Lib.hid hw
  have AW := Lib.hid (awake_any w hw)
  have HS := Lib.hid hS
  clear hw hS
  go_enter Try.func7, Try.ntmps7
  go_wp2_with fail
  refine AW.out.mono ?_; rintro e w1 ⟨rfl, b1⟩
  have B1 := Lib.hid b1
  have FW := Lib.hid (few_any q n c S w1 (HS.out.below b1))
  clear b1 AW
  go_wp2_with fail
  refine FW.out.mono ?_; rintro e w2 ⟨z, rfl, hz, b2⟩
  have B2 := Lib.hid (B1.out.trans (b2.mono B1.out.size))
  clear b2 FW B1
  cases z with
  | false =>
    clear hz
    go_wp2_with fail
    go_ret
    exact ⟨rfl, B2.out⟩
  | true =>
    have f := hz.1 rfl
    obtain ⟨os, hl, hO, hr⟩ := HS.out.isO f hnc
    have hn : os.length ≤ 1000 := by have := f.2.1; omega
    have HN := Lib.hid hn
    obtain ⟨L, hL⟩ := cv_ex os id day
    have CHN := Lib.hid (fun V (hV : Below w.heap.size w V) => Chain_any (.slice q n c) os id day V (HW.out.below hV) (hO.below hV) hn hr hid hL)
    have CHK := Lib.hid (fun V (hV : Below w.heap.size w V) => Check_any (.slice q n c) os V (HW.out.below hV) (hO.below hV) hn hr)
    have FND := Lib.hid (fun V x (hV : Below w.heap.size w V) => Find_any (.slice q n c) os x V (hO.below hV) hn)
    have RCH := Lib.hid (fun V (hV : Below w.heap.size w V) => Reach_any (.slice q n c) os id V (HW.out.below hV) (hO.below hV) hn hr hid)
    have HL := Lib.hid hL
    have HO := Lib.hid hO
    have HLL := Lib.hid hl
    clear hz f hO hr hn hL hl hnc
    have K1 := Lib.hid (CHN.out w2 B2.out)
    go_wp2_with fail
    refine K1.out.mono ?_; rintro e w3 ⟨u, rfl, zu, b3⟩
    have B3 := Lib.hid (B2.out.trans (b3.mono B2.out.size))
    have ZU := Lib.hid zu
    have K2 := CHK.out w3 B3.out
    clear b3 K1 B2 CHN
    by_cases g : (ckV os).2 = 0
    rotate_left
    · have LE : L = [] := by
        rcases HL.out with ⟨h, _⟩ | ⟨_, h⟩
        · exact absurd h g
        · exact h
      have g1 : ((ckV os).2 != 0) = true := by simpa using g
      have g2 : ((ckV os).2 == 0) = false := by simpa using g
      have G := Lib.hid g
      obtain ⟨pz, cz, rfl, _, _⟩ := zu
      subst LE
      generalize (ckV os).1 = F1 at K2
      generalize (ckV os).2 = F2 at K2 g1 g2
      replace K2 := Lib.hid K2
      clear g
      go_wp2_with fail
      refine K2.out.mono ?_; rintro e w4 ⟨rfl, b4⟩
      have B4 := Lib.hid (B3.out.trans (b4.mono B3.out.size))
      have K3 := Lib.hid (RCH.out w4 B4.out)
      clear b4 K2 B3
      go_wp2_with fail
      refine K3.out.mono ?_; rintro e w5 ⟨u5, l, rfl, rv, z5, b5⟩
      have LE : l = [] := by
        rcases rv with ⟨h, _⟩ | ⟨_, h⟩
        · exact absurd h G.out
        · exact h
      subst LE
      obtain ⟨p5, c5, rfl, _, _⟩ := z5
      have B5 := Lib.hid (B4.out.trans (b5.mono B4.out.size))
      clear b5 K3 B4 rv
      go_wp2_with fail
      go_ret
      exact ⟨rfl, B5.out⟩
    have HG := Lib.hid g
    rw [g] at K2
    generalize (ckV os).1 = F1 at K2
    replace K2 := Lib.hid K2
    cases hi : ixO os id with
    | none =>
      have LE : L = [] := by
        rcases HL.out with ⟨_, i, h, _⟩ | ⟨_, h⟩
        · rw [hi] at h; cases h
        · exact h
      have HI := Lib.hid hi
      have Z : ixZ os id = -1 := by unfold ixZ; rw [hi]
      obtain ⟨pz, cz, rfl, _, _⟩ := zu
      subst LE
      clear g hi
      go_wp2_with fail
      refine K2.out.mono ?_; rintro e w4 ⟨rfl, b4⟩
      have B4 := Lib.hid (B3.out.trans (b4.mono B3.out.size))
      have K3 := FND.out w4 id B4.out
      rw [Z] at K3
      replace K3 := Lib.hid K3
      clear b4 K2 B3
      go_wp2_with fail
      refine K3.out.mono ?_; rintro e w5 ⟨rfl, b5⟩
      have B5 := Lib.hid (B4.out.trans (b5.mono B4.out.size))
      have K4 := Lib.hid (RCH.out w5 B5.out)
      clear b5 K3 B4
      go_wp2_with fail
      refine K4.out.mono ?_; rintro e w6 ⟨u6, l, rfl, rv, z6, b6⟩
      have LE : l = [] := by
        rcases rv with ⟨_, h, _⟩ | ⟨_, h⟩
        · exact absurd HI.out h
        · exact h
      subst LE
      obtain ⟨p6, c6, rfl, _, _⟩ := z6
      have B6 := Lib.hid (B5.out.trans (b6.mono B5.out.size))
      clear b6 K4 B5 rv
      go_wp2_with fail
      go_ret
      exact ⟨rfl, B6.out⟩
    | some i0 =>
      have hc : Ch os day i0 L := by
        rcases HL.out with ⟨_, i, h, hc⟩ | ⟨h, _⟩
        · rw [hi] at h; cases h; exact hc
        · rcases h with h | h
          · exact absurd g h
          · rw [hi] at h; cases h
      have HC := Lib.hid hc
      have Z : ixZ os id = (i0 : Int) := by unfold ixZ; rw [hi]
      obtain ⟨o0, ho0, e0⟩ := ixO_at hi
      have L0 : L[0]? = some id := by
        obtain ⟨o, ho, h⟩ := hc.head
        rw [ho0] at ho; cases ho
        rw [h, e0]
      have RCL := Lib.hid (fun x hx => show Rc os id x by have := hc.rc g o0 ho0 x hx; rwa [e0] at this)
      have HI := Lib.hid hi
      have LP := len_some L0
      have LLN := Lib.hid (HL.out.len)
      obtain ⟨m, hm⟩ : ∃ m, L.length = m + 1 := ⟨L.length - 1, by omega⟩
      obtain ⟨pz, cz, rfl, hcz, hzc⟩ := zu
      obtain ⟨gz, oz, rfl, hgz, hcell⟩ := hzc LP
      have c0 : w3.cell? ⟨gz, oz, none⟩ = some (.int .i64 id) := by
        have := hcell 0 LP
        obtain ⟨h, e⟩ := List.getElem?_eq_some_iff.1 L0
        rw [e] at this
        exact this
      have D0 : decide ((i0 : Int) < 0) = false := by simp
      rw [hm] at hcz
      have HM := Lib.hid hm
      have LL := LLN.out
      rw [hm] at LL
      have C3 := Lib.hid c0
      simp only [hm]
      clear g hi hc ho0 e0 L0 LP hzc hm c0 hcell
      go_wp2_with fail
      refine K2.out.mono ?_; rintro e w4 ⟨rfl, b4⟩
      have B4 := Lib.hid (B3.out.trans (b4.mono B3.out.size))
      have Z4 := Lib.hid (ZU.out.below b4)
      have c4 : w4.cell? ⟨gz, oz, none⟩ = some (.int .i64 id) := (b4.cell (p := ⟨gz, oz, none⟩) hgz).trans C3.out
      have g4 : gz < w4.heap.size := Nat.lt_of_lt_of_le hgz b4.size
      have K3 := FND.out w4 id B4.out
      rw [Z] at K3
      replace K3 := Lib.hid K3
      have C4 := Lib.hid c4
      clear b4 K2 B3 c4 C3 hgz Z
      go_wp2_with fail
      refine K3.out.mono ?_; rintro e w5 ⟨rfl, b5⟩
      have B5 := Lib.hid (B4.out.trans (b5.mono B4.out.size))
      have Z5 := Lib.hid (Z4.out.below b5)
      have c5 : w5.cell? ⟨gz, oz, none⟩ = some (.int .i64 id) := (b5.cell (p := ⟨gz, oz, none⟩) g4).trans C4.out
      have K4 := Lib.hid (RCH.out w5 B5.out)
      clear b5 K3 B4 Z4 g4 C4
      go_wp2_with fail
      refine K4.out.mono ?_; rintro e w6 ⟨u6, l, rfl, rv, z6, b6⟩
      have B6 := Lib.hid (B5.out.trans (b6.mono B5.out.size))
      have RVh := Lib.hid rv
      have Z6 := Lib.hid z6
      have Z6u := Lib.hid (Z5.out.below b6)
      clear b6 K4 B5 rv z6 Z5 c5
      go_wp2_with fail
      obtain ⟨pl, cl, el, hcl, hpl⟩ := HO.out
      obtain ⟨rfl, hnl, rfl⟩ := Value.slice.inj el
      have HPL := Lib.hid hpl
      have NODUP := Lib.hid (HC.out.nodup HG.out)
      have AT := Lib.hid (HC.out.at HG.out)
      have MEMR := Lib.hid (show ∀ x ∈ L, x ∈ l from fun x hx => by
        rcases RVh.out with ⟨_, _, _, h⟩ | ⟨h, _⟩
        · exact (h x).2 (RCL.out x hx)
        · exact absurd ⟨HG.out, by rw [HI.out]; simp⟩ h)
      have LRV := Lib.hid (show l.length ≤ 1000000 by have := RVh.out.len; have := HN.out; omega)
      have ZR := Lib.hid Z6.out
      obtain ⟨p6, c6, rfl, hc6, _⟩ := Z6.out
      have HNLh := Lib.hid hnl
      have n1000 : n ≤ 1000 := by have := HN.out; omega
      have W1 : wrap64 (((m + 1 : Nat) : Int) - 1) = (m : Int) := by unfold wrap64; omega
      clear hpl el hcl hnl Z6 CHK RCH
      go_loopw [63] (fun si wr => ∃ t : Nat, t ≤ m ∧ si = .int .i64 t ∧ Hid (Below w6.heap.size w6 wr)) (fun si _ => m + 1 - (intOf si).toNat)
      case atStart => exact ⟨0, Nat.zero_le _, rfl, Below.refl _ _⟩
      case round =>
        obtain ⟨t, ht, rfl, hrel⟩ := hrel
        have BL := Lib.hid hrel.out
        clear hrel
        have hlt : t < m + 1 := by omega
        · obtain ⟨k, o, h1, h2, h3, h4⟩ := AT.out t (by rw [HM.out]; exact hlt)
          have BW := Lib.hid (B6.out.trans (BL.out.mono B6.out.size))
          have ct : wr.cell? ⟨gz, oz + t, none⟩ = some (.int .i64 o.id) := by
            obtain ⟨p', c', e, _, hcell⟩ := Z6u.out.below BL.out
            obtain ⟨rfl, _, rfl⟩ := Value.slice.inj e
            obtain ⟨g', o', e', _, hcc⟩ := hcell (by rw [HM.out]; omega)
            cases e'
            obtain ⟨h, e⟩ := List.getElem?_eq_some_iff.1 h1
            rw [hcc t h, e]
          have kn : k < n := by have := ixO_lt h2; have := HNLh.out; omega
          have K7 := FND.out wr o.id BW.out
          rw [show ixZ os o.id = (k : Int) by unfold ixZ; rw [h2]] at K7
          have NOT := Lib.hid (show o.id ∉ L.take t from fun h => by
            obtain ⟨j, hj, e⟩ := List.mem_take_iff_getElem.1 h
            have : L[j]? = L[t]? := by rw [h1, ← e]; exact List.getElem?_eq_getElem (by omega)
            have := (List.getElem?_inj (by omega) NODUP.out).1 this
            omega)
          have INR := Lib.hid (show o.id ∈ l.take l.length by rw [List.take_length]; exact MEMR.out _ (List.mem_of_getElem? h1))
          have D1 : decide ((k : Int) < 0) = false := by simp
          have D2 : decide ((n : Int) ≤ (k : Int)) = false := by simp; omega
          have D3 : decide (n ≤ k) = false := by simp; omega
          obtain ⟨gl, ol, rfl, hol⟩ := HPL.out (by have := HNLh.out; omega)
          have OA := hol k o h3
          have OAK := Lib.hid OA
          have HOL := Lib.hid hol
          have H4 := Lib.hid h4
          have CT1 := Lib.hid (fun V (hV : Below w6.heap.size w6 V) => contains_any (some ⟨gz, oz, none⟩) cz L t o.id V (Z6u.out.below hV) (by rw [HM.out]; omega) (by have := LLN.out; have := HM.out; omega))
          rw [decide_eq_false NOT.out] at CT1
          have CT2 := Lib.hid (fun V (hV : Below w6.heap.size w6 V) => contains_any p6 c6 l l.length o.id V (ZR.out.below hV) (Nat.le_refl _) (by have := LRV.out; omega))
          rw [decide_eq_true INR.out] at CT2
          obtain ⟨id1, hid1⟩ : ∃ i, i = o.id := ⟨_, rfl⟩
          have HID1 := Lib.hid hid1
          rw [← hid1] at ct K7 CT1 CT2
          replace K7 := Lib.hid K7
          clear hid1 hol OA h1 h2 h3 h4 NOT INR
          go_wp2_with fail
          refine K7.out.mono ?_; rintro e w7 ⟨rfl, b7⟩
          have B7 := Lib.hid (BL.out.trans (b7.mono BL.out.size))
          have E1 := Lib.hid (CT1.out w7 B7.out)
          have E2 := Lib.hid (CT2.out w7 B7.out)
          clear b7 K7 BL BW CT1 CT2 ct
          go_wp2_with fail
          refine E1.out.mono ?_; rintro e w8 ⟨rfl, h8⟩
          obtain rfl : w7 = w8 := h8.symm
          clear E1
          go_wp2_with fail
          refine E2.out.mono ?_; rintro e w8 ⟨rfl, h8⟩
          obtain rfl : w7 = w8 := h8.symm
          clear E2
          have B67 := Lib.hid (B6.out.trans (B7.out.mono B6.out.size))
          have OA := OAK.out.below B67.out
          clear OAK
          obtain ⟨id2, nm2, fr2, un2, nx2, q2, cc2⟩ := o
          obtain ⟨-, -, -, c2, c3, c4, nz⟩ := OA
          replace c2 : w7.cell? ⟨gl, ol + k * 5 + 2, none⟩ = some (.int .i64 fr2) := c2
          replace c3 : w7.cell? ⟨gl, ol + k * 5 + 3, none⟩ = some (.int .i64 un2) := c3
          replace c4 : w7.cell? ⟨gl, ol + k * 5 + 4, none⟩ = some (.slice q2 nx2.length cc2) := c4
          replace nz : IsZ w7 (.slice q2 nx2.length cc2) nx2 := nz
          have BT := Lib.hid B67.out
          have M0 : wrap64 (m : Int) = (m : Int) := by unfold wrap64; omega
          have M1 : wrap64 ((m : Int) + 1 - 1) = (m : Int) := by unfold wrap64; omega
          rcases H4.out with ⟨h5, h6⟩ | ⟨h5, x, r, mm, o3, h6, h7, h8, h9, h10, h11⟩
          · obtain rfl : t = m := by rw [HM.out] at h5; omega
            have TT : ((t : Int) == (t : Int)) = true := beq_self_eq_true _
            replace h6 : hasB fr2 un2 day = true ∨ nx2 = [] := h6
            by_cases a : fr2 ≤ day
            · have A : decide (fr2 ≤ day) = true := decide_eq_true a
              by_cases b : day < un2
              · have B : decide (day < un2) = true := decide_eq_true b
                clear a b h5 h6 H4 HOL HID1 nz
                go_wp2_with fail
                go_ret
                exact ⟨rfl, BT.out⟩
              · have B : decide (day < un2) = false := decide_eq_false b
                have hx : nx2 = [] := h6.resolve_left (by unfold hasB; simp [b])
                subst hx
                clear a b h5 h6 H4 HOL HID1 nz
                go_wp2_with fail
                go_ret
                exact ⟨rfl, BT.out⟩
            · have A : decide (fr2 ≤ day) = false := decide_eq_false a
              have hx : nx2 = [] := h6.resolve_left (by unfold hasB; simp [a])
              subst hx
              clear a h5 h6 H4 HOL HID1 nz
              go_wp2_with fail
              go_ret
              exact ⟨rfl, BT.out⟩
          · rw [HM.out] at h5
            obtain ⟨mo, hmo⟩ : ∃ f, f = o3.fr := ⟨_, rfl⟩
            replace h8 : nx2 = x :: r := h8
            replace h7 : hasB fr2 un2 day = false := h7
            replace h11 : o3.fr = un2 := h11
            subst h8
            have mn : mm < n := by have := ixO_lt h9; have := HNLh.out; omega
            have TT : ((t : Int) == (m : Int)) = false := by simp; omega
            have TT2 : decide (t = m) = false := by simp; omega
            have tm : t < m := by omega
            have W2 : wrap64 ((t : Int) + 1) = ((t + 1 : Nat) : Int) := by unfold wrap64; omega
            obtain ⟨q3, c3', e3, hcc3, hcell3⟩ := nz
            obtain ⟨g3, o3', e4, hg3, hc3⟩ := hcell3 (by simp)
            obtain ⟨rfl, _, rfl⟩ := Value.slice.inj e3
            subst e4
            have x0 : w7.cell? ⟨g3, o3', none⟩ = some (.int .i64 x) := hc3 0 (by simp)
            have ct2 : w7.cell? ⟨gz, oz + (t + 1), none⟩ = some (.int .i64 x) := by
              obtain ⟨p', c', e, _, hcell⟩ := Z6u.out.below B7.out
              obtain ⟨rfl, _, rfl⟩ := Value.slice.inj e
              obtain ⟨g', o', e', _, hcc⟩ := hcell (by rw [HM.out]; omega)
              cases e'
              obtain ⟨h, e⟩ := List.getElem?_eq_some_iff.1 h6
              rw [hcc (t + 1) h, e]
            have K8 := FND.out w7 x BT.out
            rw [show ixZ os x = (mm : Int) by unfold ixZ; rw [h9]] at K8
            replace K8 := Lib.hid K8
            have OB := Lib.hid (HOL.out mm o3 h10)
            have E1 : decide ((mm : Int) < 0) = false := by simp
            have E2 : decide ((n : Int) ≤ (mm : Int)) = false := by simp; omega
            have E3 : decide (n ≤ mm) = false := by simp; omega
            have XX : (x != x) = false := by simp
            have XX2 : (x == x) = true := by simp
            have FU : (un2 != un2) = false := by simp
            have FU2 : (un2 == un2) = true := by simp
            have RL : ((r.length : Int) + 1 == 0) = false := by simp; omega
            have C2 := Lib.hid c2
            have C3 := Lib.hid c3
            have C4 := Lib.hid (show w7.cell? ⟨gl, ol + k * 5 + 4, none⟩ = some (.slice (some ⟨g3, o3', none⟩) (r.length + 1) cc2) from c4)
            have X0 := Lib.hid x0
            have CT2 := Lib.hid ct2
            have GZ := Lib.hid (show gz < w7.heap.size from by
              rcases Nat.lt_or_ge gz w7.heap.size with h | h
              · exact h
              · simp [World.cell?, Array.getElem?_eq_none h] at ct2)
            have GL := Lib.hid (show gl < w7.heap.size from by
              rcases Nat.lt_or_ge gl w7.heap.size with h | h
              · exact h
              · simp [World.cell?, Array.getElem?_eq_none h] at c2)
            have UN := Lib.hid h11
            clear hmo mo h5 h6 h9 h10 h11 hcell3 hc3 H4 HOL HID1 e3 hcc3 c4
            have CASES : (decide (fr2 ≤ day) = true ∧ decide (day < un2) = false) ∨ (decide (fr2 ≤ day) = false ∧ n = n) := by
              by_cases a : fr2 ≤ day
              · by_cases b : day < un2
                · exact absurd h7 (by unfold hasB; simp [a, b])
                · exact Or.inl ⟨decide_eq_true a, decide_eq_false b⟩
              · exact Or.inr ⟨decide_eq_false a, rfl⟩
            have c4 : w7.cell? ⟨gl, ol + k * 5 + 4, none⟩ = some (.slice (some ⟨g3, o3', none⟩) (r.length + 1) cc2) := C4.out
            clear h7
            rcases CASES with ⟨A, B⟩ | ⟨A, -⟩
            all_goals
              go_upto_region 21 with (fail)
              have KNh := Lib.hid kn
              have MNh := Lib.hid mn
              have HCM := Lib.hid hcz
              clear W1 M0 M1 D1 D2 D3 D0 TT TT2 XX XX2 FU FU2 RL E1 E2 E3 c2 c3 c4 x0 LL ht hlt n1000 hc6 hcz kn mn A
              (try clear B)
              go_wp2_with fail
              refine K8.out.mono ?_; rintro e w8 ⟨rfl, b8⟩
              have B8 := Lib.hid (B7.out.trans (b8.mono B7.out.size))
              have d2 : w8.cell? ⟨gl, ol + k * 5 + 2, none⟩ = some (.int .i64 fr2) := (b8.cell (p := ⟨gl, ol + k * 5 + 2, none⟩) GL.out).trans C2.out
              have d3 : w8.cell? ⟨gl, ol + k * 5 + 3, none⟩ = some (.int .i64 un2) := (b8.cell (p := ⟨gl, ol + k * 5 + 3, none⟩) GL.out).trans C3.out
              have d4 : w8.cell? ⟨gl, ol + k * 5 + 4, none⟩ = some (.slice (some ⟨g3, o3', none⟩) (r.length + 1) cc2) := (b8.cell (p := ⟨gl, ol + k * 5 + 4, none⟩) GL.out).trans C4.out
              have dx : w8.cell? ⟨g3, o3', none⟩ = some (.int .i64 x) := (b8.cell (p := ⟨g3, o3', none⟩) hg3).trans X0.out
              have dt : w8.cell? ⟨gz, oz + (t + 1), none⟩ = some (.int .i64 x) := (b8.cell (p := ⟨gz, oz + (t + 1), none⟩) GZ.out).trans CT2.out
              have df : w8.cell? ⟨gl, ol + mm * 5 + 2, none⟩ = some (.int .i64 un2) := by
                have := ((OB.out.below BT.out).below b8).c2
                rwa [UN.out] at this
              have kn : k < n := KNh.out
              have mn : mm < n := MNh.out
              have hcz : m + 1 ≤ cz := HCM.out
              have RL : ((r.length : Int) + 1 == 0) = false := by simp; omega
              have E1 : decide ((mm : Int) < 0) = false := by simp
              have E2 : decide ((n : Int) ≤ (mm : Int)) = false := by simp; omega
              have E3 : decide (n ≤ mm) = false := by simp; omega
              have XX : (x != x) = false := by simp
              have FU : (un2 != un2) = false := by simp
              obtain ⟨T1, hT1⟩ : ∃ T1 : Nat, T1 = t + 1 := ⟨_, rfl⟩
              have WT : IntKind.i64.wrap ((t : Int) + 1) = (T1 : Int) := by
                rw [hT1, IntWalk.i64_left, W2]
              have TB : T1 < m + 1 := by omega
              have TB2 : (T1 : Int) < ((m + 1 : Nat) : Int) := by omega
              have KI : (k : Int) < (n : Int) := by omega
              have MI : (mm : Int) < (n : Int) := by omega
              rw [← hT1] at dt
              have HT1 := Lib.hid hT1
              have TMh := Lib.hid tm
              have CZ := Lib.hid hcz
              clear b8 K8 ct2 hT1 W2 tm hcz
              go_wp2_with fail
              go_quiet (fail)
              go_wp2_with fail
              go_roundw
              case rel => exact ⟨T1, by have := HT1.out; have := TMh.out; omega, by rw [HT1.out] <;> go_num, BdN B8.out _⟩
              case measure => have := HT1.out; simp [intOf] <;> omega
end Go.Proofs.Ytlmgjgcdfhccaaa
