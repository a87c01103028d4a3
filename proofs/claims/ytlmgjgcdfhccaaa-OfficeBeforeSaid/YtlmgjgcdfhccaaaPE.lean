/- OfficeReaches. -/
import Derived.Test.YtlmgjgcdfhccaaaPD
import Derived.Test.YtlmgjgcdfhccaaaPB
namespace Go.Proofs.Ytlmgjgcdfhccaaa
open Go.RowKit Go.Maps Go.Shelf

theorem RV.len {os : List Of} {id : Int} {l : List Int} (h : RV os id l) : l.length ≤ os.length := by
  rcases h with ⟨hg, hi, hp, hm⟩ | ⟨_, rfl⟩
  · refine acc_len (hp.imp fun {a b} h e => by rw [e] at h; omega) (fun x hx => ?_)
    have := (hm x).1 hx
    cases this with
    | refl => exact Option.ne_none_iff_exists'.1 hi
    | step _ e => exact (e.fr hg).2.2
  · simp
theorem dut_len' (os : List Of) (id day : Int) : (dutL os id day).length ≤ os.length := by
  unfold dutL
  split
  · rw [List.length_map]; exact List.length_filter_le _ _
  · simp
set_option maxRecDepth 100000 in
set_option maxHeartbeats 4000000 in
theorem law_reaches (q : Option Addr) (n c : Nat) (S : Nat → Ow) (id day : Int) (w : World) (hw : Lw w) (hS : IsW w q n S) (hnc : n ≤ c) (hid : W64 id) :
    Calls Try.prog 4 #[.slice q n c, .int .i64 id, .int .i64 day] w fun e w' => e = .returned (.bool true) ∧ Below w.heap.size w w' := by
  have HW := Lib.hid hw
  have AW := Lib.hid (awake_any w hw)
  have HS := Lib.hid hS
  clear hw hS
  go_enter Try.func4, Try.ntmps4
  go_wp2_with fail
  refine AW.out.mono ?_; rintro e w1 ⟨rfl, b1⟩
  have B1 := Lib.hid b1
  have FW := Lib.hid (few_any q n c S w1 (HS.out.below b1))
  clear b1 AW
  go_wp2_with fail
  refine FW.out.mono ?_; rintro e w2 ⟨z, rfl, hz, b2⟩
  have B2 := Lib.hid (B1.out.trans (b2.mono B1.out.size))
  clear b2 FW B1
  cases z with
  | false =>
    clear hz
    go_wp2_with fail
    go_ret
    exact ⟨rfl, B2.out⟩
  | true =>
    have f := hz.1 rfl
    obtain ⟨os, hl, hO, hr⟩ := HS.out.isO hnc
    have hn : os.length ≤ 1000 := by have := f.2.1; omega
    have H1 := Lib.hid (fun V (hV : Below w.heap.size w V) => Reach_any (.slice q n c) os id V (HW.out.below hV) (hO.below hV) hn hr hid)
    have H2 := Lib.hid (fun V (hV : Below w.heap.size w V) => rReach_any (.slice q n c) os id V (hO.below hV) hn hr)
    have H3 := Lib.hid (fun V (hV : Below w.heap.size w V) => Duties_any (.slice q n c) os id day V (HW.out.below hV) (hO.below hV) hn hr hid)
    have H4 := Lib.hid (fun V (hV : Below w.heap.size w V) => rDuties_any (.slice q n c) os id day V (hO.below hV) hn hr)
    have HDL := Lib.hid (show (dutL os id day).length ≤ 1048577 by have := dut_len' os id day; omega)
    have HN := Lib.hid hn
    clear hz f hl hO hr hn
    have K1 := Lib.hid (H1.out w2 B2.out)
    go_wp2_with fail
    refine K1.out.mono ?_; rintro e w3 ⟨u, l, rfl, rv, zu, b3⟩
    have B3 := Lib.hid (B2.out.trans (b3.mono B2.out.size))
    have K2 := Lib.hid (H2.out w3 B3.out)
    have ZU := Lib.hid zu
    have RVh := Lib.hid rv
    clear b3 K1 B2 rv zu
    go_wp2_with fail
    refine K2.out.mono ?_; rintro e w4 ⟨t, l2, rfl, rv2, zt, b4⟩
    obtain rfl := RVh.out.uniq rv2
    have B4 := Lib.hid (B3.out.trans (b4.mono B3.out.size))
    have K3 := Lib.hid (sameInts_any u t l w4 (ZU.out.below b4) zt (by have := RVh.out.len; have := HN.out; omega))
    clear b4 K2 B3 zt rv2 ZU
    go_wp2_with fail
    refine K3.out.mono ?_; rintro e w5 ⟨rfl, b5⟩
    have B5 := Lib.hid (B4.out.trans (b5.mono B4.out.size))
    have K4 := Lib.hid (H3.out w5 B5.out)
    clear b5 K3 B4
    go_wp2_with fail
    refine K4.out.mono ?_; rintro e w6 ⟨u2, rfl, zu, b6⟩
    have B6 := Lib.hid (B5.out.trans (b6.mono B5.out.size))
    have ZU := Lib.hid zu
    have K5 := Lib.hid (H4.out w6 B6.out)
    clear b6 K4 B5 zu
    go_wp2_with fail
    refine K5.out.mono ?_; rintro e w7 ⟨t2, rfl, zt, b7⟩
    have B7 := Lib.hid (B6.out.trans (b7.mono B6.out.size))
    have K6 := Lib.hid (sameInts_any u2 t2 _ w7 (ZU.out.below b7) zt HDL.out)
    clear b7 K5 B6 zt ZU
    go_wp2_with fail
    refine K6.out.mono ?_; rintro e w8 ⟨rfl, b8⟩
    have B8 := Lib.hid (B7.out.trans (b8.mono B7.out.size))
    clear b8 K6 B7
    go_wp2_with fail
    go_ret
    exact ⟨rfl, B8.out⟩
end Go.Proofs.Ytlmgjgcdfhccaaa
