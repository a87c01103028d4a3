/- DigestBack. -/
import Derived.Test.YtplcoecdlcpjhaaDoorAwake
namespace Go.Proofs.YtplcoecdlcpjhaaDoor
open Go.RowKit

set_option maxHeartbeats 1000000 in
theorem law_back (s : ByteArray) (w : World) (hT : Tabs w) :
    Calls Tryd.prog 9 #[.string s] w fun e w' => e = .returned (.bool true) ∧ Below w.heap.size w w' := by
  have AW := Lib.hid (awake_any w hT)
  by_cases hl : 200 < s.size
  · have h1 : decide ((200 : Int) < (s.size : Int)) = true := by simp; omega
    go_enter Tryd.func9, Tryd.ntmps9
    go_wp2_with fail
    refine AW.out.mono ?_; rintro e w1 ⟨rfl, b1⟩
    go_wp2_with fail
    go_ret
    exact ⟨rfl, b1⟩
  · have h1 : decide ((200 : Int) < (s.size : Int)) = false := by simp; omega
    by_cases hs : s.size = 32
    · have h2 : ((s.size : Int) != 32) = false := by simp; omega
      have c1 := fun (u : World) => Hex_yes s u hs
      have c2 := fun (u : World) => Parse_yes (hexS s) u (good_hex hs)
      rw [unhex_hex hs] at c2
      have hz : ((hexS s).size : Int) = 64 := by rw [hexS_size hs]; rfl
      have c3 := fun (u : World) => Parse_no s u (fun g => by have := g.1; omega)
      generalize hexS s = H at c1 c2 hz
      have C1 := Lib.hid c1; have C2 := Lib.hid c2; have C3 := Lib.hid c3; have HS := Lib.hid hs; have HL := Lib.hid hl
      clear c1 c2 c3 hs hl
      go_enter Tryd.func9, Tryd.ntmps9
      go_wp2_with fail
      refine AW.out.mono ?_; rintro e w1 ⟨rfl, b1⟩
      go_wp2_with fail
      refine (C1.out _).mono ?_; rintro e w2 ⟨rfl, b2⟩
      go_wp2_with fail
      refine (C2.out _).mono ?_; rintro e w3 ⟨rfl, b3⟩
      go_wp2_with fail
      refine (C3.out _).mono ?_; rintro e w4 ⟨rfl, b4⟩
      go_wp2_with fail
      go_ret
      exact ⟨rfl, b1.trans ((b2.trans ((b3.trans (b4.mono b3.size)).mono b2.size)).mono b1.size)⟩
    · have h2 : ((s.size : Int) != 32) = true := by simp; omega
      have c1 := fun (u : World) => Hex_no s u hs
      by_cases hg : Good s
      · have c2 := fun (u : World) => Parse_yes s u hg
        have c3 := fun (u : World) => Hex_yes (unhexS s) u (unhexS_size s)
        rw [hex_unhex hg] at c3
        have hz : ((unhexS s).size : Int) = 32 := by rw [unhexS_size s]; rfl
        generalize unhexS s = D at c2 c3 hz
        have C1 := Lib.hid c1; have C2 := Lib.hid c2; have C3 := Lib.hid c3; have HS := Lib.hid hs; have HL := Lib.hid hl
        clear c1 c2 c3 hs hl
        go_enter Tryd.func9, Tryd.ntmps9
        go_wp2_with fail
        refine AW.out.mono ?_; rintro e w1 ⟨rfl, b1⟩
        go_wp2_with fail
        refine (C1.out _).mono ?_; rintro e w2 ⟨rfl, b2⟩
        go_wp2_with fail
        refine (C2.out _).mono ?_; rintro e w3 ⟨rfl, b3⟩
        go_wp2_with fail
        refine (C3.out _).mono ?_; rintro e w4 ⟨rfl, b4⟩
        go_wp2_with fail
        go_ret
        exact ⟨rfl, b1.trans ((b2.trans ((b3.trans (b4.mono b3.size)).mono b2.size)).mono b1.size)⟩
      · have c2 := fun (u : World) => Parse_no s u hg
        have C1 := Lib.hid c1; have C2 := Lib.hid c2; have HS := Lib.hid hs; have HL := Lib.hid hl
        clear c1 c2 hs hl
        go_enter Tryd.func9, Tryd.ntmps9
        go_wp2_with fail
        refine AW.out.mono ?_; rintro e w1 ⟨rfl, b1⟩
        go_wp2_with fail
        refine (C1.out _).mono ?_; rintro e w2 ⟨rfl, b2⟩
        go_wp2_with fail
        refine (C2.out _).mono ?_; rintro e w3 ⟨rfl, b3⟩
        go_wp2_with fail
        go_ret
        exact ⟨rfl, b1.trans ((b2.trans (b3.mono b2.size)).mono b1.size)⟩
end Go.Proofs.YtplcoecdlcpjhaaDoor
