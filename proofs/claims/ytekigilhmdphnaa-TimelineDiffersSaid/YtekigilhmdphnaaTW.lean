/- slices.Replace of nothing by nothing. -/
import Derived.Test.YtekigilhmdphnaaTV
namespace Go.Proofs.Ytekigilhmdphnaa
open Go.RowKit Go.Shelf

set_option maxRecDepth 100000 in
set_option maxHeartbeats 4000000 in
theorem Replace_none_in (g n i K : Nat) (cs : List Value) (w : World) (hK : K ≤ g) (hn : n ≤ 100000) (hi : i < n) (hcs : cs.length = n * 3) (hR : Rw w g cs) :
    Calls Try.prog 50 #[.slice (some ⟨g, 0, none⟩) n n, .int .i64 i, .int .i64 i, .slice none 0 0] w fun e w' => ∃ v, e = .returned v ∧ w'.ownsRow K 47 3 v n cs ∧ Below K w w' := by
  have a0 : (0 : Int) ≤ (i : Int) := by omega
  have a1 : (i : Int) ≤ (n : Int) := by omega
  have e4 : ¬ n = i := by omega
  have OW := hR.owns (K := K) hK hcs (by unfold maxLen; omega) n (by omega)
  rw [List.take_of_length_le (by omega)] at OW
  have OW := Lib.hid OW
  clear hR hcs
  have IN : Hid (Calls Try.prog 55 #[.slice (some ⟨g, 0, none⟩) n n, .int .i64 i, .slice none 0 0] w fun e w' => e = .returned (.slice (some ⟨g, 0, none⟩) n n) ∧ w' = w) := Lib.hid (by
    go_enter Try.func55, Try.ntmps55
    go_wp2_with fail
    go_ret
    exact ⟨rfl, rfl⟩)
  go_enter Try.func50, Try.ntmps50
  go_wp2_with fail
  refine IN.out.mono ?_; rintro e w1 ⟨rfl, rfl⟩
  go_wp2_with fail
  go_ret
  exact ⟨_, rfl, OW.out, Below.refl _ _⟩

set_option maxRecDepth 100000 in
set_option maxHeartbeats 4000000 in
theorem Replace_none_end (g n K : Nat) (cs : List Value) (w : World) (hK : K ≤ g) (hn : n ≤ 100000) (hcs : cs.length = n * 3) (hR : Rw w g cs) :
    Calls Try.prog 50 #[.slice (some ⟨g, 0, none⟩) n n, .int .i64 n, .int .i64 n, .slice none 0 0] w fun e w' => ∃ v, e = .returned v ∧ w'.ownsRow K 47 3 v n cs ∧ Below K w w' := by
  have a0 : (0 : Int) ≤ (n : Int) := by omega
  have OW := hR.owns (K := K) hK hcs (by unfold maxLen; omega) n (by omega)
  rw [List.take_of_length_le (by omega)] at OW
  have OW := Lib.hid OW
  clear hR hcs
  have IN : Hid (Calls Try.prog 55 #[.slice (some ⟨g, 0, none⟩) n n, .int .i64 n, .slice none 0 0] w fun e w' => e = .returned (.slice (some ⟨g, 0, none⟩) n n) ∧ w' = w) := Lib.hid (by
    go_enter Try.func55, Try.ntmps55
    go_wp2_with fail
    go_ret
    exact ⟨rfl, rfl⟩)
  go_enter Try.func50, Try.ntmps50
  go_wp2_with fail
  refine IN.out.mono ?_; rintro e w1 ⟨rfl, rfl⟩
  go_wp2_with fail
  go_ret
  exact ⟨_, rfl, OW.out, Below.refl _ _⟩
end Go.Proofs.Ytekigilhmdphnaa
