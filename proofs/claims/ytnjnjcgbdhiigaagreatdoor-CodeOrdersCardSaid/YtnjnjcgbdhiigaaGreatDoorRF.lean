/- CodeReads. -/
import Derived.Test.YtnjnjcgbdhiigaaGreatDoorRE
namespace Go.Proofs.YtnjnjcgbdhiigaaGreatDoor
open Go.RowKit Go.Shelf

set_option maxHeartbeats 4000000 in
theorem rparent_no (a : Txt) (no : ∀ ns, PR (bts a) ns → ns.length = 1) (w : World) : Calls Tryz.prog 13 #[.string a.1] w fun e w' => e = .returned (.tuple #[.string ⟨#[]⟩, .bool false]) ∧ Below w.heap.size w w' := by
  by_cases h : ∃ ns, PR (bts a) ns
  · obtain ⟨ns, pa⟩ := h
    have RP := Lib.hid (rparse_ok a pa w)
    have hl := no ns pa
    clear no pa
    go_enter Tryz.func13, Tryz.ntmps13
    go_wp2_with fail
    refine RP.out.mono ?_; rintro e w1 ⟨v, rfl, ⟨g, off, c, rfl, _, hc, _⟩, b1⟩
    rw [hl]
    have B1 := Lib.hid b1
    clear b1 RP hl hc
    go_wp2_with fail
    go_ret2
    exact ⟨rfl, B1.out⟩
  · have RP := Lib.hid (rparse_no a (fun ns g => h ⟨ns, g⟩) w)
    clear no h
    go_enter Tryz.func13, Tryz.ntmps13
    go_wp2_with fail
    refine RP.out.mono ?_; rintro e w1 ⟨rfl, b1⟩
    have B1 := Lib.hid b1
    clear b1 RP
    go_wp2_with fail
    go_ret2
    exact ⟨rfl, B1.out⟩
theorem parent_same (a : Txt) : ∃ (t : ByteArray) (o : Bool),
    (∀ V, Lw V → Calls Tryz.prog 12 #[.string a.1] V fun e w' => e = .returned (.tuple #[.string t, .bool o]) ∧ Below V.heap.size V w') ∧
    (∀ V, Calls Tryz.prog 13 #[.string a.1] V fun e w' => e = .returned (.tuple #[.string t, .bool o]) ∧ Below V.heap.size V w') := by
  by_cases h : ∃ ns, PR (bts a) ns ∧ 2 ≤ ns.length
  · obtain ⟨ns, pa, h2⟩ := h
    have ok : OkN ns.dropLast := ⟨fun e => by have := congrArg List.length e; simp at this; omega, by rw [List.length_dropLast]; have := pa.len; omega, fun n hn => pa.rng n ((List.dropLast_sublist ns).mem hn)⟩
    refine ⟨_, true, fun V hV => (Parent_any a V hV).mono ?_, rparent_ok a pa h2⟩
    rintro e w' ⟨⟨ms, p, g1, _, g3, _, rfl⟩ | ⟨h, _⟩, b⟩
    · obtain rfl := g1.one pa
      rw [bts_eq (g3.ok.2)]
      exact ⟨rfl, b⟩
    · have := h _ pa; omega
  · have no : ∀ ns, PR (bts a) ns → ns.length = 1 := fun ns g => by
      have := g.pos
      have : ¬ 2 ≤ ns.length := fun k => h ⟨ns, g, k⟩
      omega
    refine ⟨_, false, fun V hV => (Parent_any a V hV).mono ?_, rparent_no a no⟩
    rintro e w' ⟨⟨ms, p, g1, g2, _⟩ | ⟨_, rfl⟩, b⟩
    · exact absurd ⟨ms, g1, g2⟩ h
    · exact ⟨rfl, b⟩
set_option maxHeartbeats 4000000 in
theorem sameInts_any (v u : Value) (zs : List Int) (w : World) (hv : IsZ w v zs) (hu : IsZ w u zs) (hn : zs.length ≤ 1000) :
    Calls Tryz.prog 14 #[v, u] w fun e w' => e = .returned (.bool true) ∧ Below w.heap.size w w' := by
  obtain ⟨p, c, rfl, hc, hp⟩ := hv
  obtain ⟨q, d, rfl, hd, hq⟩ := hu
  obtain ⟨n, hnn⟩ : ∃ n, n = zs.length := ⟨_, rfl⟩
  rw [← hnn] at hc hd hn ⊢
  have HN := Lib.hid hnn
  have HP := Lib.hid hp
  have HQ := Lib.hid hq
  clear hp hq hnn
  go_enter Tryz.func14, Tryz.ntmps14
  go_wp2_with fail
  go_loopw [5] (fun si wr => ∃ k : Nat, k ≤ n ∧ si = .int .i64 k ∧ ∃ qd, wr = w.drewN qd) (fun si _ => n - (intOf si).toNat)
  case atStart => exact ⟨0, Nat.zero_le _, rfl, 0, rfl⟩
  case round =>
    obtain ⟨k, hk, rfl, qd, rfl⟩ := hrel
    by_cases hlt : k < n
    · have hlt' : k < zs.length := by rw [← HN.out]; exact hlt
      obtain ⟨g, off, rfl, _, hc1⟩ := HP.out (by omega)
      obtain ⟨g2, off2, rfl, _, hc2⟩ := HQ.out (by omega)
      obtain ⟨z, hz⟩ : ∃ z, z = zs[k] := ⟨_, rfl⟩
      have cz : ∀ m, (w.drewN m).cell? ⟨g, off + k, none⟩ = some (.int .i64 z) := fun m => by rw [hz]; exact hc1 k hlt'
      have cy : ∀ m, (w.drewN m).cell? ⟨g2, off2 + k, none⟩ = some (.int .i64 z) := fun m => by rw [hz]; exact hc2 k hlt'
      clear hz hc1 hc2 hlt'
      go_wp2_with fail
      go_quiet (fail)
      go_wp2_with fail
      go_roundw
      case rel => exact ⟨k + 1, by omega, by go_num, _, rfl⟩
      case measure => show n - ((k : Int) + 1).toNat < n - (k : Int).toNat; omega
    · obtain rfl : k = n := by omega
      have BB := Lib.hid (below_drewN w qd)
      go_wp2_with fail
      go_ret
      exact ⟨rfl, BB.out⟩
end Go.Proofs.YtnjnjcgbdhiigaaGreatDoor
