/- Parse at a year; the laws' common test. -/
import Derived.Test.YtbllolalfmgfoaaDoorDI
namespace Go.Proofs.YtbllolalfmgfoaaDoor
open Go.RowKit Go.Shelf PlainAid

/-- What behind gives: a function that holds its two arguments in blocks of its own. -/
theorem behind_any (s : ByteArray) (g : Nat) (w : World) :
    Calls Tryd.prog 45 #[.string s, .func (.func g) #[] #[]] w fun e w' => e = .returned (.func (.func 72) #[] #[.pointer (some ⟨w.heap.size, 0, none⟩), .pointer (some ⟨w.heap.size + 1, 0, none⟩)]) ∧
      w' = (w.alloc (.cells #[.string s] 9)).alloc (.cells #[.func (.func g) #[] #[]] 64) := by
  go_enter Tryd.func45, Tryd.ntmps45
  go_wp2
  go_ret
  exact ⟨rfl, rfl⟩

set_option maxHeartbeats 4000000 in
theorem Parse_year (s : ByteArray) (y b : Int) (w : World) (hT : Tab w) (hs : s.size = 4) (hu : (s.toList == [117, 110, 107, 110, 111, 119, 110]) = false) (hy : ofB y 1 1 = true) (hb : orMax y 12 31 = b)
    (hp : ∀ V, Tab V → Calls Tryd.prog 88 #[.string (s ++ ⟨#[45, 48, 49, 45, 48, 49]⟩)] V (TwoB (Cal.num y 1 1) 0 V)) :
    Calls Tryd.prog 26 #[.string s] w fun e w' => e = .returned (.tuple #[.agg #[.int .i64 (Cal.num y 1 1), .int .i64 b], .int .i64 0]) ∧ Below w.heap.size w w' := by
  have eg1 : ∀ args w, (callFunc 43 args).run Tryd.prog w = .ok (.enter 43 args) w := enters_of Tryd.func43 (by kernel_rfl) rfl
  have eg2 : ∀ args w, (callFunc 44 args).run Tryd.prog w = .ok (.enter 44 args) w := enters_of Tryd.func44 (by kernel_rfl) rfl
  have CU := Lib.hid (fun V => parseUnknown_no s V hu)
  have CA := Lib.hid (fun V (hV : Below w.heap.size w V) => parseAlone4 s y b V (hT.below hV) hs hy hb hp)
  have gB := (Below.refl w.heap.size w).alloc (Nat.le_refl _) (.cells #[.int .i64 0, .int .i64 0] 23)
  have X := Box2.new w (.int .i64 0) (.int .i64 0) 23
  generalize hW : w.alloc (.cells #[.int .i64 0, .int .i64 0] 23) = W at gB X
  have X := Lib.hid X
  generalize Cal.num y 1 1 = a at CA ⊢
  clear hT hy hb hp hu
  go_enter Tryd.func26, Tryd.ntmps26
  go_wp2_with fail
  refine (behind_any _ _ _).mono ?_; rintro e w1 ⟨rfl, hw1⟩
  have b1 : Below W.heap.size W w1 := by rw [hw1]; exact ((Below.refl _ W).alloc (Nat.le_refl _) _).alloc (by simp) _
  clear hw1
  go_wp2_with fail
  refine (behind_any _ _ _).mono ?_; rintro e w2 ⟨rfl, hw2⟩
  have b2 : Below W.heap.size W w2 := by rw [hw2]; exact (b1.alloc b1.size _).alloc (by have := b1.size; simp; omega) _
  clear hw2 b1
  generalize hF1 : (#[.pointer (some ⟨W.heap.size, 0, none⟩), .pointer (some ⟨W.heap.size + 1, 0, none⟩)] : Array Value) = F1
  generalize hF2 : (#[.pointer (some ⟨w1.heap.size, 0, none⟩), .pointer (some ⟨w1.heap.size + 1, 0, none⟩)] : Array Value) = F2
  clear hF1 hF2
  have b3 := b2.alloc b2.size (.cells #[.func (.func 43) #[] #[], .func (.func 44) #[] #[], .func (.func 72) #[] F1, .func (.func 72) #[] F2, .func (.func 49) #[] #[]] 39)
  have f0 := cell_new w2 #[.func (.func 43) #[] #[], .func (.func 44) #[] #[], .func (.func 72) #[] F1, .func (.func 72) #[] F2, .func (.func 49) #[] #[]] 39 0
  have f1 := cell_new w2 #[.func (.func 43) #[] #[], .func (.func 44) #[] #[], .func (.func 72) #[] F1, .func (.func 72) #[] F2, .func (.func 49) #[] #[]] 39 1
  have fs : w2.heap.size < (w2.alloc (.cells #[.func (.func 43) #[] #[], .func (.func 44) #[] #[], .func (.func 72) #[] F1, .func (.func 72) #[] F2, .func (.func 49) #[] #[]] 39)).heap.size := by simp
  go_wp2_with fail
  generalize w2.alloc (.cells #[.func (.func 43) #[] #[], .func (.func 44) #[] #[], .func (.func 72) #[] F1, .func (.func 72) #[] F2, .func (.func 49) #[] #[]] 39) = W3 at b3 f0 f1 fs ⊢
  have f0 : W3.cell? ⟨w2.heap.size, 0, none⟩ = some (.func (.func 43) #[] #[]) := f0
  have f1 : W3.cell? ⟨w2.heap.size, 1, none⟩ = some (.func (.func 44) #[] #[]) := f1
  have g3 := gB.trans (b3.mono gB.size)
  have X3 := Lib.hid (X.out.below b3)
  clear b2 b3 X
  go_loopg [6, 7, 8, 14] 2 (fun gg _ _ _ s14 wr => ∃ kk : Nat, kk ≤ 1 ∧ 2 - kk ≤ gg ∧ s14 = .int .i64 kk ∧ Aside (Below W3.heap.size W3 wr))
  case atStart => exact ⟨0, by omega, by omega, rfl, Below.refl _ W3⟩
  case round =>
    obtain ⟨kk, hkk, hg, rfl, BW⟩ := hrel
    have h0 := (BW.out.cell (p := ⟨w2.heap.size, 0, none⟩) fs).trans f0
    have h1 := (BW.out.cell (p := ⟨w2.heap.size, 1, none⟩) fs).trans f1
    have BW := Lib.hid BW.out
    rcases Nat.lt_or_ge 0 kk with c | c
    · obtain rfl : kk = 1 := by omega
      rw [show (((1 : Nat) : Int)) = 1 from rfl]
      go_wp2_with fail
      go_at_fn 44
      refine (CA.out _ (g3.trans (BW.out.mono g3.size))).mono ?_; rintro e w4 ⟨rfl, hb4⟩
      have b4 := BW.out.trans (hb4.mono BW.out.size)
      have N := Box2.new w4 (.int .i64 a) (.int .i64 b) 23
      have b5 := b4.alloc b4.size (.cells #[.int .i64 a, .int .i64 b] 23)
      have X5 := Lib.hid (X3.out.below b5)
      have g5 := g3.trans (b5.mono g3.size)
      obtain ⟨n0, n1, n2, n3, n4⟩ := N
      obtain ⟨y0, y1, y2, y3, y4⟩ := X5.out
      clear hb4 b4 h0 h1
      go_wp2_with fail
      have gE := (g5.setCell (p := ⟨w.heap.size, 0, none⟩) (by simp) (.int .i64 a)).setCell (p := ⟨w.heap.size, 1, none⟩) (by simp) (.int .i64 b)
      obtain ⟨_, r1, r2, _⟩ := X5.out.set (.int .i64 a) (.int .i64 b)
      generalize ((w4.alloc (.cells #[.int .i64 a, .int .i64 b] 23)).setCell ⟨w.heap.size, 0, none⟩ (.int .i64 a)).setCell ⟨w.heap.size, 1, none⟩ (.int .i64 b) = w6 at r1 r2 gE ⊢
      exact bodyPost_ret (v := .tuple #[.agg #[.int .i64 a, .int .i64 b], .int .i64 0]) (by simp [results, Tryd.results26, go_sem, r1, r2]) rfl ⟨rfl, gE⟩
    · obtain rfl : kk = 0 := by omega
      rw [show (((0 : Nat) : Int)) = 0 from rfl]
      go_wp2_with fail
      go_at_fn 43
      refine (CU.out _).mono ?_; rintro e w4 ⟨rfl, hb4⟩
      have b4 := BW.out.trans (hb4.mono BW.out.size)
      have b5 := b4.alloc b4.size (.cells #[.int .i64 0, .int .i64 0] 23)
      clear hb4 b4 h0 h1
      go_wp2_with fail
      go_roundg 1
      case measure => omega
      case rel => exact ⟨1, by omega, by omega, rfl, b5⟩

theorem parseD (s : ByteArray) (y : Int) (hs : s.size = 10) (hf : isD (bt s 0) ∧ isD (bt s 1) ∧ isD (bt s 2) ∧ isD (bt s 3) ∧ bt s 4 = 45 ∧ isD (bt s 5) ∧ isD (bt s 6) ∧ bt s 7 = 45 ∧ isD (bt s 8) ∧ isD (bt s 9))
    (hy : tY s = y ∧ tM s = 1 ∧ tD s = 1) (ho : ofB y 1 1 = true) : ∀ V, Tab V → Calls Tryd.prog 88 #[.string s] V (TwoB (Cal.num y 1 1) 0 V) := fun V hV => by
  obtain ⟨f0, f1, f2, f3, f4, f5, f6, f7, f8, f9⟩ := hf
  have h := Parse_yes s V hV hs f0 f1 f2 f3 f4 f5 f6 f7 f8 f9
  rw [hy.1, hy.2.1, hy.2.2, ofV_yes ho, ofE_yes ho] at h
  exact h

theorem e23 : Cal.num 1923 1 1 = 117973 ∧ orMax 1923 12 31 = 118337 ∧ ofB 1923 1 1 = true ∧ ofB 1924 1 1 = true ∧ Cal.num 1924 1 1 = 118338 ∧ orMax 1924 12 31 = 118703 := by decide
theorem d23a : Cal.DateIs 117973 1923 1 1 := ⟨by decide, by decide, by decide, by decide, by decide, by decide, by decide⟩
theorem d23b : Cal.DateIs 118337 1923 12 31 := ⟨by decide, by decide, by decide, by decide, by decide, by decide, by decide⟩
theorem s23 : (SD 1923 1 1).extract 0 4 = ⟨#[49, 57, 50, 51]⟩ := by apply ByteArray.ext; decide
theorem t23 : (⟨#[49, 57, 50, 51]⟩ : ByteArray) ++ ⟨#[45, 48, 49, 45, 48, 49]⟩ = ⟨#[49, 57, 50, 51, 45, 48, 49, 45, 48, 49]⟩ := by apply ByteArray.ext; decide
theorem t24 : (⟨#[49, 57, 50, 52]⟩ : ByteArray) ++ ⟨#[45, 48, 49, 45, 48, 49]⟩ = ⟨#[49, 57, 50, 52, 45, 48, 49, 45, 48, 49]⟩ := by apply ByteArray.ext; decide

theorem Parse_1923 (w : World) (hT : Tab w) : Calls Tryd.prog 26 #[.string ⟨#[49, 57, 50, 51]⟩] w fun e w' => e = .returned (.tuple #[.agg #[.int .i64 117973, .int .i64 118337], .int .i64 0]) ∧ Below w.heap.size w w' := by
  have h := Parse_year ⟨#[49, 57, 50, 51]⟩ 1923 118337 w hT (by decide) (by rw [ByteArray.toList_eq]; decide) e23.2.2.1 e23.2.1 (by
    rw [t23]
    exact parseD _ 1923 (by decide) (by refine ⟨?_, ?_, ?_, ?_, ?_, ?_, ?_, ?_, ?_, ?_⟩ <;> first | exact ⟨by decide, by decide⟩ | decide) (by decide) e23.2.2.1)
  rw [e23.1] at h
  exact h
theorem Parse_1924 (w : World) (hT : Tab w) : Calls Tryd.prog 26 #[.string ⟨#[49, 57, 50, 52]⟩] w fun e w' => e = .returned (.tuple #[.agg #[.int .i64 118338, .int .i64 118703], .int .i64 0]) ∧ Below w.heap.size w w' := by
  have h := Parse_year ⟨#[49, 57, 50, 52]⟩ 1924 118703 w hT (by decide) (by rw [ByteArray.toList_eq]; decide) e23.2.2.2.1 e23.2.2.2.2.2 (by
    rw [t24]
    exact parseD _ 1924 (by decide) (by refine ⟨?_, ?_, ?_, ?_, ?_, ?_, ?_, ?_, ?_, ?_⟩ <;> first | exact ⟨by decide, by decide⟩ | decide) (by decide) e23.2.2.2.1)
  rw [e23.2.2.2.2.1] at h
  exact h
theorem Format_1923 (w : World) (hT : Tab w) : Calls Tryd.prog 24 #[.agg #[.int .i64 117973, .int .i64 118337]] w (Said ⟨#[49, 57, 50, 51]⟩ 0 w) := by
  have h := Format_year 117973 118337 1923 w hT d23a d23b (by decide) (by decide) (by decide) (by decide)
  rw [s23] at h
  exact h

set_option maxHeartbeats 2000000 in
theorem awake_any (w : World) (hT : Tab w) :
    Calls Tryd.prog 11 #[] w fun e w' => e = .returned (.bool true) ∧ Below w.heap.size w w' := by
  have C1 := Lib.hid (Parse_1923 w hT)
  have C2 := Lib.hid (fun V (hV : Below w.heap.size w V) => Parse_1924 V (hT.below hV))
  have C3 := Lib.hid (fun V (hV : Below w.heap.size w V) => Format_1923 V (hT.below hV))
  have C4 := Lib.hid (fun V => Before_any 117973 118337 118338 118703 V)
  have C5 := Lib.hid (fun V => Check_any 1 0 V)
  rw [show befV (117973, 118337) (118338, 118703) = 2 from by decide, show befE (117973, 118337) (118338, 118703) = 0 from by decide] at C4
  rw [show chk (1, 0) = 1 from by decide] at C5
  clear hT
  go_enter Tryd.func11, Tryd.ntmps11
  go_wp2_with fail
  refine C1.out.mono ?_; rintro e w1 ⟨rfl, b1⟩
  have X1 := Box2.new w1 (.int .i64 117973) (.int .i64 118337) 23
  have g1 := b1.alloc b1.size (.cells #[.int .i64 117973, .int .i64 118337] 23)
  clear C1
  go_wp2_with fail
  generalize w1.alloc (.cells #[.int .i64 117973, .int .i64 118337] 23) = W1 at X1 g1 ⊢
  refine (C2.out _ g1).mono ?_; rintro e w2 ⟨rfl, b2⟩
  have g2 := g1.trans (b2.mono g1.size)
  have X2 := Box2.new w2 (.int .i64 118338) (.int .i64 118703) 23
  have g3 := g2.alloc g2.size (.cells #[.int .i64 118338, .int .i64 118703] 23)
  have X1 := (X1.below b2).alloc (.cells #[.int .i64 118338, .int .i64 118703] 23)
  clear C2
  obtain ⟨p0, p1, p2, p3, p4⟩ := X1
  obtain ⟨q0, q1, q2, q3, q4⟩ := X2
  clear b2 g2
  go_wp2_with fail
  generalize w2.alloc (.cells #[.int .i64 118338, .int .i64 118703] 23) = W2 at *
  refine (C3.out _ g3).mono ?_; rintro e w3 ⟨rfl, b3⟩
  have g4 := g3.trans (b3.mono g3.size)
  have p1 := (b3.cell (p := ⟨w1.heap.size, 0, none⟩) p0).trans p1
  have p2 := (b3.cell (p := ⟨w1.heap.size, 1, none⟩) p0).trans p2
  have q1 := (b3.cell (p := ⟨w2.heap.size, 0, none⟩) q0).trans q1
  have q2 := (b3.cell (p := ⟨w2.heap.size, 1, none⟩) q0).trans q2
  clear b3 g3 C3
  go_wp2_with fail
  refine (C4.out _).mono ?_; rintro e w4 ⟨rfl, b4⟩
  have g5 := g4.trans (b4.mono g4.size)
  clear b4 g4 C4
  have te : ((⟨#[49, 57, 50, 51]⟩ : ByteArray).toList == [49, 57, 50, 51]) = true := by rw [ByteArray.toList_eq]; decide
  go_wp2_with fail
  refine (C5.out _).mono ?_; rintro e w5 ⟨rfl, b5⟩
  have g6 := g5.trans (b5.mono g5.size)
  go_wp2
  go_ret
  exact ⟨rfl, g6⟩
end Go.Proofs.YtbllolalfmgfoaaDoor
