/- The law HistCells: all its inputs. -/
import Derived.Test.YtjceickkbhhoaaaHsC0
import Derived.Test.YtjceickkbhhoaaaHsC1
import Derived.Test.YtjceickkbhhoaaaHsC2
import Derived.Test.YtjceickkbhhoaaaHsC3
import Derived.Test.YtjceickkbhhoaaaHsC4
import Derived.Test.YtjceickkbhhoaaaHsC5
namespace Go.Proofs.Ytjceickkbhhoaaa
open Go.RowKit Go.Sort Go.Maps
set_option linter.unusedVariables false

set_option maxHeartbeats 2000000 in
set_option maxRecDepth 100000 in
theorem hcells_heavy (k s z zc ct sm : Int) (A B : Option Addr) (c d n m : Nat) (side idx : Int) (w : World) (h : ¬ (n ≤ 600 ∧ m ≤ 600)) :
    Calls Try.prog 3 #[.agg #[.int .i64 k, .int .i64 s, .int .i64 z, .int .u64 zc, .int .u64 ct, .int .i64 sm, .slice A n c, .slice B m d], .int .i64 side, .int .i64 idx] w fun e w' => e = .returned (.bool true) ∧ Below w.heap.size w w' := by
  have hb0 : Below w.heap.size w (w.alloc (.cells #[.int .i64 k, .int .i64 s, .int .i64 z, .int .u64 zc, .int .u64 ct, .int .i64 sm, .slice A n c, .slice B m d] 25)) := (Below.refl _ _).alloc (Nat.le_refl _) _
  have HB0 := Lib.hid hb0
  have HL := Lib.hid (show false = (decide (n ≤ 600) && decide (m ≤ 600)) from by
    symm
    rw [Bool.and_eq_false_iff, decide_eq_false_iff_not, decide_eq_false_iff_not]
    omega)
  clear hb0 h
  go_enter Try.func3, Try.ntmps3
  go_wp2_with fail
  refine (light_any _ _ _ _ _ _ _ _ _ _ _ _ _ false HL.out).mono ?_
  rintro e w1 ⟨rfl, hb1⟩
  have HB1 := Lib.hid (HB0.out.trans (hb1.mono HB0.out.size))
  clear hb1
  go_wp2_with fail
  refine (awake05 _).mono ?_
  rintro e w2 ⟨rfl, hb2⟩
  have HB2 := Lib.hid (HB1.out.trans (hb2.mono HB1.out.size))
  clear hb2
  go_wp2_with fail
  go_ret
  exact ⟨rfl, HB2.out⟩
set_option maxHeartbeats 2000000 in
set_option maxRecDepth 100000 in
theorem hcells_bad (k s z zc ct sm : Int) (A B : Option Addr) (c d : Nat) (P Q : List (Int × Int)) (side idx : Int) (w : World) (z0 : 0 ≤ zc) (z1 : zc ≤ 18446744073709551615) (hP : Bk w A P) (hQ : Bk w B Q) (hl : P.length ≤ 600 ∧ Q.length ≤ 600) (hck : checkF k s z zc ct P Q ≠ 0) :
    Calls Try.prog 3 #[.agg #[.int .i64 k, .int .i64 s, .int .i64 z, .int .u64 zc, .int .u64 ct, .int .i64 sm, .slice A P.length c, .slice B Q.length d], .int .i64 side, .int .i64 idx] w fun e w' => e = .returned (.bool true) ∧ Below w.heap.size w w' := by
  have hb0 : Below w.heap.size w (w.alloc (.cells #[.int .i64 k, .int .i64 s, .int .i64 z, .int .u64 zc, .int .u64 ct, .int .i64 sm, .slice A P.length c, .slice B Q.length d] 25)) := (Below.refl _ _).alloc (Nat.le_refl _) _
  have HBX := Lib.hid (box8b (heap_alloc_new w (.cells #[.int .i64 k, .int .i64 s, .int .i64 z, .int .u64 zc, .int .u64 ct, .int .i64 sm, .slice A P.length c, .slice B Q.length d] 25)))
  have HP := Lib.hid (hP.below hb0)
  have HQ := Lib.hid (hQ.below hb0)
  have HB0 := Lib.hid hb0
  have HL := Lib.hid (show true = (decide (P.length ≤ 600) && decide (Q.length ≤ 600)) from by rw [decide_eq_true hl.1, decide_eq_true hl.2]; rfl)
  obtain ⟨E, hE⟩ : ∃ E, checkF k s z zc ct P Q = E := ⟨_, rfl⟩
  have HE := Lib.hid hE
  rw [hE] at hck
  have hn : (E != 0) = true := by simpa using hck
  clear hP hQ hb0 hl hE hck
  go_enter Try.func3, Try.ntmps3
  go_wp2_with fail
  refine (light_any _ _ _ _ _ _ _ _ _ _ _ _ _ true HL.out).mono ?_
  rintro e w1 ⟨rfl, hb1⟩
  have HB1 := Lib.hid hb1
  obtain ⟨x0, x1, x2, x3, x4, x5, x6, x7⟩ := HBX.out w1 hb1
  clear hb1
  go_wp2_with fail
  refine (refcheckN _ _ _ _ _ _ _ _ _ _ _ _ _ z0 z1 (HP.out.below HB1.out) (HQ.out.below HB1.out) _ HE.out).mono ?_
  rintro e w2 ⟨rfl, hb2⟩
  have HB2 := Lib.hid (HB1.out.trans (hb2.mono HB1.out.size))
  clear x0 x1 x2 x3 x4 x5 x6 x7 hb2
  go_wp2_with fail
  refine (awake05 _).mono ?_
  rintro e w3 ⟨rfl, hb3⟩
  have HB3 := Lib.hid (HB2.out.trans (hb3.mono HB2.out.size))
  clear hb3
  go_wp2_with fail
  go_ret
  exact ⟨rfl, HB0.out.trans (HB3.out.mono HB0.out.size)⟩
theorem hcells_walk (k s z zc ct sm : Int) (A B : Option Addr) (c d : Nat) (P Q : List (Int × Int)) (side idx : Int) (w : World) (hs : I64 s) (z0 : 0 ≤ zc) (z1 : zc ≤ 18446744073709551615) (hP : Bk w A P) (hQ : Bk w B Q) :
    Calls Try.prog 3 #[.agg #[.int .i64 k, .int .i64 s, .int .i64 z, .int .u64 zc, .int .u64 ct, .int .i64 sm, .slice A P.length c, .slice B Q.length d], .int .i64 side, .int .i64 idx] w fun e w' => e = .returned (.bool true) ∧ Below w.heap.size w w' := by
  by_cases hl : P.length ≤ 600 ∧ Q.length ≤ 600
  · by_cases hck : checkF k s z zc ct P Q = 0
    · by_cases hz : zc = 0
      · subst hz
        by_cases h1 : 0 < side
        · exact cells_p0 k s z ct sm A B c d P Q side idx w hs hP hQ hck h1
        · by_cases h2 : side < 0
          · exact cells_n0 k s z ct sm A B c d P Q side idx w hs hP hQ hck h2
          · obtain rfl : side = 0 := by omega
            exact cells_z0 k s z ct sm A B c d P Q idx w hs hP hQ hck
      · have hzp : 0 < zc := by omega
        by_cases h1 : 0 < side
        · exact cells_p1 k s z zc ct sm A B c d P Q side idx w hs hzp z1 hP hQ hck h1
        · by_cases h2 : side < 0
          · exact cells_n1 k s z zc ct sm A B c d P Q side idx w hs hzp z1 hP hQ hck h2
          · obtain rfl : side = 0 := by omega
            exact cells_z1 k s z zc ct sm A B c d P Q idx w hs hzp z1 hP hQ hck
    · exact hcells_bad k s z zc ct sm A B c d P Q side idx w z0 z1 hP hQ hl hck
  · exact hcells_heavy k s z zc ct sm A B c d P.length Q.length side idx w hl
end Go.Proofs.Ytjceickkbhhoaaa
