/- The law HistSame: its walk. -/
import Derived.Test.YtoombgjjdkocjaaHsSa
namespace Go.Proofs.Ytoombgjjdkocjaa
open Go.RowKit Go.Sort Go.Maps
set_option linter.unusedVariables false
set_option maxHeartbeats 8000000 in
set_option maxRecDepth 100000 in
theorem same_heavy (k s z zc ct sm k' s' z' zc' ct' sm' : Int) (A B A' B' : Option Addr) (c d c' d' n m n' m' : Nat) (w : World) (h : ¬ ((n ≤ 600 ∧ m ≤ 600) ∧ (n' ≤ 600 ∧ m' ≤ 600))) :
    Calls Try.prog 4 #[.agg #[.int .i64 k, .int .i64 s, .int .i64 z, .int .u64 zc, .int .u64 ct, .int .i64 sm, .slice A n c, .slice B m d], .agg #[.int .i64 k', .int .i64 s', .int .i64 z', .int .u64 zc', .int .u64 ct', .int .i64 sm', .slice A' n' c', .slice B' m' d']] w fun e w' => e = .returned (.bool true) ∧ Below w.heap.size w w' := by
  have hb0 : Below w.heap.size w ((w.alloc (.cells #[.int .i64 k, .int .i64 s, .int .i64 z, .int .u64 zc, .int .u64 ct, .int .i64 sm, .slice A n c, .slice B m d] 25)).alloc (.cells #[.int .i64 k', .int .i64 s', .int .i64 z', .int .u64 zc', .int .u64 ct', .int .i64 sm', .slice A' n' c', .slice B' m' d'] 25)) := ((Below.refl _ _).alloc (Nat.le_refl _) _).alloc (by simp) _
  have hy := box8b (heap_alloc_new (w.alloc (.cells #[.int .i64 k, .int .i64 s, .int .i64 z, .int .u64 zc, .int .u64 ct, .int .i64 sm, .slice A n c, .slice B m d] 25)) (.cells #[.int .i64 k', .int .i64 s', .int .i64 z', .int .u64 zc', .int .u64 ct', .int .i64 sm', .slice A' n' c', .slice B' m' d'] 25))
  have e1 : (w.alloc (.cells #[.int .i64 k, .int .i64 s, .int .i64 z, .int .u64 zc, .int .u64 ct, .int .i64 sm, .slice A n c, .slice B m d] 25)).heap.size = w.heap.size + 1 := by simp
  rw [e1] at hy
  clear e1
  have HBY := Lib.hid hy
  have HB0 := Lib.hid hb0
  clear hb0 hy
  by_cases h1 : n ≤ 600 ∧ m ≤ 600
  · have HL := Lib.hid (show true = (decide (n ≤ 600) && decide (m ≤ 600)) from by rw [decide_eq_true h1.1, decide_eq_true h1.2]; rfl)
    have HL' := Lib.hid (show false = (decide (n' ≤ 600) && decide (m' ≤ 600)) from by
      symm
      rw [Bool.and_eq_false_iff, decide_eq_false_iff_not, decide_eq_false_iff_not]
      omega)
    clear h h1
    go_enter Try.func4, Try.ntmps4
    go_wp2_with fail
    refine (light_any _ _ _ _ _ _ _ _ _ _ _ _ _ true HL.out).mono ?_
    rintro e w1 ⟨rfl, hb1⟩
    have HB1 := Lib.hid (HB0.out.trans (hb1.mono HB0.out.size))
    obtain ⟨x0, x1, x2, x3, x4, x5, x6, x7⟩ := HBY.out w1 hb1
    clear hb1
    go_wp2_with fail
    refine (light_any _ _ _ _ _ _ _ _ _ _ _ _ _ false HL'.out).mono ?_
    rintro e w2 ⟨rfl, hb2⟩
    have HB2 := Lib.hid (HB1.out.trans (hb2.mono HB1.out.size))
    clear hb2 x0 x1 x2 x3 x4 x5 x6 x7
    go_wp2_with fail
    refine (awake05 _).mono ?_
    rintro e w3 ⟨rfl, hb3⟩
    have HB3 := Lib.hid (HB2.out.trans (hb3.mono HB2.out.size))
    clear hb3
    go_wp2_with fail
    go_ret
    exact ⟨rfl, HB3.out⟩
  · have HL := Lib.hid (show false = (decide (n ≤ 600) && decide (m ≤ 600)) from by
      symm
      rw [Bool.and_eq_false_iff, decide_eq_false_iff_not, decide_eq_false_iff_not]
      omega)
    clear h h1
    go_enter Try.func4, Try.ntmps4
    go_wp2_with fail
    refine (light_any _ _ _ _ _ _ _ _ _ _ _ _ _ false HL.out).mono ?_
    rintro e w1 ⟨rfl, hb1⟩
    have HB1 := Lib.hid (HB0.out.trans (hb1.mono HB0.out.size))
    clear hb1
    go_wp2_with fail
    refine (awake05 _).mono ?_
    rintro e w3 ⟨rfl, hb3⟩
    have HB3 := Lib.hid (HB1.out.trans (hb3.mono HB1.out.size))
    clear hb3
    go_wp2_with fail
    go_ret
    exact ⟨rfl, HB3.out⟩
end Go.Proofs.Ytoombgjjdkocjaa
