/- The document's own answer of what is wrong with a histogram, whatever it is. -/
import Derived.Test.YtjnienlidmmhdaaGreatDoorHsQ0
import Derived.Test.YtjnienlidmmhdaaGreatDoorHsQ1
import Derived.Test.YtjnienlidmmhdaaGreatDoorHsQ2
import Derived.Test.YtjnienlidmmhdaaGreatDoorHsQ3
namespace Go.Proofs.YtjnienlidmmhdaaGreatDoor
open Go.RowKit Go.Sort
set_option linter.unusedVariables false

theorem chk_K {k s z zc ct : Int} {P Q : List (Int × Int)} (h : kindE k s z ≠ 0) : kindE k s z = checkF k s z zc ct P Q := by
  unfold checkF
  rw [if_pos h]
set_option maxHeartbeats 2000000 in
set_option maxRecDepth 100000 in
theorem refcheck_bad (k s z : Int) (v3 v4 v5 v6 v7 : Value) (w : World) (hbad : kindE k s z ≠ 0) :
    Calls Tryz.prog 21 #[.agg #[.int .i64 k, .int .i64 s, .int .i64 z, v3, v4, v5, v6, v7]] w fun e w' => e = .returned (.int .i64 (kindE k s z)) ∧ Below w.heap.size w w' := by
  have HBAD := Lib.hid hbad
  clear hbad
  by_cases h0 : k = 0
  all_goals by_cases h1 : k = 1
  · omega
  all_goals
    first
    | (have t0 : (k != 0) = false := by simpa using h0)
    | (have t0 : (k != 0) = true := by simpa using h0)
    first
    | (have t1 : (k != 1) = false := by simpa using h1)
    | (have t1 : (k != 1) = true := by simpa using h1)
    have HK := Lib.hid (show kindE k s z = if k ≠ 0 ∧ k ≠ 1 then 25 else if rightB s = false then 20 else if z ≠ -524288 ∧ (z ≤ -262144 ∨ 262144 < z) then 31 else 0 from rfl)
    have H0 := Lib.hid h0
    have H1 := Lib.hid h1
    clear h0 h1
    rcases hR : rightB s with _ | _
    all_goals
      by_cases h2 : z = -524288
      all_goals by_cases h3 : z ≤ -262144
      all_goals by_cases h4 : 262144 < z
      all_goals
        first
        | (exfalso; omega)
        | (exfalso; refine HBAD.out ?_; rw [HK.out]; have a0 := H0.out; have a1 := H1.out; simp [a0, a1, h2, h3, h4, hR]; done)
        | skip
      all_goals
        first
        | (have t2 : (z != -524288) = false := by simpa using h2)
        | (have t2 : (z != -524288) = true := by simpa using h2)
        first
        | (have t3 : decide (z ≤ -262144) = true := by simpa using h3)
        | (have t3 : decide (z ≤ -262144) = false := by simpa using h3)
        first
        | (have t4 : decide (262144 < z) = true := by simpa using h4)
        | (have t4 : decide (262144 < z) = false := by simpa using h4)
        have HR := Lib.hid hR
        have H2 := Lib.hid h2
        have H3 := Lib.hid h3
        have H4 := Lib.hid h4
        clear h2 h3 h4
        go_enter Tryz.func21, Tryz.ntmps21
        go_wp2_with (go_at_call 66; refine (refright_any _ _).mono ?_; rintro e w' ⟨rfl, rfl⟩)
        go_ret
        refine ⟨ret_int ?_, (Below.refl _ _).alloc (Nat.le_refl _) _⟩
        have a0 := H0.out
        have a1 := H1.out
        have a2 := H2.out
        have a3 := H3.out
        have a4 := H4.out
        have aR := HR.out
        rw [HK.out]
        simp [a0, a1, a2, a3, a4, aR]
theorem refcheck_any (k s z zc ct : Int) (sm : Value) (A B : Option Addr) (c d : Nat) (P Q : List (Int × Int)) (w : World) (z0 : 0 ≤ zc) (z1 : zc ≤ 18446744073709551615) (hP : Bk w A P) (hQ : Bk w B Q) :
    Calls Tryz.prog 21 #[.agg #[.int .i64 k, .int .i64 s, .int .i64 z, .int .u64 zc, .int .u64 ct, sm, .slice A P.length c, .slice B Q.length d]] w fun e w' => e = .returned (.int .i64 (checkF k s z zc ct P Q)) ∧ Below w.heap.size w w' := by
  by_cases h : kindE k s z = 0
  · obtain ⟨hk, _, hz⟩ := kindE_zero h
    rcases hk with rfl | rfl
    · by_cases hn : z = -524288
      · subst hn
        exact refcheck_0n s zc ct sm A B c d P Q w z0 z1 hP hQ h
      · rcases hz with hz | ⟨a, b⟩
        · exact absurd hz hn
        · exact refcheck_0z s z zc ct sm A B c d P Q w z0 z1 hP hQ h hn a b
    · by_cases hn : z = -524288
      · subst hn
        exact refcheck_1n s zc ct sm A B c d P Q w z0 z1 hP hQ h
      · rcases hz with hz | ⟨a, b⟩
        · exact absurd hz hn
        · exact refcheck_1z s z zc ct sm A B c d P Q w z0 z1 hP hQ h hn a b
  · rw [← chk_K h]
    exact refcheck_bad k s z _ _ _ _ _ w h
theorem refcheckN (k s z zc ct : Int) (sm : Value) (A B : Option Addr) (c d : Nat) (P Q : List (Int × Int)) (w : World) (z0 : 0 ≤ zc) (z1 : zc ≤ 18446744073709551615) (hP : Bk w A P) (hQ : Bk w B Q) (e0 : Int) (h : checkF k s z zc ct P Q = e0) :
    Calls Tryz.prog 21 #[.agg #[.int .i64 k, .int .i64 s, .int .i64 z, .int .u64 zc, .int .u64 ct, sm, .slice A P.length c, .slice B Q.length d]] w fun e w' => e = .returned (.int .i64 e0) ∧ Below w.heap.size w w' := by
  refine (refcheck_any k s z zc ct sm A B c d P Q w z0 z1 hP hQ).mono ?_
  rintro e w' ⟨rfl, hb⟩
  exact ⟨by rw [h], hb⟩
end Go.Proofs.YtjnienlidmmhdaaGreatDoor
