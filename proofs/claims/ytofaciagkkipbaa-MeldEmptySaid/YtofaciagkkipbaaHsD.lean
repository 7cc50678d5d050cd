/- The contracts of what is wrong with a histogram. -/
import Derived.Test.YtofaciagkkipbaaHsC
namespace Go.Proofs.Ytofaciagkkipbaa
open Go.RowKit Go.Sort
set_option linter.unusedVariables false

/-- what is wrong with a histogram, whatever it counts -/
def kindE (k s z : Int) : Int := if k ≠ 0 ∧ k ≠ 1 then 25 else if rightB s = false then 20 else if z ≠ -524288 ∧ (z ≤ -262144 ∨ 262144 < z) then 31 else 0
theorem kindE_zero {k s z : Int} (h : kindE k s z = 0) : (k = 0 ∨ k = 1) ∧ rightB s = true ∧ (z = -524288 ∨ (-262144 < z ∧ z ≤ 262144)) := by
  unfold kindE at h
  by_cases h1 : k ≠ 0 ∧ k ≠ 1
  · rw [if_pos h1] at h; cases h
  · rw [if_neg h1] at h
    by_cases h2 : rightB s = false
    · rw [if_pos h2] at h; cases h
    · rw [if_neg h2] at h
      by_cases h3 : z ≠ -524288 ∧ (z ≤ -262144 ∨ 262144 < z)
      · rw [if_pos h3] at h; cases h
      · exact ⟨by omega, by simpa using h2, by omega⟩
/-- what is wrong with a bucket behind another one -/
def bktE (s z : Int) (o : Option Int) (p : Int × Int) : Int :=
  if inB s p.1 = false then 4 else if (match o with | none => false | some q => decide (p.1 ≤ q)) = true then 32 else if p.2 = 0 then 21 else if un s (p.1 - 1) < z then 31 else 0
def walkE (s z : Int) : Option Int → List (Int × Int) → Int
  | _, [] => 0
  | o, p :: r => if bktE s z o p ≠ 0 then bktE s z o p else walkE s z (some p.1) r
def sideE (s z : Int) (l : List (Int × Int)) : Int := if 512 < l.length then 9 else walkE s z none l
/-- the index ahead of the j-th -/
def prevO (l : List (Int × Int)) (j : Nat) : Option Int := match j with | 0 => none | j + 1 => (l[j]?).map (·.1)
theorem walk_step {s z : Int} {l : List (Int × Int)} {j : Nat} {p : Int × Int} (h : l[j]? = some p) :
    walkE s z (prevO l j) (l.drop j) = if bktE s z (prevO l j) p ≠ 0 then bktE s z (prevO l j) p else walkE s z (prevO l (j + 1)) (l.drop (j + 1)) := by
  have hj : j < l.length := (List.getElem?_eq_some_iff.1 h).1
  have e : l.drop j = p :: l.drop (j + 1) := by
    rw [List.drop_eq_getElem_cons hj]
    congr 1
    exact (List.getElem?_eq_some_iff.1 h).2
  rw [e]
  show (if _ then _ else walkE s z (some p.1) (l.drop (j + 1))) = _
  have e2 : prevO l (j + 1) = some p.1 := by simp [prevO, h]
  rw [e2]

theorem kinds_any (k s z : Int) (v3 v4 v5 v6 v7 : Value) (w : World) :
    Calls Try.prog 54 #[.agg #[.int .i64 k, .int .i64 s, .int .i64 z, v3, v4, v5, v6, v7]] w fun e w' => e = .returned (.int .i64 (kindE k s z)) ∧ Below w.heap.size w w' := by
  by_cases h0 : k = 0
  all_goals by_cases h1 : k = 1
  · omega
  all_goals
    first
    | (have t0 : (k != 0) = false := by simpa using h0)
    | (have t0 : (k != 0) = true := by simpa using h0)
    first
    | (have t1 : (k != 1) = false := by simpa using h1)
    | (have t1 : (k != 1) = true := by simpa using h1)
    have HK := Lib.hid (show kindE k s z = if k ≠ 0 ∧ k ≠ 1 then 25 else if rightB s = false then 20 else if z ≠ -524288 ∧ (z ≤ -262144 ∨ 262144 < z) then 31 else 0 from rfl)
    have H0 := Lib.hid h0
    have H1 := Lib.hid h1
    clear h0 h1
    rcases hR : rightB s with _ | _
    all_goals
      by_cases h2 : z = -524288
      all_goals by_cases h3 : z ≤ -262144
      all_goals by_cases h4 : 262144 < z
      all_goals
        first
        | (exfalso; omega)
        | skip
      all_goals
        first
        | (have t2 : (z != -524288) = false := by simpa using h2)
        | (have t2 : (z != -524288) = true := by simpa using h2)
        first
        | (have t3 : decide (z ≤ -262144) = true := by simpa using h3)
        | (have t3 : decide (z ≤ -262144) = false := by simpa using h3)
        first
        | (have t4 : decide (262144 < z) = true := by simpa using h4)
        | (have t4 : decide (262144 < z) = false := by simpa using h4)
        have HR := Lib.hid hR
        have H2 := Lib.hid h2
        have H3 := Lib.hid h3
        have H4 := Lib.hid h4
        clear h2 h3 h4
        go_enter Try.func54, Try.ntmps54
        go_wp2_with (go_at_call 34; refine (right_any _ _).mono ?_; rintro e w' ⟨rfl, rfl⟩)
        go_ret
        refine ⟨ret_int ?_, (Below.refl _ _).alloc (Nat.le_refl _) _⟩
        have a0 := H0.out
        have a1 := H1.out
        have a2 := H2.out
        have a3 := H3.out
        have a4 := H4.out
        have aR := HR.out
        rw [HK.out]
        simp [a0, a1, a2, a3, a4, aR]
end Go.Proofs.Ytofaciagkkipbaa
