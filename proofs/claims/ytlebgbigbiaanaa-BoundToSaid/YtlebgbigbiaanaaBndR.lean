/- Contracts of the document's own answers on bounds, and that they are the program's. -/
import Derived.Test.YtlebgbigbiaanaaStepsW
namespace Go.Proofs.Ytlebgbigbiaanaa
open Go.RowKit

theorem un_one (s : Int) : un s 1 = uw s := by unfold un; rw [Int.one_mul]
theorem un_lt {s : Int} (h : rightB s = true) {i u : Int} : un s i < u ↔ i < cl s u := by
  have c := cl_bounds h u
  unfold un at c ⊢
  rcases uw_cases h with e | e | e | e | e | e | e | e | e | e | e | e | e <;> rw [e] at c ⊢ <;> omega
theorem tdiv_le_cl {s : Int} (h : rightB s = true) {u : Int} (hu : u < 0) : u.tdiv (uw s) ≤ cl s u ∧ -262144 * 4096 ≤ u.tdiv (uw s) ∨ u < -262144 * 4096 := by
  by_cases hb : u < -262144 * 4096
  · exact .inr hb
  refine .inl ?_
  have e : u.tdiv (uw s) = -((-u) / uw s) := by
    have := Int.neg_tdiv (a := -u) (b := uw s)
    rw [Int.neg_neg] at this
    rw [this, Int.tdiv_eq_ediv_of_nonneg (by omega)]
  rw [e, cl_eq]
  rcases uw_cases h with f | f | f | f | f | f | f | f | f | f | f | f | f <;> rw [f] <;> omega
theorem div_le_cl {s : Int} (h : rightB s = true) {u : Int} (hu : 0 ≤ u) : u / uw s ≤ cl s u ∧ 0 ≤ u / uw s := by
  rw [cl_eq]
  rcases uw_cases h with f | f | f | f | f | f | f | f | f | f | f | f | f <;> rw [f] <;> omega

theorem refright_any (s : Int) (w : World) :
    Calls Try.prog 27 #[.int .i64 s] w fun e w' => e = .returned (.bool (rightB s)) ∧ w = w' := by
  by_cases h1 : -4 ≤ s
  · by_cases h2 : s ≤ 8
    · have hE := Lib.hid (show true = rightB s by unfold rightB; simp [h1, h2])
      go_enter Try.func27, Try.ntmps27
      go_wp2
      go_ret
      exact ⟨ret_bool hE.out, rfl⟩
    · have hE := Lib.hid (show false = rightB s by unfold rightB; simp [h1, h2])
      have h3 : decide (s ≤ 8) = false := by simpa using h2
      go_enter Try.func27, Try.ntmps27
      go_wp2
      go_ret
      exact ⟨ret_bool hE.out, rfl⟩
  · have hE := Lib.hid (show false = rightB s by unfold rightB; simp [h1])
    have h3 : decide (-4 ≤ s) = false := by simpa using h1
    go_enter Try.func27, Try.ntmps27
    go_wp2
    go_ret
    exact ⟨ret_bool hE.out, rfl⟩

theorem refstep_any (s : Int) (w : World) (R : rightB s = true) :
    Calls Try.prog 47 #[.int .i64 s] w fun e w' => e = .returned (.int .i64 (uw s)) ∧ w = w' := by
  obtain ⟨b1, b2⟩ := right_yes R
  go_enter Try.func47, Try.ntmps47
  go_wp2
  go_loop [3, 4] (fun p i => ∃ j : Nat, s + j ≤ 8 ∧ i = .int .i64 (s + j) ∧ p = .int .i64 (pw j)) (fun _ i => (8 - intOf i).toNat)
  case atStart => exact ⟨0, by omega, by simp, rfl⟩
  case round =>
    obtain ⟨j, hj, rfl, rfl⟩ := hrel
    by_cases hlt : s + j < 8
    · have HS := Lib.hid (pw_succ j)
      have hpj := pw_pos j
      have huj := pw_le (k := j) (by omega)
      go_wp2
      go_round
      case rel => exact ⟨j + 1, by omega, ret_val (by omega), ret_val HS.out⟩
      case measure => simp [intOf]; omega
    · have e : j = (8 - s).toNat := by omega
      have hE := Lib.hid (show pw j = uw s by rw [e]; rfl)
      clear e
      go_wp2
      go_ret
      exact ⟨ret_int hE.out, rfl⟩

theorem refunits_yes (s i : Int) (w : World) (R : rightB s = true) (h1 : -9223372036854775808 ≤ un s i) (h2 : un s i ≤ 9223372036854775807) :
    Calls Try.prog 28 #[.int .i64 s, .int .i64 i] w fun e w' => e = .returned (.int .i64 (un s i)) ∧ w = w' := by
  have hE := Lib.hid (show un s i = i * uw s from rfl)
  rw [hE.out] at h1 h2
  go_enter Try.func28, Try.ntmps28
  go_wp2_with (first | (go_at_call 27; refine (refright_any _ _).mono ?_; rintro e w' ⟨rfl, rfl⟩) | (go_at_call 47; refine (refstep_any _ _ R).mono ?_; rintro e w' ⟨rfl, rfl⟩))
  go_ret
  exact ⟨ret_int hE.out.symm, rfl⟩
theorem refunits_no (s i : Int) (w : World) (R : rightB s = false) :
    Calls Try.prog 28 #[.int .i64 s, .int .i64 i] w fun e w' => e = .returned (.int .i64 0) ∧ w = w' := by
  go_enter Try.func28, Try.ntmps28
  go_wp2_with (go_at_call 27; refine (refright_any _ _).mono ?_; rintro e w' ⟨rfl, rfl⟩)
  go_ret
  exact ⟨rfl, rfl⟩

theorem refin_any (s i : Int) (w : World) :
    Calls Try.prog 31 #[.int .i64 s, .int .i64 i] w fun e w' => e = .returned (.bool (inB s i)) ∧ w = w' := by
  rcases hR : rightB s with _ | _
  · have hE := Lib.hid (show false = inB s i from (in_not hR).symm)
    go_enter Try.func31, Try.ntmps31
    go_wp2_with (go_at_call 27; refine (refright_any _ _).mono ?_; rintro e w' ⟨rfl, rfl⟩)
    go_ret
    exact ⟨ret_bool hE.out, rfl⟩
  · have HR := Lib.hid hR
    by_cases h1 : -262144 < i
    · have d1 : decide (-262144 < i) = true := by simpa using h1
      by_cases h2 : i ≤ 262144
      · have d2 : decide (i ≤ 262144) = true := by simpa using h2
        obtain ⟨n1, n2⟩ := un_bd (i := i) hR 262144 (by omega) (by omega)
        by_cases h3 : -262144 < un s i
        · have d3 : decide (-262144 < un s i) = true := by simpa using h3
          have hE := Lib.hid (show decide (un s i ≤ 262144) = inB s i by
            by_cases h4 : un s i ≤ 262144
            · rw [decide_eq_true h4, (in_iff hR).2 ⟨h3, h4⟩]
            · rw [decide_eq_false h4]
              rcases hi : inB s i with _ | _
              · rfl
              · exact absurd ((in_iff hR).1 hi).2 h4)
          go_enter Try.func31, Try.ntmps31
          go_wp2_with (first | (go_at_call 27; refine (refright_any _ _).mono ?_; rintro e w' ⟨rfl, rfl⟩) | (go_at_call 28; refine (refunits_yes _ _ _ HR.out (by omega) (by omega)).mono ?_; rintro e w' ⟨rfl, rfl⟩))
          go_ret
          exact ⟨ret_bool hE.out, rfl⟩
        · have d3 : decide (-262144 < un s i) = false := by simpa using h3
          have hE := Lib.hid (show false = inB s i by
            rcases hi : inB s i with _ | _
            · rfl
            · exact absurd ((in_iff hR).1 hi).1 h3)
          go_enter Try.func31, Try.ntmps31
          go_wp2_with (first | (go_at_call 27; refine (refright_any _ _).mono ?_; rintro e w' ⟨rfl, rfl⟩) | (go_at_call 28; refine (refunits_yes _ _ _ HR.out (by omega) (by omega)).mono ?_; rintro e w' ⟨rfl, rfl⟩))
          go_ret
          exact ⟨ret_bool hE.out, rfl⟩
      · have d2 : decide (i ≤ 262144) = false := by simpa using h2
        have hE := Lib.hid (show false = inB s i by
          rcases hi : inB s i with _ | _
          · rfl
          · exact absurd (in_bd hi).2 h2)
        go_enter Try.func31, Try.ntmps31
        go_wp2_with (go_at_call 27; refine (refright_any _ _).mono ?_; rintro e w' ⟨rfl, rfl⟩)
        go_ret
        exact ⟨ret_bool hE.out, rfl⟩
    · have d1 : decide (-262144 < i) = false := by simpa using h1
      have hE := Lib.hid (show false = inB s i by
        rcases hi : inB s i with _ | _
        · rfl
        · exact absurd (in_bd hi).1 h1)
      go_enter Try.func31, Try.ntmps31
      go_wp2_with (go_at_call 27; refine (refright_any _ _).mono ?_; rintro e w' ⟨rfl, rfl⟩)
      go_ret
      exact ⟨ret_bool hE.out, rfl⟩

theorem refof_no (s u : Int) (w : World) (h : offB s u = true) :
    Calls Try.prog 26 #[.int .i64 s, .int .i64 u] w fun e w' => e = .returned (.tuple #[.int .i64 0, .bool false]) ∧ w = w' := by
  unfold offB at h
  rcases hF : rightB s with _ | _
  · clear h
    go_enter Try.func26, Try.ntmps26
    go_wp2_with (go_at_call 27; refine (refright_any _ _).mono ?_; rintro e w' ⟨rfl, rfl⟩)
    go_ret2
    exact ⟨rfl, rfl⟩
  · rw [hF] at h
    simp at h
    by_cases h1 : u ≤ -262144
    · have h2 : decide (u ≤ -262144) = true := by simpa using h1
      clear h
      go_enter Try.func26, Try.ntmps26
      go_wp2_with (go_at_call 27; refine (refright_any _ _).mono ?_; rintro e w' ⟨rfl, rfl⟩)
      go_ret2
      exact ⟨rfl, rfl⟩
    · have h2 : decide (u ≤ -262144) = false := by simpa using h1
      have h4 : 262144 < u := by omega
      have h3 : decide (262144 < u) = true := by simpa using h4
      clear h
      go_enter Try.func26, Try.ntmps26
      go_wp2_with (go_at_call 27; refine (refright_any _ _).mono ?_; rintro e w' ⟨rfl, rfl⟩)
      go_ret2
      exact ⟨rfl, rfl⟩
set_option maxHeartbeats 1000000 in
theorem refof_yes (s u : Int) (w : World) (h : offB s u = false) :
    Calls Try.prog 26 #[.int .i64 s, .int .i64 u] w fun e w' => e = .returned (.tuple #[.int .i64 (cl s u), .bool true]) ∧ w = w' := by
  obtain ⟨hF, h1, h2⟩ := off_parts h
  obtain ⟨d1, d2⟩ := cl_bd hF h1 h2
  have h3 : decide (u ≤ -262144) = false := by simpa using h1
  have h4 : decide (262144 < u) = false := by simpa using h2
  have hw := uw_bd hF
  obtain ⟨p1, p2⟩ := hw
  have HF := Lib.hid hF
  have HU := Lib.hid (show ∀ i, un s i < u ↔ i < cl s u from fun i => un_lt hF)
  obtain ⟨m1, m2⟩ := un_bd (i := cl s u - 1) hF 262144 (by omega) (by omega)
  have g2 : decide (u ≤ un s (cl s u - 1)) = false := by
    have := (HU.out (cl s u - 1)).2 (by omega)
    simp; omega
  clear h
  by_cases hu : 0 ≤ u
  · obtain ⟨q1, q2⟩ := div_le_cl hF hu
    go_enter Try.func26, Try.ntmps26
    go_wp2_with (first | (go_at_call 27; refine (refright_any _ _).mono ?_; rintro e w' ⟨rfl, rfl⟩) | (go_at_call 47; refine (refstep_any _ _ HF.out).mono ?_; rintro e w' ⟨rfl, rfl⟩))
    go_loop [6] (fun i => ∃ j : Int, i = .int .i64 j ∧ -1073741824 ≤ j ∧ j ≤ cl s u) (fun i => (cl s u - intOf i).toNat)
    case atStart => exact ⟨_, rfl, by omega, q1⟩
    case round =>
      obtain ⟨j, rfl, hj0, hj1⟩ := hrel
      clear q1 q2
      obtain ⟨n1, n2⟩ := un_bd (i := j) HF.out 1073741824 (by omega) (by omega)
      by_cases hlt : j < cl s u
      · have g1 := (HU.out j).2 hlt
        have g3 : decide (un s j < u) = true := by simpa using g1
        go_wp2_with (go_at_call 28; refine (refunits_yes _ _ _ HF.out (by omega) (by omega)).mono ?_; rintro e w' ⟨rfl, rfl⟩)
        go_round
        case rel => exact ⟨_, rfl, by omega, by omega⟩
        case measure => simp [intOf]; omega
      · obtain rfl : j = cl s u := by omega
        have g1 : ¬ un s (cl s u) < u := fun h => hlt ((HU.out _).1 h)
        have g3 : decide (un s (cl s u) < u) = false := by simpa using g1
        clear hlt
        go_wp2_with (go_at_call 28; refine (refunits_yes _ _ _ HF.out (by omega) (by omega)).mono ?_; rintro e w' ⟨rfl, rfl⟩)
        go_loop [6] (fun i => i = .int .i64 (cl s u)) (fun _ => 0)
        case atStart => rfl
        case round =>
          subst hrel
          go_wp2_with (go_at_call 28; refine (refunits_yes _ _ _ HF.out (by omega) (by omega)).mono ?_; rintro e w' ⟨rfl, rfl⟩)
          go_ret2
          exact ⟨rfl, rfl⟩
  · have q0 := tdiv_le_cl hF (show u < 0 by omega)
    have q1 : u.tdiv (uw s) ≤ cl s u ∧ -262144 * 4096 ≤ u.tdiv (uw s) := by omega
    obtain ⟨q1, q2⟩ := q1
    clear q0
    go_enter Try.func26, Try.ntmps26
    go_wp2_with (first | (go_at_call 27; refine (refright_any _ _).mono ?_; rintro e w' ⟨rfl, rfl⟩) | (go_at_call 47; refine (refstep_any _ _ HF.out).mono ?_; rintro e w' ⟨rfl, rfl⟩))
    go_loop [6] (fun i => ∃ j : Int, i = .int .i64 j ∧ -1073741824 ≤ j ∧ j ≤ cl s u) (fun i => (cl s u - intOf i).toNat)
    case atStart => exact ⟨_, rfl, by omega, q1⟩
    case round =>
      obtain ⟨j, rfl, hj0, hj1⟩ := hrel
      clear q1 q2
      obtain ⟨n1, n2⟩ := un_bd (i := j) HF.out 1073741824 (by omega) (by omega)
      by_cases hlt : j < cl s u
      · have g1 := (HU.out j).2 hlt
        have g3 : decide (un s j < u) = true := by simpa using g1
        go_wp2_with (go_at_call 28; refine (refunits_yes _ _ _ HF.out (by omega) (by omega)).mono ?_; rintro e w' ⟨rfl, rfl⟩)
        go_round
        case rel => exact ⟨_, rfl, by omega, by omega⟩
        case measure => simp [intOf]; omega
      · obtain rfl : j = cl s u := by omega
        have g1 : ¬ un s (cl s u) < u := fun h => hlt ((HU.out _).1 h)
        have g3 : decide (un s (cl s u) < u) = false := by simpa using g1
        clear hlt
        go_wp2_with (go_at_call 28; refine (refunits_yes _ _ _ HF.out (by omega) (by omega)).mono ?_; rintro e w' ⟨rfl, rfl⟩)
        go_loop [6] (fun i => i = .int .i64 (cl s u)) (fun _ => 0)
        case atStart => rfl
        case round =>
          subst hrel
          go_wp2_with (go_at_call 28; refine (refunits_yes _ _ _ HF.out (by omega) (by omega)).mono ?_; rintro e w' ⟨rfl, rfl⟩)
          go_ret2
          exact ⟨rfl, rfl⟩
end Go.Proofs.Ytlebgbigbiaanaa
