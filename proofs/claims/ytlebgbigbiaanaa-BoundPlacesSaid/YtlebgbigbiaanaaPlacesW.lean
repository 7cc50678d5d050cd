/- The law BoundPlaces' walk: for every three int64 it returns true; memory is left as it was. -/
import Derived.Test.YtlebgbigbiaanaaBndR
namespace Go.Proofs.Ytlebgbigbiaanaa
open Go.RowKit
set_option linter.unusedVariables false

theorem most_pos {s : Int} (h : rightB s = true) : 64 ≤ mostV s := by
  unfold mostV
  rw [if_pos h]
  rcases uw_cases h with e | e | e | e | e | e | e | e | e | e | e | e | e <;> rw [e] <;> omega
theorem in_ends {s : Int} (h : rightB s = true) : inB s (leastV s) = true ∧ inB s (leastV s - 1) = false ∧ inB s (mostV s) = true ∧ inB s (mostV s + 1) = false := by
  have := most_pos h
  unfold inB leastV
  rw [decide_eq_true_eq, decide_eq_true_eq, decide_eq_false_iff_not, decide_eq_false_iff_not]
  omega
theorem whole_rem {s : Int} (h : rightB s = true) (u : Int) : (u.tmod (un s 1) == 0) = wholeB s u := by
  have b := uw_bd h
  unfold wholeB
  rw [h, Bool.true_and, un_one, Bool.eq_iff_iff, beq_iff_eq, decide_eq_true_eq]
  unfold un
  constructor
  · intro h1
    exact Int.ediv_mul_cancel (Int.dvd_of_tmod_eq_zero h1)
  · intro h1
    exact Int.tmod_eq_zero_of_dvd ⟨u / uw s, by rw [Int.mul_comm]; exact h1.symm⟩
theorem whole_not {s : Int} (h : rightB s = false) (u : Int) : wholeB s u = false := by unfold wholeB; rw [h]; rfl
theorem off_not {s : Int} (h : rightB s = false) (u : Int) : offB s u = true := by unfold offB; rw [h]; rfl

set_option maxHeartbeats 2000000 in
set_option maxRecDepth 100000 in
theorem places_low (s i u : Int) (w : World) (s1 : -9223372036854775808 ≤ s) (s2 : s ≤ 9223372036854775807) (i1 : -9223372036854775808 ≤ i) (i2 : i ≤ 9223372036854775807) (u1 : -9223372036854775808 ≤ u) (u2 : u ≤ 9223372036854775807) (h : i < -1099511627776) :
    Calls Try.prog 8 #[.int .i64 s, .int .i64 i, .int .i64 u] w fun e w' => e = .returned (.bool true) ∧ w = w' := by
  have d : decide (i < -1099511627776) = true := by simpa using h
  go_enter Try.func8, Try.ntmps8
  go_wp2_with (first | (go_at_call 24; ((with_reducible refine (awake04 _).mono ?_); rintro e w' ⟨rfl, rfl⟩)))
  go_ret
  exact ⟨rfl, rfl⟩
set_option maxHeartbeats 2000000 in
set_option maxRecDepth 100000 in
theorem places_high (s i u : Int) (w : World) (s1 : -9223372036854775808 ≤ s) (s2 : s ≤ 9223372036854775807) (i1 : -9223372036854775808 ≤ i) (i2 : i ≤ 9223372036854775807) (u1 : -9223372036854775808 ≤ u) (u2 : u ≤ 9223372036854775807) (h : 1099511627776 < i) :
    Calls Try.prog 8 #[.int .i64 s, .int .i64 i, .int .i64 u] w fun e w' => e = .returned (.bool true) ∧ w = w' := by
  have d0 : decide (i < -1099511627776) = false := by simp; omega
  have d : decide (1099511627776 < i) = true := by simpa using h
  go_enter Try.func8, Try.ntmps8
  go_wp2_with (first | (go_at_call 24; ((with_reducible refine (awake04 _).mono ?_); rintro e w' ⟨rfl, rfl⟩)))
  go_ret
  exact ⟨rfl, rfl⟩
set_option maxHeartbeats 2000000 in
set_option maxRecDepth 100000 in
theorem places_none (s i u : Int) (w : World) (s1 : -9223372036854775808 ≤ s) (s2 : s ≤ 9223372036854775807) (i1 : -9223372036854775808 ≤ i) (i2 : i ≤ 9223372036854775807) (u1 : -9223372036854775808 ≤ u) (u2 : u ≤ 9223372036854775807) (h1 : -1099511627776 ≤ i) (h2 : i ≤ 1099511627776) (hF : rightB s = false) :
    Calls Try.prog 8 #[.int .i64 s, .int .i64 i, .int .i64 u] w fun e w' => e = .returned (.bool true) ∧ w = w' := by
  have d0 : decide (i < -1099511627776) = false := by simp; omega
  have d1 : decide (1099511627776 < i) = false := by simp; omega
  have HF := Lib.hid hF
  have HO := Lib.hid (off_not hF u)
  have e1 : (leastV s != 1) = false := by unfold leastV mostV; rw [hF]; rfl
  have e2 : (mostV s != 0) = false := by unfold mostV; rw [hF]; rfl
  have e3 := whole_not hF u
  go_enter Try.func8, Try.ntmps8
  go_wp2_with (first | (go_at_call 24; ((with_reducible refine (awake04 _).mono ?_); rintro e w' ⟨rfl, rfl⟩)) | (go_at_call 32; ((with_reducible refine (right_any _ _).mono ?_); rintro e w' ⟨rfl, rfl⟩)) | (go_at_call 27; ((with_reducible refine (refright_any _ _).mono ?_); rintro e w' ⟨rfl, rfl⟩)) | (go_at_call 35; ((with_reducible refine (in_any _ _ _).mono ?_); rintro e w' ⟨rfl, rfl⟩)) | (go_at_call 31; ((with_reducible refine (refin_any _ _ _).mono ?_); rintro e w' ⟨rfl, rfl⟩)) | (go_at_call 29; ((with_reducible refine (least_any _ _).mono ?_); rintro e w' ⟨rfl, rfl⟩)) | (go_at_call 30; ((with_reducible refine (most_any _ _).mono ?_); rintro e w' ⟨rfl, rfl⟩)) | (go_at_call 36; ((with_reducible refine (whole_any _ _ _ (by omega) (by omega)).mono ?_); rintro e w' ⟨rfl, rfl⟩)) | (go_at_call 33; ((with_reducible refine (units_no _ _ _ HF.out).mono ?_); rintro e w' ⟨rfl, rfl⟩)) | (go_at_call 28; ((with_reducible refine (refunits_no _ _ _ HF.out).mono ?_); rintro e w' ⟨rfl, rfl⟩)) | (go_at_call 34; ((with_reducible refine (low_no _ _ _ HF.out (by omega) (by omega)).mono ?_); rintro e w' ⟨rfl, rfl⟩)) | (go_at_call 25; ((with_reducible refine (of_no _ _ _ HO.out).mono ?_); rintro e w' ⟨rfl, rfl⟩)) | (go_at_call 26; ((with_reducible refine (refof_no _ _ _ HO.out).mono ?_); rintro e w' ⟨rfl, rfl⟩)))
  go_ret
  exact ⟨rfl, rfl⟩
set_option maxHeartbeats 2000000 in
set_option maxRecDepth 100000 in
theorem places_off (s i u : Int) (w : World) (s1 : -9223372036854775808 ≤ s) (s2 : s ≤ 9223372036854775807) (i1 : -9223372036854775808 ≤ i) (i2 : i ≤ 9223372036854775807) (u1 : -9223372036854775808 ≤ u) (u2 : u ≤ 9223372036854775807) (h1 : -1099511627776 ≤ i) (h2 : i ≤ 1099511627776) (hF : rightB s = true) (HO : Hid (offB s u = true)) :
    Calls Try.prog 8 #[.int .i64 s, .int .i64 i, .int .i64 u] w fun e w' => e = .returned (.bool true) ∧ w = w' := by
  have d0 : decide (i < -1099511627776) = false := by simp; omega
  have d1 : decide (1099511627776 < i) = false := by simp; omega
  have HF := Lib.hid hF
  obtain ⟨t1, t2, t3, t4⟩ := in_ends hF
  have e3 := whole_rem hF u
  obtain ⟨q1, q2⟩ := uw_bd hF
  have q3 := un_one s
  have p1 : 1 ≤ un s 1 := by omega
  have p2 : un s 1 ≤ 4096 := by omega
  clear q1 q2 q3
  obtain ⟨n1, n2⟩ := un_bd (i := i) hF 1099511627777 (by omega) (by omega)
  obtain ⟨n3, n4⟩ := un_bd (i := i - 1) hF 1099511627777 (by omega) (by omega)
  obtain ⟨m1, m2⟩ := most_bd s
  have l4 : leastV s ≤ 1 := by unfold leastV; omega
  have l5 : -262144 ≤ leastV s := by unfold leastV; omega
  go_enter Try.func8, Try.ntmps8
  go_wp2_with (first | (go_at_call 24; ((with_reducible refine (awake04 _).mono ?_); rintro e w' ⟨rfl, rfl⟩)) | (go_at_call 32; ((with_reducible refine (right_any _ _).mono ?_); rintro e w' ⟨rfl, rfl⟩)) | (go_at_call 27; ((with_reducible refine (refright_any _ _).mono ?_); rintro e w' ⟨rfl, rfl⟩)) | (go_at_call 35; ((with_reducible refine (in_any _ _ _).mono ?_); rintro e w' ⟨rfl, rfl⟩)) | (go_at_call 31; ((with_reducible refine (refin_any _ _ _).mono ?_); rintro e w' ⟨rfl, rfl⟩)) | (go_at_call 29; ((with_reducible refine (least_any _ _).mono ?_); rintro e w' ⟨rfl, rfl⟩)) | (go_at_call 30; ((with_reducible refine (most_any _ _).mono ?_); rintro e w' ⟨rfl, rfl⟩)) | (go_at_call 36; ((with_reducible refine (whole_any _ _ _ (by omega) (by omega)).mono ?_); rintro e w' ⟨rfl, rfl⟩)) | (go_at_call 33; ((with_reducible refine (units_yes _ _ _ HF.out (by omega) (by omega)).mono ?_); rintro e w' ⟨rfl, rfl⟩)) | (go_at_call 28; ((with_reducible refine (refunits_yes _ _ _ HF.out (by omega) (by omega)).mono ?_); rintro e w' ⟨rfl, rfl⟩)) | (go_at_call 34; ((with_reducible refine (low_yes _ _ _ HF.out (by omega) (by omega) (by omega) (by omega)).mono ?_); rintro e w' ⟨rfl, rfl⟩)) | (go_at_call 25; ((with_reducible refine (of_no _ _ _ HO.out).mono ?_); rintro e w' ⟨rfl, rfl⟩)) | (go_at_call 26; ((with_reducible refine (refof_no _ _ _ HO.out).mono ?_); rintro e w' ⟨rfl, rfl⟩)))
  go_ret
  exact ⟨rfl, rfl⟩
set_option maxHeartbeats 2000000 in
set_option maxRecDepth 100000 in
theorem places_on (s i u : Int) (w : World) (s1 : -9223372036854775808 ≤ s) (s2 : s ≤ 9223372036854775807) (i1 : -9223372036854775808 ≤ i) (i2 : i ≤ 9223372036854775807) (u1 : -9223372036854775808 ≤ u) (u2 : u ≤ 9223372036854775807) (h1 : -1099511627776 ≤ i) (h2 : i ≤ 1099511627776) (hF : rightB s = true) (HO : Hid (offB s u = false)) :
    Calls Try.prog 8 #[.int .i64 s, .int .i64 i, .int .i64 u] w fun e w' => e = .returned (.bool true) ∧ w = w' := by
  have d0 : decide (i < -1099511627776) = false := by simp; omega
  have d1 : decide (1099511627776 < i) = false := by simp; omega
  have HF := Lib.hid hF
  obtain ⟨t1, t2, t3, t4⟩ := in_ends hF
  have e3 := whole_rem hF u
  obtain ⟨q1, q2⟩ := uw_bd hF
  have q3 := un_one s
  have p1 : 1 ≤ un s 1 := by omega
  have p2 : un s 1 ≤ 4096 := by omega
  clear q1 q2 q3
  obtain ⟨n1, n2⟩ := un_bd (i := i) hF 1099511627777 (by omega) (by omega)
  obtain ⟨n3, n4⟩ := un_bd (i := i - 1) hF 1099511627777 (by omega) (by omega)
  obtain ⟨m1, m2⟩ := most_bd s
  have l4 : leastV s ≤ 1 := by unfold leastV; omega
  have l5 : -262144 ≤ leastV s := by unfold leastV; omega
  go_enter Try.func8, Try.ntmps8
  go_wp2_with (first | (go_at_call 24; ((with_reducible refine (awake04 _).mono ?_); rintro e w' ⟨rfl, rfl⟩)) | (go_at_call 32; ((with_reducible refine (right_any _ _).mono ?_); rintro e w' ⟨rfl, rfl⟩)) | (go_at_call 27; ((with_reducible refine (refright_any _ _).mono ?_); rintro e w' ⟨rfl, rfl⟩)) | (go_at_call 35; ((with_reducible refine (in_any _ _ _).mono ?_); rintro e w' ⟨rfl, rfl⟩)) | (go_at_call 31; ((with_reducible refine (refin_any _ _ _).mono ?_); rintro e w' ⟨rfl, rfl⟩)) | (go_at_call 29; ((with_reducible refine (least_any _ _).mono ?_); rintro e w' ⟨rfl, rfl⟩)) | (go_at_call 30; ((with_reducible refine (most_any _ _).mono ?_); rintro e w' ⟨rfl, rfl⟩)) | (go_at_call 36; ((with_reducible refine (whole_any _ _ _ (by omega) (by omega)).mono ?_); rintro e w' ⟨rfl, rfl⟩)) | (go_at_call 33; ((with_reducible refine (units_yes _ _ _ HF.out (by omega) (by omega)).mono ?_); rintro e w' ⟨rfl, rfl⟩)) | (go_at_call 28; ((with_reducible refine (refunits_yes _ _ _ HF.out (by omega) (by omega)).mono ?_); rintro e w' ⟨rfl, rfl⟩)) | (go_at_call 34; ((with_reducible refine (low_yes _ _ _ HF.out (by omega) (by omega) (by omega) (by omega)).mono ?_); rintro e w' ⟨rfl, rfl⟩)) | (go_at_call 25; ((with_reducible refine (of_yes _ _ _ HO.out).mono ?_); rintro e w' ⟨rfl, rfl⟩)) | (go_at_call 26; ((with_reducible refine (refof_yes _ _ _ HO.out).mono ?_); rintro e w' ⟨rfl, rfl⟩)))
  go_ret
  exact ⟨rfl, rfl⟩

theorem boundPlaces_walk (a0 : Int) (a1 : Int) (a2 : Int) (w0 : (Lit.int .i64 a0).wf = true) (w1 : (Lit.int .i64 a1).wf = true) (w2 : (Lit.int .i64 a2).wf = true) (w : World) :
    Calls Try.prog 8 #[.int .i64 a0, .int .i64 a1, .int .i64 a2] w fun e w' => e = .returned (.bool true) ∧ Grown w w' := by
  obtain ⟨b01, b02⟩ := bounds_i64 w0
  obtain ⟨b11, b12⟩ := bounds_i64 w1
  obtain ⟨b21, b22⟩ := bounds_i64 w2
  suffices h : Calls Try.prog 8 #[.int .i64 a0, .int .i64 a1, .int .i64 a2] w fun e w' => e = .returned (.bool true) ∧ w = w' from
    h.mono fun e w' h => ⟨h.1, h.2 ▸ Grown.refl w⟩
  by_cases h1 : a1 < -1099511627776
  · exact places_low a0 a1 a2 w b01 b02 b11 b12 b21 b22 h1
  by_cases h2 : 1099511627776 < a1
  · exact places_high a0 a1 a2 w b01 b02 b11 b12 b21 b22 h2
  rcases hF : rightB a0 with _ | _
  · exact places_none a0 a1 a2 w b01 b02 b11 b12 b21 b22 (by omega) (by omega) hF
  · rcases hO : offB a0 a2 with _ | _
    · exact places_on a0 a1 a2 w b01 b02 b11 b12 b21 b22 (by omega) (by omega) hF (Lib.hid hO)
    · exact places_off a0 a1 a2 w b01 b02 b11 b12 b21 b22 (by omega) (by omega) hF (Lib.hid hO)
end Go.Proofs.Ytlebgbigbiaanaa
