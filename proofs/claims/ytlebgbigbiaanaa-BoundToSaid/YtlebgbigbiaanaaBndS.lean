/- Contracts of the document's To and Has, and the law BoundTo's walk. -/
import Derived.Test.YtlebgbigbiaanaaBndR
import Derived.Lib.QuietBelow
import Derived.BigQuiet
namespace Go.Proofs.Ytlebgbigbiaanaa
open Go.RowKit Go.Sort
set_option linter.unusedVariables false

theorem hasB_parts {a s i b t k : Int} (h : hasB a s i b t k = true) : a = b ∧ okTo t s = true ∧ inB t k = true ∧ i = toV t s k := by
  unfold hasB at h
  simpa using h
theorem hasB_in {a s i b t k : Int} (h : hasB a s i b t k = true) : a = b ∧ inB s i = true ∧ inB t k = true ∧ un s (i - 1) ≤ un t (k - 1) ∧ un t k ≤ un s i := by
  obtain ⟨h1, h2, h3, h4⟩ := hasB_parts h
  obtain ⟨RT, RS, hst⟩ := ok_parts h2
  obtain ⟨q1, q2⟩ := (in_iff RT).1 h3
  have e := to_cl (i := k) RT RS hst
  rw [e] at h4
  obtain ⟨c1, c2⟩ := cl_bounds RS (un t k)
  rw [← h4] at c1 c2
  refine ⟨h1, by rw [h4]; exact cl_in RS q1 q2, h3, ?_, c2⟩
  have hm := uw_mul RT RS hst
  have hU := (uw_bd RT).1
  unfold un at c1 ⊢
  rw [← hm, ← Int.mul_assoc] at c1 ⊢
  have h5 := Int.lt_of_mul_lt_mul_right c1 (by omega)
  exact Int.mul_le_mul_of_nonneg_right (by omega) (by omega)
theorem uw_le {s t : Int} (hs : rightB s = true) (ht : rightB t = true) (h : uw t ≤ uw s) : s ≤ t := by
  have a := schemas hs
  obtain ⟨u1, u2, u3, u4, u5, u6, u7, u8, u9, v1, v2, v3, v4⟩ := uw_at
  rcases schemas ht with rfl | rfl | rfl | rfl | rfl | rfl | rfl | rfl | rfl | rfl | rfl | rfl | rfl <;>
    (rcases a with rfl | rfl | rfl | rfl | rfl | rfl | rfl | rfl | rfl | rfl | rfl | rfl | rfl <;> omega)
theorem hasB_of {a s i t k : Int} (hs : inB s i = true) (ht : inB t k = true) (h1 : un s (i - 1) ≤ un t (k - 1)) (h2 : un t k ≤ un s i) : hasB a s i a t k = true := by
  have RS : rightB s = true := by
    rcases hR : rightB s with _ | _
    · rw [in_not hR] at hs; cases hs
    · rfl
  have RT : rightB t = true := by
    rcases hR : rightB t with _ | _
    · rw [in_not hR] at ht; cases ht
    · rfl
  have hle : s ≤ t := uw_le RS RT (by rw [un_pred, un_pred] at h1; omega)
  have hU := uw_bd RT
  have e := to_cl (i := k) RT RS hle
  have h3 : un s (i - 1) < un t k := by rw [un_pred t k] at h1; omega
  have h4 : i - 1 < cl s (un t k) := (un_lt RS).1 h3
  have h5 : ¬ i < cl s (un t k) := fun h => by have := (un_lt RS).2 h; omega
  have h6 : i = toV t s k := by rw [e]; omega
  unfold hasB okTo
  rw [RS, RT, ht, decide_eq_true h6, decide_eq_true hle]
  simp

theorem refto_any (f t i : Int) (w : World) :
    Calls Try.prog 38 #[.int .i64 f, .int .i64 t, .int .i64 i] w fun e w' => e = .returned (.tuple #[.int .i64 (toI f t i), .int .i64 (toE f t i)]) ∧ w = w' := by
  rcases ho : okTo f t with _ | _
  · have e1 : toI f t i = 0 := by unfold toI; rw [if_neg (by rw [ho]; simp)]
    have e2 : toE f t i = 20 := by unfold toE; rw [if_neg (by rw [ho]; simp)]
    rw [e1, e2]
    clear e1 e2
    unfold okTo at ho
    rcases hF : rightB f with _ | _
    · clear ho
      go_enter Try.func38, Try.ntmps38
      go_wp2_with (go_at_call 27; ((with_reducible refine (refright_any _ _).mono ?_); rintro e w' ⟨rfl, rfl⟩))
      go_ret2
      exact ⟨rfl, rfl⟩
    · rcases hT : rightB t with _ | _
      · clear ho
        go_enter Try.func38, Try.ntmps38
        go_wp2_with (go_at_call 27; ((with_reducible refine (refright_any _ _).mono ?_); rintro e w' ⟨rfl, rfl⟩))
        go_ret2
        exact ⟨rfl, rfl⟩
      · rw [hF, hT, Bool.true_and, Bool.true_and, decide_eq_false_iff_not] at ho
        have h1 : decide (f < t) = true := by simp; omega
        have h2 : f < t := by omega
        clear ho
        go_enter Try.func38, Try.ntmps38
        go_wp2_with (go_at_call 27; ((with_reducible refine (refright_any _ _).mono ?_); rintro e w' ⟨rfl, rfl⟩))
        go_ret2
        exact ⟨rfl, rfl⟩
  · obtain ⟨hF, hT, h1⟩ := ok_parts ho
    have h2 : decide (f < t) = false := by simp; omega
    rcases hi : inB f i with _ | _
    · have e1 : toI f t i = 0 := by unfold toI; rw [if_neg (by rw [hi]; simp)]
      have e2 : toE f t i = 4 := by unfold toE; rw [if_pos ho, if_neg (by rw [hi]; simp)]
      rw [e1, e2]
      clear e1 e2 ho
      go_enter Try.func38, Try.ntmps38
      go_wp2_with (first | (go_at_call 27; ((with_reducible refine (refright_any _ _).mono ?_); rintro e w' ⟨rfl, rfl⟩)) | (go_at_call 31; ((with_reducible refine (refin_any _ _ _).mono ?_); rintro e w' ⟨rfl, rfl⟩)))
      go_ret2
      exact ⟨rfl, rfl⟩
    · have e1 : toI f t i = toV f t i := by unfold toI; rw [if_pos ⟨ho, hi⟩]
      have e2 : toE f t i = 0 := by unfold toE; rw [if_pos ho, if_pos hi]
      rw [e1, e2, to_cl hF hT h1]
      obtain ⟨q1, q2⟩ := (in_iff hF).1 hi
      have HO := Lib.hid (show offB t (un f i) = false by unfold offB; rw [hT]; simp; omega)
      have HF := Lib.hid hF
      clear e1 e2 ho
      go_enter Try.func38, Try.ntmps38
      go_wp2_with (first | (go_at_call 27; ((with_reducible refine (refright_any _ _).mono ?_); rintro e w' ⟨rfl, rfl⟩)) | (go_at_call 31; ((with_reducible refine (refin_any _ _ _).mono ?_); rintro e w' ⟨rfl, rfl⟩)) | (go_at_call 28; ((with_reducible refine (refunits_yes _ _ _ HF.out (by omega) (by omega)).mono ?_); rintro e w' ⟨rfl, rfl⟩)) | (go_at_call 26; ((with_reducible refine (refof_yes _ _ _ HO.out).mono ?_); rintro e w' ⟨rfl, rfl⟩)))
      go_ret2
      exact ⟨rfl, rfl⟩
set_option maxHeartbeats 1000000 in
theorem refhas_side (a b s i t k : Int) (w : World) (i1 : -1099511627776 ≤ i) (i2 : i ≤ 1099511627776) (k1 : -1099511627776 ≤ k) (k2 : k ≤ 1099511627776) (h : (a == b) = false) :
    Calls Try.prog 40 #[.int .i64 a, .int .i64 b, .int .i64 s, .int .i64 i, .int .i64 t, .int .i64 k] w fun e w' => e = .returned (.bool (hasB a s i b t k)) ∧ w = w' := by
  have hE := Lib.hid (show false = hasB a s i b t k by
    rcases hB : hasB a s i b t k with _ | _
    · rfl
    · exact absurd (hasB_in hB).1 (by simpa using h))
  go_enter Try.func40, Try.ntmps40
  go_wp2_with (first | (go_at_call 31; ((with_reducible refine (refin_any _ _ _).mono ?_); rintro e w' ⟨rfl, rfl⟩)))
  go_ret
  exact ⟨ret_bool hE.out, rfl⟩
set_option maxHeartbeats 1000000 in
theorem refhas_in1 (a b s i t k : Int) (w : World) (i1 : -1099511627776 ≤ i) (i2 : i ≤ 1099511627776) (k1 : -1099511627776 ≤ k) (k2 : k ≤ 1099511627776) (h : (a == b) = true) (h1 : inB s i = false) :
    Calls Try.prog 40 #[.int .i64 a, .int .i64 b, .int .i64 s, .int .i64 i, .int .i64 t, .int .i64 k] w fun e w' => e = .returned (.bool (hasB a s i b t k)) ∧ w = w' := by
  have hE := Lib.hid (show false = hasB a s i b t k by
    rcases hB : hasB a s i b t k with _ | _
    · rfl
    · exact absurd (hasB_in hB).2.1 (by rw [h1]; simp))
  go_enter Try.func40, Try.ntmps40
  go_wp2_with (first | (go_at_call 31; ((with_reducible refine (refin_any _ _ _).mono ?_); rintro e w' ⟨rfl, rfl⟩)))
  go_ret
  exact ⟨ret_bool hE.out, rfl⟩
set_option maxHeartbeats 1000000 in
theorem refhas_in2 (a b s i t k : Int) (w : World) (i1 : -1099511627776 ≤ i) (i2 : i ≤ 1099511627776) (k1 : -1099511627776 ≤ k) (k2 : k ≤ 1099511627776) (h : (a == b) = true) (h1 : inB s i = true) (h2 : inB t k = false) :
    Calls Try.prog 40 #[.int .i64 a, .int .i64 b, .int .i64 s, .int .i64 i, .int .i64 t, .int .i64 k] w fun e w' => e = .returned (.bool (hasB a s i b t k)) ∧ w = w' := by
  have hE := Lib.hid (show false = hasB a s i b t k by
    rcases hB : hasB a s i b t k with _ | _
    · rfl
    · exact absurd (hasB_in hB).2.2.1 (by rw [h2]; simp))
  go_enter Try.func40, Try.ntmps40
  go_wp2_with (first | (go_at_call 31; ((with_reducible refine (refin_any _ _ _).mono ?_); rintro e w' ⟨rfl, rfl⟩)))
  go_ret
  exact ⟨ret_bool hE.out, rfl⟩
set_option maxHeartbeats 1000000 in
theorem refhas_low (a b s i t k : Int) (w : World) (i1 : -1099511627776 ≤ i) (i2 : i ≤ 1099511627776) (k1 : -1099511627776 ≤ k) (k2 : k ≤ 1099511627776) (h : (a == b) = true) (h1 : inB s i = true) (h2 : inB t k = true) (h3 : ¬ un s (i - 1) ≤ un t (k - 1)) :
    Calls Try.prog 40 #[.int .i64 a, .int .i64 b, .int .i64 s, .int .i64 i, .int .i64 t, .int .i64 k] w fun e w' => e = .returned (.bool (hasB a s i b t k)) ∧ w = w' := by
  have RS : Hid (rightB s = true) := by
    rcases hR : rightB s with _ | _
    · rw [in_not hR] at h1; cases h1
    · exact Lib.hid rfl
  have RT : Hid (rightB t = true) := by
    rcases hR : rightB t with _ | _
    · rw [in_not hR] at h2; cases h2
    · exact Lib.hid rfl
  obtain ⟨n1, n2⟩ := un_bd (i := i) RS.out 1099511627777 (by omega) (by omega)
  obtain ⟨n3, n4⟩ := un_bd (i := i - 1) RS.out 1099511627777 (by omega) (by omega)
  obtain ⟨n5, n6⟩ := un_bd (i := k) RT.out 1099511627777 (by omega) (by omega)
  obtain ⟨n7, n8⟩ := un_bd (i := k - 1) RT.out 1099511627777 (by omega) (by omega)
  have d3 : decide (un s (i - 1) ≤ un t (k - 1)) = false := by simpa using h3
  have hE := Lib.hid (show false = hasB a s i b t k by
    rcases hB : hasB a s i b t k with _ | _
    · rfl
    · exact absurd (hasB_in hB).2.2.2.1 h3)
  go_enter Try.func40, Try.ntmps40
  go_wp2_with (first | (go_at_call 31; ((with_reducible refine (refin_any _ _ _).mono ?_); rintro e w' ⟨rfl, rfl⟩)) | (go_at_call 28; first | ((with_reducible refine (refunits_yes _ _ _ RS.out (by omega) (by omega)).mono ?_); rintro e w' ⟨rfl, rfl⟩) | ((with_reducible refine (refunits_yes _ _ _ RT.out (by omega) (by omega)).mono ?_); rintro e w' ⟨rfl, rfl⟩)))
  go_ret
  exact ⟨ret_bool hE.out, rfl⟩
set_option maxHeartbeats 1000000 in
theorem refhas_end (a b s i t k : Int) (w : World) (i1 : -1099511627776 ≤ i) (i2 : i ≤ 1099511627776) (k1 : -1099511627776 ≤ k) (k2 : k ≤ 1099511627776) (h : (a == b) = true) (h1 : inB s i = true) (h2 : inB t k = true) (h3 : un s (i - 1) ≤ un t (k - 1)) :
    Calls Try.prog 40 #[.int .i64 a, .int .i64 b, .int .i64 s, .int .i64 i, .int .i64 t, .int .i64 k] w fun e w' => e = .returned (.bool (hasB a s i b t k)) ∧ w = w' := by
  have RS : Hid (rightB s = true) := by
    rcases hR : rightB s with _ | _
    · rw [in_not hR] at h1; cases h1
    · exact Lib.hid rfl
  have RT : Hid (rightB t = true) := by
    rcases hR : rightB t with _ | _
    · rw [in_not hR] at h2; cases h2
    · exact Lib.hid rfl
  obtain ⟨n1, n2⟩ := un_bd (i := i) RS.out 1099511627777 (by omega) (by omega)
  obtain ⟨n3, n4⟩ := un_bd (i := i - 1) RS.out 1099511627777 (by omega) (by omega)
  obtain ⟨n5, n6⟩ := un_bd (i := k) RT.out 1099511627777 (by omega) (by omega)
  obtain ⟨n7, n8⟩ := un_bd (i := k - 1) RT.out 1099511627777 (by omega) (by omega)
  have d3 : decide (un s (i - 1) ≤ un t (k - 1)) = true := by simpa using h3
  have hE := Lib.hid (show decide (un t k ≤ un s i) = hasB a s i b t k by
    by_cases h4 : un t k ≤ un s i
    · obtain rfl : a = b := by simpa using h
      rw [decide_eq_true h4, hasB_of h1 h2 h3 h4]
    · rw [decide_eq_false h4]
      rcases hB : hasB a s i b t k with _ | _
      · rfl
      · exact absurd (hasB_in hB).2.2.2.2 h4)
  go_enter Try.func40, Try.ntmps40
  go_wp2_with (first | (go_at_call 31; ((with_reducible refine (refin_any _ _ _).mono ?_); rintro e w' ⟨rfl, rfl⟩)) | (go_at_call 28; first | ((with_reducible refine (refunits_yes _ _ _ RS.out (by omega) (by omega)).mono ?_); rintro e w' ⟨rfl, rfl⟩) | ((with_reducible refine (refunits_yes _ _ _ RT.out (by omega) (by omega)).mono ?_); rintro e w' ⟨rfl, rfl⟩)))
  go_ret
  exact ⟨ret_bool hE.out, rfl⟩
theorem refhas_any (a b s i t k : Int) (w : World) (i1 : -1099511627776 ≤ i) (i2 : i ≤ 1099511627776) (k1 : -1099511627776 ≤ k) (k2 : k ≤ 1099511627776) :
    Calls Try.prog 40 #[.int .i64 a, .int .i64 b, .int .i64 s, .int .i64 i, .int .i64 t, .int .i64 k] w fun e w' => e = .returned (.bool (hasB a s i b t k)) ∧ w = w' := by
  rcases h : (a == b) with _ | _
  · exact refhas_side a b s i t k w i1 i2 k1 k2 h
  rcases h1 : inB s i with _ | _
  · exact refhas_in1 a b s i t k w i1 i2 k1 k2 h h1
  rcases h2 : inB t k with _ | _
  · exact refhas_in2 a b s i t k w i1 i2 k1 k2 h h1 h2
  by_cases h3 : un s (i - 1) ≤ un t (k - 1)
  · exact refhas_end a b s i t k w i1 i2 k1 k2 h h1 h2 h3
  · exact refhas_low a b s i t k w i1 i2 k1 k2 h h1 h2 h3
end Go.Proofs.Ytlebgbigbiaanaa
