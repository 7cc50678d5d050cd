/- The law BoundOrders' walk: for every two int8 and every int32 it returns true; memory is left as it was but for new blocks. -/
import Derived.Test.YtlebgbigbiaanaaBndB
namespace Go.Proofs.Ytlebgbigbiaanaa
open Go.RowKit

theorem low_succ (s i : Int) (w : World) (R : rightB s = true) (hi1 : -1099511627776 ≤ i) (hi2 : i ≤ 1099511627776) :
    Calls Try.prog 34 #[.int .i64 s, .int .i64 (i + 1)] w fun e w' => e = .returned (.int .i64 (un s i)) ∧ w = w' := by
  obtain ⟨b1, b2⟩ := un_bd R 1099511627776 hi1 hi2
  have e : i + 1 - 1 = i := by omega
  refine (low_yes s (i + 1) w R (by omega) (by omega) (by rw [e]; omega) (by rw [e]; omega)).mono fun e w' h => ?_
  rw [show i + 1 - 1 = i by omega] at h
  exact h
theorem to_placed (s t u : Int) (w : World) (hs : rightB s = true) (ht : rightB t = true) (h : t ≤ s) (h1 : -262144 < u) (h2 : u ≤ 262144) :
    Calls Try.prog 37 #[.int .i64 s, .int .i64 t, .int .i64 (cl s u)] w fun e w' => e = .returned (.tuple #[.int .i64 (cl t u), .int .i64 0]) ∧ w = w' := by
  have ho : okTo s t = true := by unfold okTo; rw [hs, ht]; simpa using h
  have := to_yes s t (cl s u) w ho (cl_in hs h1 h2)
  rw [to_of hs ht h] at this
  exact this
theorem has_placed (s t u : Int) (w : World) (hs : rightB s = true) (ht : rightB t = true) (h : t ≤ s) (h1 : -262144 < u) (h2 : u ≤ 262144) :
    Calls Try.prog 39 #[.agg #[.int .i64 0, .int .i64 t, .int .i64 (cl t u)], .agg #[.int .i64 0, .int .i64 s, .int .i64 (cl s u)]] w fun e w' => e = .returned (.bool true) ∧ Below w.heap.size w w' := by
  have ho : okTo s t = true := by unfold okTo; rw [hs, ht]; simpa using h
  have e : hasB 0 t (cl t u) 0 s (cl s u) = true := by
    unfold hasB
    rw [ho, cl_in hs h1 h2, to_of hs ht h]
    simp
  have := has_any 0 t (cl t u) 0 s (cl s u) w
  rw [e] at this
  exact this

set_option maxRecDepth 100000 in
theorem orders_off (s t u : Int) (w : World) (s1 : -128 ≤ s) (s2 : s ≤ 127) (t1 : -128 ≤ t) (t2 : t ≤ 127) (u1 : -2147483648 ≤ u) (u2 : u ≤ 2147483647) (h : offB s u = true) :
    Calls Try.prog 11 #[.int .i8 s, .int .i8 t, .int .i32 u] w fun e w' => e = .returned (.bool true) ∧ Below w.heap.size w w' := by
  have H := Lib.hid h
  unfold offB at h
  rcases hF : rightB s with _ | _
  · clear h
    go_enter Try.func11, Try.ntmps11
    go_wp2_with (first | (go_at_call 25; refine (of_no _ _ _ H.out).mono ?_; rintro e w' ⟨rfl, rfl⟩) | (go_at_call 32; refine (right_any _ _).mono ?_; rintro e w' ⟨rfl, rfl⟩) | (go_at_call 24; refine (awake04 _).mono ?_; rintro e w' ⟨rfl, rfl⟩))
    go_ret
    exact ⟨rfl, Below.refl _ _⟩
  · rw [hF] at h
    simp at h
    by_cases h1 : u ≤ -262144
    · have h2 : decide (u ≤ -262144) = true := by simpa using h1
      clear h
      go_enter Try.func11, Try.ntmps11
      go_wp2_with (first | (go_at_call 25; refine (of_no _ _ _ H.out).mono ?_; rintro e w' ⟨rfl, rfl⟩) | (go_at_call 32; refine (right_any _ _).mono ?_; rintro e w' ⟨rfl, rfl⟩) | (go_at_call 24; refine (awake04 _).mono ?_; rintro e w' ⟨rfl, rfl⟩))
      go_ret
      exact ⟨rfl, Below.refl _ _⟩
    · have h2 : decide (u ≤ -262144) = false := by simpa using h1
      have h4 : 262144 < u := by omega
      have h3 : decide (262144 < u) = true := by simpa using h4
      clear h
      go_enter Try.func11, Try.ntmps11
      go_wp2_with (first | (go_at_call 25; refine (of_no _ _ _ H.out).mono ?_; rintro e w' ⟨rfl, rfl⟩) | (go_at_call 32; refine (right_any _ _).mono ?_; rintro e w' ⟨rfl, rfl⟩) | (go_at_call 24; refine (awake04 _).mono ?_; rintro e w' ⟨rfl, rfl⟩))
      go_ret
      exact ⟨rfl, Below.refl _ _⟩

set_option maxHeartbeats 400000 in
set_option maxRecDepth 100000 in
theorem orders_far (s t u : Int) (w : World) (s1 : -128 ≤ s) (s2 : s ≤ 127) (t1 : -128 ≤ t) (t2 : t ≤ 127) (u1 : -2147483648 ≤ u) (u2 : u ≤ 2147483647) (H : Hid (offB s u = false)) (HO : Hid (offB t u = true)) :
    Calls Try.prog 11 #[.int .i8 s, .int .i8 t, .int .i32 u] w fun e w' => e = .returned (.bool true) ∧ Below w.heap.size w w' := by
  obtain ⟨hF, h1, h2⟩ := off_parts H.out
  obtain ⟨c1, c2⟩ := cl_bounds hF u
  obtain ⟨d1, d2⟩ := cl_bd hF h1 h2
  obtain ⟨n1, n2⟩ := un_bd (i := cl s u) hF 262144 (by omega) (by omega)
  obtain ⟨m1, m2⟩ := un_bd (i := cl s u - 1) hF 262144 (by omega) (by omega)
  have HF := Lib.hid hF
  have HI := Lib.hid (cl_in hF h1 h2)
  have f1 : decide (u ≤ un s (cl s u - 1)) = false := by simp; omega
  have f2 : decide (un s (cl s u) < u) = false := by simp; omega
  have f3 : inB s (cl s u) = true := HI.out
  clear hF c1 c2
  go_enter Try.func11, Try.ntmps11
  go_wp2_with fail
  refine (of_yes _ _ _ H.out).mono ?_
  rintro e w' ⟨rfl, rfl⟩
  go_wp2_with (first | (go_at_call 25; ((with_reducible refine (of_no _ _ _ HO.out).mono ?_); rintro e w' ⟨rfl, rfl⟩)) | (go_at_call 34; first | ((with_reducible refine (low_succ _ _ _ HF.out (by omega) (by omega)).mono ?_); rintro e w' ⟨rfl, rfl⟩) | ((with_reducible refine (low_yes _ _ _ HF.out (by omega) (by omega) (by omega) (by omega)).mono ?_); rintro e w' ⟨rfl, rfl⟩)) | (go_at_call 33; ((with_reducible refine (units_yes _ _ _ HF.out (by omega) (by omega)).mono ?_); rintro e w' ⟨rfl, rfl⟩)) | (go_at_call 35; ((with_reducible refine (in_any _ _ _).mono ?_); rintro e w' ⟨rfl, rfl⟩)) | (go_at_call 24; ((with_reducible refine (awake04 _).mono ?_); rintro e w' ⟨rfl, rfl⟩)))
  go_ret
  exact ⟨rfl, Below.refl _ _⟩

set_option maxHeartbeats 400000 in
set_option maxRecDepth 100000 in
theorem orders_fine (s t u : Int) (w : World) (s1 : -128 ≤ s) (s2 : s ≤ 127) (t1 : -128 ≤ t) (t2 : t ≤ 127) (u1 : -2147483648 ≤ u) (u2 : u ≤ 2147483647) (H : Hid (offB s u = false)) (HO : Hid (offB t u = false)) (hst : s < t) :
    Calls Try.prog 11 #[.int .i8 s, .int .i8 t, .int .i32 u] w fun e w' => e = .returned (.bool true) ∧ Below w.heap.size w w' := by
  obtain ⟨hF, h1, h2⟩ := off_parts H.out
  obtain ⟨c1, c2⟩ := cl_bounds hF u
  obtain ⟨d1, d2⟩ := cl_bd hF h1 h2
  obtain ⟨n1, n2⟩ := un_bd (i := cl s u) hF 262144 (by omega) (by omega)
  obtain ⟨m1, m2⟩ := un_bd (i := cl s u - 1) hF 262144 (by omega) (by omega)
  have HF := Lib.hid hF
  have HI := Lib.hid (cl_in hF h1 h2)
  have f1 : decide (u ≤ un s (cl s u - 1)) = false := by simp; omega
  have f2 : decide (un s (cl s u) < u) = false := by simp; omega
  have f3 : inB s (cl s u) = true := HI.out
  clear hF c1 c2
  have f4 : decide (s < t) = true := by simp; omega
  go_enter Try.func11, Try.ntmps11
  go_wp2_with fail
  refine (of_yes _ _ _ H.out).mono ?_
  rintro e w' ⟨rfl, rfl⟩
  go_wp2_with (first | (go_at_call 25; ((with_reducible refine (of_yes _ _ _ HO.out).mono ?_); rintro e w' ⟨rfl, rfl⟩)) | (go_at_call 34; first | ((with_reducible refine (low_succ _ _ _ HF.out (by omega) (by omega)).mono ?_); rintro e w' ⟨rfl, rfl⟩) | ((with_reducible refine (low_yes _ _ _ HF.out (by omega) (by omega) (by omega) (by omega)).mono ?_); rintro e w' ⟨rfl, rfl⟩)) | (go_at_call 33; ((with_reducible refine (units_yes _ _ _ HF.out (by omega) (by omega)).mono ?_); rintro e w' ⟨rfl, rfl⟩)) | (go_at_call 35; ((with_reducible refine (in_any _ _ _).mono ?_); rintro e w' ⟨rfl, rfl⟩)) | (go_at_call 24; ((with_reducible refine (awake04 _).mono ?_); rintro e w' ⟨rfl, rfl⟩)))
  go_ret
  exact ⟨rfl, Below.refl _ _⟩

set_option maxHeartbeats 400000 in
set_option maxRecDepth 100000 in
theorem orders_some (s t u : Int) (w : World) (s1 : -128 ≤ s) (s2 : s ≤ 127) (t1 : -128 ≤ t) (t2 : t ≤ 127) (u1 : -2147483648 ≤ u) (u2 : u ≤ 2147483647) (H : Hid (offB s u = false)) (HO : Hid (offB t u = false)) (hst : t ≤ s) (hW : wholeB t u = false) :
    Calls Try.prog 11 #[.int .i8 s, .int .i8 t, .int .i32 u] w fun e w' => e = .returned (.bool true) ∧ Below w.heap.size w w' := by
  obtain ⟨hF, h1, h2⟩ := off_parts H.out
  obtain ⟨c1, c2⟩ := cl_bounds hF u
  obtain ⟨d1, d2⟩ := cl_bd hF h1 h2
  obtain ⟨n1, n2⟩ := un_bd (i := cl s u) hF 262144 (by omega) (by omega)
  obtain ⟨m1, m2⟩ := un_bd (i := cl s u - 1) hF 262144 (by omega) (by omega)
  have HF := Lib.hid hF
  have HI := Lib.hid (cl_in hF h1 h2)
  have f1 : decide (u ≤ un s (cl s u - 1)) = false := by simp; omega
  have f2 : decide (un s (cl s u) < u) = false := by simp; omega
  have f3 : inB s (cl s u) = true := HI.out
  clear hF c1 c2
  have HT := Lib.hid (off_parts HO.out).1
  have f4 : decide (s < t) = false := by simp; omega
  go_enter Try.func11, Try.ntmps11
  go_wp2_with fail
  refine (of_yes _ _ _ H.out).mono ?_
  rintro e w' ⟨rfl, rfl⟩
  go_wp2_with (first | (go_at_call 25; ((with_reducible refine (of_yes _ _ _ HO.out).mono ?_); rintro e w' ⟨rfl, rfl⟩)) | (go_at_call 34; first | ((with_reducible refine (low_succ _ _ _ HF.out (by omega) (by omega)).mono ?_); rintro e w' ⟨rfl, rfl⟩) | ((with_reducible refine (low_yes _ _ _ HF.out (by omega) (by omega) (by omega) (by omega)).mono ?_); rintro e w' ⟨rfl, rfl⟩)) | (go_at_call 33; ((with_reducible refine (units_yes _ _ _ HF.out (by omega) (by omega)).mono ?_); rintro e w' ⟨rfl, rfl⟩)) | (go_at_call 35; ((with_reducible refine (in_any _ _ _).mono ?_); rintro e w' ⟨rfl, rfl⟩)) | (go_at_call 24; ((with_reducible refine (awake04 _).mono ?_); rintro e w' ⟨rfl, rfl⟩)) | (go_at_call 37; ((with_reducible refine (to_placed _ _ _ _ HF.out HT.out hst h1 h2).mono ?_); rintro e w' ⟨rfl, rfl⟩)) | (go_at_call 39; ((with_reducible refine (has_placed _ _ _ _ HF.out HT.out hst h1 h2).mono ?_); rintro e w' ⟨rfl, hb⟩)) | (go_at_call 36; ((with_reducible refine (whole_any _ _ _ (by omega) (by omega)).mono ?_); rintro e w' ⟨rfl, rfl⟩)))
  go_ret
  exact ⟨rfl, by assumption⟩

set_option maxHeartbeats 400000 in
set_option maxRecDepth 100000 in
theorem orders_whole (s t u : Int) (w : World) (s1 : -128 ≤ s) (s2 : s ≤ 127) (t1 : -128 ≤ t) (t2 : t ≤ 127) (u1 : -2147483648 ≤ u) (u2 : u ≤ 2147483647) (H : Hid (offB s u = false)) (HO : Hid (offB t u = false)) (hst : t ≤ s) (hW : wholeB t u = true) :
    Calls Try.prog 11 #[.int .i8 s, .int .i8 t, .int .i32 u] w fun e w' => e = .returned (.bool true) ∧ Below w.heap.size w w' := by
  obtain ⟨hF, h1, h2⟩ := off_parts H.out
  obtain ⟨c1, c2⟩ := cl_bounds hF u
  obtain ⟨d1, d2⟩ := cl_bd hF h1 h2
  obtain ⟨n1, n2⟩ := un_bd (i := cl s u) hF 262144 (by omega) (by omega)
  obtain ⟨m1, m2⟩ := un_bd (i := cl s u - 1) hF 262144 (by omega) (by omega)
  have HF := Lib.hid hF
  have HI := Lib.hid (cl_in hF h1 h2)
  have f1 : decide (u ≤ un s (cl s u - 1)) = false := by simp; omega
  have f2 : decide (un s (cl s u) < u) = false := by simp; omega
  have f3 : inB s (cl s u) = true := HI.out
  clear hF c1 c2
  have HT := Lib.hid (off_parts HO.out).1
  have f4 : decide (s < t) = false := by simp; omega
  have f5 := whole_mono HF.out hst hW
  go_enter Try.func11, Try.ntmps11
  go_wp2_with fail
  refine (of_yes _ _ _ H.out).mono ?_
  rintro e w' ⟨rfl, rfl⟩
  go_wp2_with (first | (go_at_call 25; ((with_reducible refine (of_yes _ _ _ HO.out).mono ?_); rintro e w' ⟨rfl, rfl⟩)) | (go_at_call 34; first | ((with_reducible refine (low_succ _ _ _ HF.out (by omega) (by omega)).mono ?_); rintro e w' ⟨rfl, rfl⟩) | ((with_reducible refine (low_yes _ _ _ HF.out (by omega) (by omega) (by omega) (by omega)).mono ?_); rintro e w' ⟨rfl, rfl⟩)) | (go_at_call 33; ((with_reducible refine (units_yes _ _ _ HF.out (by omega) (by omega)).mono ?_); rintro e w' ⟨rfl, rfl⟩)) | (go_at_call 35; ((with_reducible refine (in_any _ _ _).mono ?_); rintro e w' ⟨rfl, rfl⟩)) | (go_at_call 24; ((with_reducible refine (awake04 _).mono ?_); rintro e w' ⟨rfl, rfl⟩)) | (go_at_call 37; ((with_reducible refine (to_placed _ _ _ _ HF.out HT.out hst h1 h2).mono ?_); rintro e w' ⟨rfl, rfl⟩)) | (go_at_call 39; ((with_reducible refine (has_placed _ _ _ _ HF.out HT.out hst h1 h2).mono ?_); rintro e w' ⟨rfl, hb⟩)) | (go_at_call 36; ((with_reducible refine (whole_any _ _ _ (by omega) (by omega)).mono ?_); rintro e w' ⟨rfl, rfl⟩)))
  go_ret
  exact ⟨rfl, by assumption⟩

theorem orders_on (s t u : Int) (w : World) (s1 : -128 ≤ s) (s2 : s ≤ 127) (t1 : -128 ≤ t) (t2 : t ≤ 127) (u1 : -2147483648 ≤ u) (u2 : u ≤ 2147483647) (h : offB s u = false) :
    Calls Try.prog 11 #[.int .i8 s, .int .i8 t, .int .i32 u] w fun e w' => e = .returned (.bool true) ∧ Below w.heap.size w w' := by
  rcases hO : offB t u with _ | _
  · by_cases hst : t ≤ s
    · rcases hW : wholeB t u with _ | _
      · exact orders_some s t u w s1 s2 t1 t2 u1 u2 (Lib.hid h) (Lib.hid hO) hst hW
      · exact orders_whole s t u w s1 s2 t1 t2 u1 u2 (Lib.hid h) (Lib.hid hO) hst hW
    · exact orders_fine s t u w s1 s2 t1 t2 u1 u2 (Lib.hid h) (Lib.hid hO) (by omega)
  · exact orders_far s t u w s1 s2 t1 t2 u1 u2 (Lib.hid h) (Lib.hid hO)

theorem boundOrders_walk (a0 : Int) (a1 : Int) (a2 : Int) (w0 : (Lit.int .i8 a0).wf = true) (w1 : (Lit.int .i8 a1).wf = true) (w2 : (Lit.int .i32 a2).wf = true) (w : World) :
    Calls Try.prog 11 #[.int .i8 a0, .int .i8 a1, .int .i32 a2] w fun e w' => e = .returned (.bool true) ∧ Below w.heap.size w w' := by
  obtain ⟨b01, b02⟩ := bounds_i8 w0
  obtain ⟨b11, b12⟩ := bounds_i8 w1
  obtain ⟨b21, b22⟩ := bounds_i32 w2
  rcases h : offB a0 a2 with _ | _
  · exact orders_on a0 a1 a2 w (by omega) (by omega) (by omega) (by omega) (by omega) (by omega) h
  · exact orders_off a0 a1 a2 w (by omega) (by omega) (by omega) (by omega) (by omega) (by omega) h
end Go.Proofs.Ytlebgbigbiaanaa
