/- Contracts of To, Of, Whole and Has, and of the law's own examples. -/
import Derived.Test.YtlebgbigbiaanaaBndA
import Derived.Below
namespace Go.Proofs.Ytlebgbigbiaanaa
open Go.RowKit

theorem to_schema (f t i : Int) (w : World) (h : okTo f t = false) :
    Calls Try.prog 37 #[.int .i64 f, .int .i64 t, .int .i64 i] w fun e w' => e = .returned (.tuple #[.int .i64 0, .int .i64 20]) ∧ w = w' := by
  unfold okTo at h
  rcases hF : rightB f with _ | _
  · clear h
    go_enter Try.func37, Try.ntmps37
    go_wp2_with (go_at_call 32; refine (right_any _ _).mono ?_; rintro e w' ⟨rfl, rfl⟩)
    go_ret2
    exact ⟨rfl, rfl⟩
  · rcases hT : rightB t with _ | _
    · clear h
      go_enter Try.func37, Try.ntmps37
      go_wp2_with (go_at_call 32; refine (right_any _ _).mono ?_; rintro e w' ⟨rfl, rfl⟩)
      go_ret2
      exact ⟨rfl, rfl⟩
    · rw [hF, hT, Bool.true_and, Bool.true_and, decide_eq_false_iff_not] at h
      have h1 : decide (f < t) = true := by simp; omega
      have h2 : f < t := by omega
      clear h
      go_enter Try.func37, Try.ntmps37
      go_wp2_with (go_at_call 32; refine (right_any _ _).mono ?_; rintro e w' ⟨rfl, rfl⟩)
      go_ret2
      exact ⟨rfl, rfl⟩
theorem ok_parts {f t : Int} (h : okTo f t = true) : rightB f = true ∧ rightB t = true ∧ t ≤ f := by
  unfold okTo at h
  simpa using h
theorem to_range (f t i : Int) (w : World) (h : okTo f t = true) (hi : inB f i = false) :
    Calls Try.prog 37 #[.int .i64 f, .int .i64 t, .int .i64 i] w fun e w' => e = .returned (.tuple #[.int .i64 0, .int .i64 4]) ∧ w = w' := by
  obtain ⟨hF, hT, h1⟩ := ok_parts h
  have h2 : decide (f < t) = false := by simp; omega
  clear h
  go_enter Try.func37, Try.ntmps37
  go_wp2_with (first | (go_at_call 32; refine (right_any _ _).mono ?_; rintro e w' ⟨rfl, rfl⟩) | (go_at_call 35; refine (in_any _ _ _).mono ?_; rintro e w' ⟨rfl, rfl⟩))
  go_ret2
  exact ⟨rfl, rfl⟩
theorem to_yes (f t i : Int) (w : World) (h : okTo f t = true) (hi : inB f i = true) :
    Calls Try.prog 37 #[.int .i64 f, .int .i64 t, .int .i64 i] w fun e w' => e = .returned (.tuple #[.int .i64 (toV f t i), .int .i64 0]) ∧ w = w' := by
  obtain ⟨hF, hT, h1⟩ := ok_parts h
  obtain ⟨bf1, bf2⟩ := right_yes hF
  obtain ⟨bt1, bt2⟩ := right_yes hT
  obtain ⟨bi1, bi2⟩ := in_bd hi
  have h2 : decide (f < t) = false := by simp; omega
  have hE := Lib.hid (show upv i (f - t).toNat = toV f t i from rfl)
  clear h
  go_enter Try.func37, Try.ntmps37
  go_wp2_with (first | (go_at_call 32; refine (right_any _ _).mono ?_; rintro e w' ⟨rfl, rfl⟩) | (go_at_call 35; refine (in_any _ _ _).mono ?_; rintro e w' ⟨rfl, rfl⟩) | (go_at_call 45; refine (up_any _ _ _ (by omega) (by omega) (by omega) (by omega)).mono ?_; rintro e w' ⟨rfl, rfl⟩))
  go_ret2
  exact ⟨rfl, rfl⟩

theorem off_parts {s u : Int} (h : offB s u = false) : rightB s = true ∧ -262144 < u ∧ u ≤ 262144 := by
  unfold offB at h
  simp at h
  omega
theorem of_no (s u : Int) (w : World) (h : offB s u = true) :
    Calls Try.prog 25 #[.int .i64 s, .int .i64 u] w fun e w' => e = .returned (.tuple #[.int .i64 0, .bool false]) ∧ w = w' := by
  unfold offB at h
  rcases hF : rightB s with _ | _
  · clear h
    go_enter Try.func25, Try.ntmps25
    go_wp2_with (go_at_call 32; refine (right_any _ _).mono ?_; rintro e w' ⟨rfl, rfl⟩)
    go_ret2
    exact ⟨rfl, rfl⟩
  · rw [hF] at h
    simp at h
    by_cases h1 : u ≤ -262144
    · have h2 : decide (u ≤ -262144) = true := by simpa using h1
      clear h
      go_enter Try.func25, Try.ntmps25
      go_wp2_with (go_at_call 32; refine (right_any _ _).mono ?_; rintro e w' ⟨rfl, rfl⟩)
      go_ret2
      exact ⟨rfl, rfl⟩
    · have h2 : decide (u ≤ -262144) = false := by simpa using h1
      have h4 : 262144 < u := by omega
      have h3 : decide (262144 < u) = true := by simpa using h4
      clear h
      go_enter Try.func25, Try.ntmps25
      go_wp2_with (go_at_call 32; refine (right_any _ _).mono ?_; rintro e w' ⟨rfl, rfl⟩)
      go_ret2
      exact ⟨rfl, rfl⟩
theorem of_yes (s u : Int) (w : World) (h : offB s u = false) :
    Calls Try.prog 25 #[.int .i64 s, .int .i64 u] w fun e w' => e = .returned (.tuple #[.int .i64 (cl s u), .bool true]) ∧ w = w' := by
  obtain ⟨hF, h1, h2⟩ := off_parts h
  obtain ⟨bf1, bf2⟩ := right_yes hF
  have h3 : decide (u ≤ -262144) = false := by simpa using h1
  have h4 : decide (262144 < u) = false := by simpa using h2
  have hE := Lib.hid (show upv u (8 - s).toNat = cl s u from rfl)
  clear h
  go_enter Try.func25, Try.ntmps25
  go_wp2_with (first | (go_at_call 32; refine (right_any _ _).mono ?_; rintro e w' ⟨rfl, rfl⟩) | (go_at_call 46; refine (wide_any _ _ (by omega) (by omega)).mono ?_; rintro e w' ⟨rfl, rfl⟩) | (go_at_call 45; refine (up_any _ _ _ (by omega) (by omega) (by omega) (by omega)).mono ?_; rintro e w' ⟨rfl, rfl⟩))
  go_ret2
  exact ⟨rfl, rfl⟩

theorem whole_any (s u : Int) (w : World) (hu1 : -9223372036854775808 ≤ u) (hu2 : u ≤ 9223372036854775807) :
    Calls Try.prog 36 #[.int .i64 s, .int .i64 u] w fun e w' => e = .returned (.bool (wholeB s u)) ∧ w = w' := by
  rcases hR : rightB s with _ | _
  · have hE := Lib.hid (show false = wholeB s u by unfold wholeB; rw [hR]; rfl)
    go_enter Try.func36, Try.ntmps36
    go_wp2_with (go_at_call 32; refine (right_any _ _).mono ?_; rintro e w' ⟨rfl, rfl⟩)
    go_ret
    exact ⟨ret_bool hE.out, rfl⟩
  · obtain ⟨b1, b2⟩ := right_yes hR
    have hb : -9223372036854775808 ≤ un s (u / 2 ^ (8 - s).toNat) ∧ un s (u / 2 ^ (8 - s).toNat) ≤ 9223372036854775807 := by
      have hu : (2 : Int) ^ (8 - s).toNat = uw s := rfl
      rw [hu]
      unfold un
      rcases uw_cases hR with e | e | e | e | e | e | e | e | e | e | e | e | e <;> rw [e] <;> omega
    obtain ⟨hb1, hb2⟩ := hb
    have hE := Lib.hid (show (un s (u / 2 ^ (8 - s).toNat) == u) = wholeB s u by unfold wholeB; rw [hR, Bool.true_and]; rfl)
    go_enter Try.func36, Try.ntmps36
    go_wp2_with (first | (go_at_call 32; refine (right_any _ _).mono ?_; rintro e w' ⟨rfl, rfl⟩) | (go_at_call 46; refine (wide_any _ _ (by omega) (by omega)).mono ?_; rintro e w' ⟨rfl, rfl⟩) | (go_at_call 48; refine (down_any _ _ _ (by omega) (by omega)).mono ?_; rintro e w' ⟨rfl, rfl⟩) | (go_at_call 33; refine (units_yes _ _ _ hR hb1 hb2).mono ?_; rintro e w' ⟨rfl, rfl⟩))
    go_ret
    exact ⟨ret_bool hE.out, rfl⟩

theorem has_yes (a s i b t k : Int) (w : World) (ho : okTo t s = true) (hk : inB t k = true) :
    Calls Try.prog 39 #[.agg #[.int .i64 a, .int .i64 s, .int .i64 i], .agg #[.int .i64 b, .int .i64 t, .int .i64 k]] w fun e w' => e = .returned (.bool (hasB a s i b t k)) ∧ Below w.heap.size w w' := by
  by_cases h : a = b
  · have h1 : (a == b) = true := by simpa using h
    have hE := Lib.hid (show (i == toV t s k) = hasB a s i b t k by unfold hasB; rw [ho, hk, decide_eq_true h]; rfl)
    clear h
    go_enter Try.func39, Try.ntmps39
    go_wp2_with (go_at_call 37; refine (to_yes _ _ _ _ ho hk).mono ?_; rintro e w' ⟨rfl, rfl⟩)
    go_ret
    exact ⟨ret_bool hE.out, ((Below.refl _ _).alloc (Nat.le_refl _) _).alloc (by simp) _⟩
  · have h1 : (a == b) = false := by simpa using h
    have hE := Lib.hid (show false = hasB a s i b t k by unfold hasB; rw [ho, hk, decide_eq_false h]; rfl)
    clear h
    go_enter Try.func39, Try.ntmps39
    go_wp2_with (go_at_call 37; refine (to_yes _ _ _ _ ho hk).mono ?_; rintro e w' ⟨rfl, rfl⟩)
    go_ret
    exact ⟨ret_bool hE.out, ((Below.refl _ _).alloc (Nat.le_refl _) _).alloc (by simp) _⟩
theorem has_range (a s i b t k : Int) (w : World) (ho : okTo t s = true) (hk : inB t k = false) :
    Calls Try.prog 39 #[.agg #[.int .i64 a, .int .i64 s, .int .i64 i], .agg #[.int .i64 b, .int .i64 t, .int .i64 k]] w fun e w' => e = .returned (.bool (hasB a s i b t k)) ∧ Below w.heap.size w w' := by
  have hE := Lib.hid (show false = hasB a s i b t k by unfold hasB; rw [ho, hk]; simp)
  go_enter Try.func39, Try.ntmps39
  go_wp2_with (go_at_call 37; refine (to_range _ _ _ _ ho hk).mono ?_; rintro e w' ⟨rfl, rfl⟩)
  go_ret
  exact ⟨ret_bool hE.out, ((Below.refl _ _).alloc (Nat.le_refl _) _).alloc (by simp) _⟩
theorem has_schema (a s i b t k : Int) (w : World) (ho : okTo t s = false) :
    Calls Try.prog 39 #[.agg #[.int .i64 a, .int .i64 s, .int .i64 i], .agg #[.int .i64 b, .int .i64 t, .int .i64 k]] w fun e w' => e = .returned (.bool (hasB a s i b t k)) ∧ Below w.heap.size w w' := by
  have hE := Lib.hid (show false = hasB a s i b t k by unfold hasB; rw [ho]; simp)
  go_enter Try.func39, Try.ntmps39
  go_wp2_with (go_at_call 37; refine (to_schema _ _ _ _ ho).mono ?_; rintro e w' ⟨rfl, rfl⟩)
  go_ret
  exact ⟨ret_bool hE.out, ((Below.refl _ _).alloc (Nat.le_refl _) _).alloc (by simp) _⟩
theorem has_any (a s i b t k : Int) (w : World) :
    Calls Try.prog 39 #[.agg #[.int .i64 a, .int .i64 s, .int .i64 i], .agg #[.int .i64 b, .int .i64 t, .int .i64 k]] w fun e w' => e = .returned (.bool (hasB a s i b t k)) ∧ Below w.heap.size w w' := by
  rcases ho : okTo t s with _ | _
  · exact has_schema a s i b t k w ho
  · rcases hk : inB t k with _ | _
    · exact has_range a s i b t k w ho hk
    · exact has_yes a s i b t k w ho hk

theorem to_at1 (w : World) : Calls Try.prog 37 #[.int .i64 1, .int .i64 0, .int .i64 3] w fun e w' => e = .returned (.tuple #[.int .i64 2, .int .i64 0]) ∧ w = w' :=
  (to_yes 1 0 3 w (by decide) (by decide)).mono fun _ _ h => h
theorem to_at2 (w : World) : Calls Try.prog 37 #[.int .i64 1, .int .i64 0, .int .i64 (-3)] w fun e w' => e = .returned (.tuple #[.int .i64 (-1), .int .i64 0]) ∧ w = w' :=
  (to_yes 1 0 (-3) w (by decide) (by decide)).mono fun _ _ h => h
theorem units_at (w : World) : Calls Try.prog 33 #[.int .i64 0, .int .i64 1] w fun e w' => e = .returned (.int .i64 256) ∧ w = w' :=
  (units_yes 0 1 w (by decide) (by decide) (by decide)).mono fun _ _ h => h
theorem awake04 (w : World) : Calls Try.prog 24 #[] w fun e w' => e = .returned (.bool true) ∧ w = w' := by
  go_enter Try.func24, Try.ntmps24
  go_wp2_with fail
  refine (to_at1 _).mono ?_
  rintro e w' ⟨rfl, rfl⟩
  go_wp2_with fail
  refine (to_at2 _).mono ?_
  rintro e w' ⟨rfl, rfl⟩
  go_wp2_with fail
  refine (units_at _).mono ?_
  rintro e w' ⟨rfl, rfl⟩
  go_wp2_with fail
  go_ret
  exact ⟨rfl, rfl⟩
end Go.Proofs.Ytlebgbigbiaanaa
