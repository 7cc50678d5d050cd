/- The law BoundTo's walk: for every three int64 and two keys it returns true; of what was in memory nothing turns. -/
import Derived.Test.YtlebgbigbiaanaaBndS
namespace Go.Proofs.Ytlebgbigbiaanaa
open Go.RowKit Go.Sort
set_option linter.unusedVariables false

theorem bcell {W w1 : World} (hb : Below W.heap.size W w1) : (∀ b o, b < W.heap.size → w1.cell? ⟨b, o, none⟩ = W.cell? ⟨b, o, none⟩) ∧ (∀ b o, b < W.heap.size → w1.frozen? ⟨b, o, none⟩ = W.frozen? ⟨b, o, none⟩) :=
  ⟨fun b o h => hb.cell (p := ⟨b, o, none⟩) h, fun b o h => hb.frozen (p := ⟨b, o, none⟩) h⟩
theorem has_self {f t i : Int} (h : toE f t i = 0) : hasB 0 t (toI f t i) 0 f i = true := by
  obtain ⟨h1, h2⟩ := toE_zero h
  unfold hasB toI
  rw [if_pos ⟨h1, h2⟩, h1, h2]
  simp
theorem has_self_any (f t i : Int) (w : World) (h : toE f t i = 0) :
    Calls Try.prog 39 #[.agg #[.int .i64 0, .int .i64 t, .int .i64 (toI f t i)], .agg #[.int .i64 0, .int .i64 f, .int .i64 i]] w fun e w' => e = .returned (.bool true) ∧ Below w.heap.size w w' := by
  have := has_any 0 t (toI f t i) 0 f i w
  rw [has_self h] at this
  exact this

theorem awake_b (w : World) : Calls Try.prog 24 #[] w fun e w' => e = .returned (.bool true) ∧ Below w.heap.size w w' := (awake04 w).mono fun e w' h => ⟨h.1, h.2 ▸ Below.refl _ _⟩
theorem refhas_b (a b s i t k : Int) (w : World) (i1 : -1099511627776 ≤ i) (i2 : i ≤ 1099511627776) (k1 : -1099511627776 ≤ k) (k2 : k ≤ 1099511627776) :
    Calls Try.prog 40 #[.int .i64 a, .int .i64 b, .int .i64 s, .int .i64 i, .int .i64 t, .int .i64 k] w fun e w' => e = .returned (.bool (hasB a s i b t k)) ∧ Below w.heap.size w w' :=
  (refhas_any a b s i t k w i1 i2 k1 k2).mono fun e w' h => ⟨h.1, h.2 ▸ Below.refl _ _⟩
set_option maxHeartbeats 1000000 in
set_option maxRecDepth 100000 in
theorem to_in (f t i a s x b r y : Int) (w : World) (h0 : (toE f t i == 0) = true) (x1 : -1099511627776 ≤ x) (x2 : x ≤ 1099511627776) (y1 : -1099511627776 ≤ y) (y2 : y ≤ 1099511627776) :
    Calls Try.prog 9 #[.int .i64 f, .int .i64 t, .int .i64 i, .agg #[.int .i64 a, .int .i64 s, .int .i64 x], .agg #[.int .i64 b, .int .i64 r, .int .i64 y]] w fun e w' => e = .returned (.bool true) ∧ Below w.heap.size w w' := by
  have H0 := Lib.hid (show toE f t i = 0 by simpa using h0)
  have d1 : decide (x < -1099511627776) = false := by simp; omega
  have d2 : decide (1099511627776 < x) = false := by simp; omega
  have d3 : decide (y < -1099511627776) = false := by simp; omega
  have d4 : decide (1099511627776 < y) = false := by simp; omega
  go_enter Try.func9, Try.ntmps9
  go_wp2_with fail
  refine (to_any _ _ _ _).mono ?_
  rintro e w' ⟨rfl, rfl⟩
  go_wp2_with fail
  refine (refto_any _ _ _ _).mono ?_
  rintro e w' ⟨rfl, rfl⟩
  go_wp2_with fail
  refine (has_self_any _ _ _ _ H0.out).mono ?_
  rintro e w1 ⟨rfl, hb1⟩
  have hbb : Below w.heap.size w w1 := (((Below.refl _ _).alloc (Nat.le_refl _) _).alloc (by simp) _).trans (hb1.mono (by simp; omega))
  obtain ⟨c1, c2⟩ := bcell hb1
  have hz : w.heap.size + 1 < w1.heap.size := by have := hb1.size; simp at this; omega
  have k1 : w1.cell? ⟨w.heap.size, 0, none⟩ = some (.int .i64 a) := by rw [c1 _ _ (by first | (simp; done) | (simp; omega))]; simp [go_sem]
  have k2 : w1.cell? ⟨w.heap.size, 1, none⟩ = some (.int .i64 s) := by rw [c1 _ _ (by first | (simp; done) | (simp; omega))]; simp [go_sem]
  have k3 : w1.cell? ⟨w.heap.size, 2, none⟩ = some (.int .i64 x) := by rw [c1 _ _ (by first | (simp; done) | (simp; omega))]; simp [go_sem]
  have k4 : w1.cell? ⟨w.heap.size + 1, 0, none⟩ = some (.int .i64 b) := by rw [c1 _ _ (by first | (simp; done) | (simp; omega))]; simp [go_sem]
  have k5 : w1.cell? ⟨w.heap.size + 1, 1, none⟩ = some (.int .i64 r) := by rw [c1 _ _ (by first | (simp; done) | (simp; omega))]; simp [go_sem]
  have k6 : w1.cell? ⟨w.heap.size + 1, 2, none⟩ = some (.int .i64 y) := by rw [c1 _ _ (by first | (simp; done) | (simp; omega))]; simp [go_sem]
  clear c1 c2 hb1
  go_wp2_with fail
  have k1' := cell_regrown k1
  have k2' := cell_regrown k2
  have k3' := cell_regrown k3
  have k4' := cell_regrown k4
  have k5' := cell_regrown k5
  have k6' := cell_regrown k6
  refine wp_region_quiet_below (by kernel_rfl) (by kernel_rfl) ?_
  repeat (any_goals (first | go_big_quiet_step (first | (go_at_call 24; exact Calls.regrown_of (awake_b _)) | (go_at_call 39; exact Calls.regrown_of (has_any _ _ _ _ _ _ _)) | (go_at_call 40; exact Calls.regrown_of (refhas_b _ _ _ _ _ _ _ (by omega) (by omega) (by omega) (by omega)))) | quiet_step (first | (go_at_call 24; exact Calls.regrown_of (awake_b _)) | (go_at_call 39; exact Calls.regrown_of (has_any _ _ _ _ _ _ _)) | (go_at_call 40; exact Calls.regrown_of (refhas_b _ _ _ _ _ _ _ (by omega) (by omega) (by omega) (by omega))))))
  refine wpQuiet_nil ?_
  intro _ hw'
  obtain ⟨⟨dq, osq⟩, hw''⟩ := hw'
  subst hw''
  have hH := hbb.trans ((below_regrown w1 dq osq).mono hbb.size)
  clear k1' k2' k3' k4' k5' k6'
  generalize grow (redrawn w1 dq) osq = w3 at *
  go_wp2_with fail
  go_ret
  exact ⟨rfl, hH⟩
set_option maxHeartbeats 1000000 in
set_option maxRecDepth 100000 in
theorem to_err (f t i a s x b r y : Int) (w : World) (h0 : (toE f t i == 0) = false) (x1 : -1099511627776 ≤ x) (x2 : x ≤ 1099511627776) (y1 : -1099511627776 ≤ y) (y2 : y ≤ 1099511627776) :
    Calls Try.prog 9 #[.int .i64 f, .int .i64 t, .int .i64 i, .agg #[.int .i64 a, .int .i64 s, .int .i64 x], .agg #[.int .i64 b, .int .i64 r, .int .i64 y]] w fun e w' => e = .returned (.bool true) ∧ Below w.heap.size w w' := by
  have d1 : decide (x < -1099511627776) = false := by simp; omega
  have d2 : decide (1099511627776 < x) = false := by simp; omega
  have d3 : decide (y < -1099511627776) = false := by simp; omega
  have d4 : decide (1099511627776 < y) = false := by simp; omega
  obtain ⟨w1, hw1⟩ : ∃ w1, (w.alloc (.cells #[.int .i64 a, .int .i64 s, .int .i64 x] 54)).alloc (.cells #[.int .i64 b, .int .i64 r, .int .i64 y] 54) = w1 := ⟨_, rfl⟩
  have hbb : Below w.heap.size w w1 := by rw [← hw1]; exact ((Below.refl _ _).alloc (Nat.le_refl _) _).alloc (by simp) _
  have k1 : w1.cell? ⟨w.heap.size, 0, none⟩ = some (.int .i64 a) := by rw [← hw1]; simp [go_sem]
  have k2 : w1.cell? ⟨w.heap.size, 1, none⟩ = some (.int .i64 s) := by rw [← hw1]; simp [go_sem]
  have k3 : w1.cell? ⟨w.heap.size, 2, none⟩ = some (.int .i64 x) := by rw [← hw1]; simp [go_sem]
  have k4 : w1.cell? ⟨w.heap.size + 1, 0, none⟩ = some (.int .i64 b) := by rw [← hw1]; simp [go_sem]
  have k5 : w1.cell? ⟨w.heap.size + 1, 1, none⟩ = some (.int .i64 r) := by rw [← hw1]; simp [go_sem]
  have k6 : w1.cell? ⟨w.heap.size + 1, 2, none⟩ = some (.int .i64 y) := by rw [← hw1]; simp [go_sem]
  go_enter Try.func9, Try.ntmps9
  go_wp2_with fail
  refine (to_any _ _ _ _).mono ?_
  rintro e w' ⟨rfl, rfl⟩
  go_wp2_with fail
  refine (refto_any _ _ _ _).mono ?_
  rintro e w' ⟨rfl, rfl⟩
  go_wp2_with fail
  have k1' := cell_regrown k1
  have k2' := cell_regrown k2
  have k3' := cell_regrown k3
  have k4' := cell_regrown k4
  have k5' := cell_regrown k5
  have k6' := cell_regrown k6
  refine wp_region_quiet_below (by kernel_rfl) (by kernel_rfl) ?_
  repeat (any_goals (first | go_big_quiet_step (first | (go_at_call 24; exact Calls.regrown_of (awake_b _)) | (go_at_call 39; exact Calls.regrown_of (has_any _ _ _ _ _ _ _)) | (go_at_call 40; exact Calls.regrown_of (refhas_b _ _ _ _ _ _ _ (by omega) (by omega) (by omega) (by omega)))) | quiet_step (first | (go_at_call 24; exact Calls.regrown_of (awake_b _)) | (go_at_call 39; exact Calls.regrown_of (has_any _ _ _ _ _ _ _)) | (go_at_call 40; exact Calls.regrown_of (refhas_b _ _ _ _ _ _ _ (by omega) (by omega) (by omega) (by omega))))))
  refine wpQuiet_nil ?_
  intro _ hw'
  obtain ⟨⟨dq, osq⟩, hw''⟩ := hw'
  subst hw''
  have hH := hbb.trans ((below_regrown w1 dq osq).mono hbb.size)
  clear k1' k2' k3' k4' k5' k6'
  generalize grow (redrawn w1 dq) osq = w3 at *
  go_wp2_with fail
  go_ret
  exact ⟨rfl, hH⟩
set_option maxHeartbeats 1000000 in
set_option maxRecDepth 100000 in
theorem to_l1_err (f t i a s x b r y : Int) (w : World) (h0 : (toE f t i == 0) = false) (h1 : x < -1099511627776) :
    Calls Try.prog 9 #[.int .i64 f, .int .i64 t, .int .i64 i, .agg #[.int .i64 a, .int .i64 s, .int .i64 x], .agg #[.int .i64 b, .int .i64 r, .int .i64 y]] w fun e w' => e = .returned (.bool true) ∧ Below w.heap.size w w' := by
  have d1 : decide (x < -1099511627776) = true := by simpa using h1
  go_enter Try.func9, Try.ntmps9
  go_wp2_with fail
  refine (to_any _ _ _ _).mono ?_
  rintro e w' ⟨rfl, rfl⟩
  go_wp2_with fail
  refine (refto_any _ _ _ _).mono ?_
  rintro e w' ⟨rfl, rfl⟩
  go_wp2_with (go_at_call 24; ((with_reducible refine (awake04 _).mono ?_); rintro e w' ⟨rfl, rfl⟩))
  go_ret
  exact ⟨rfl, ((Below.refl _ _).alloc (Nat.le_refl _) _).alloc (by simp) _⟩
set_option maxHeartbeats 1000000 in
set_option maxRecDepth 100000 in
theorem to_l1_in (f t i a s x b r y : Int) (w : World) (h0 : (toE f t i == 0) = true) (h1 : x < -1099511627776) :
    Calls Try.prog 9 #[.int .i64 f, .int .i64 t, .int .i64 i, .agg #[.int .i64 a, .int .i64 s, .int .i64 x], .agg #[.int .i64 b, .int .i64 r, .int .i64 y]] w fun e w' => e = .returned (.bool true) ∧ Below w.heap.size w w' := by
  have H0 := Lib.hid (show toE f t i = 0 by simpa using h0)
  have d1 : decide (x < -1099511627776) = true := by simpa using h1
  go_enter Try.func9, Try.ntmps9
  go_wp2_with fail
  refine (to_any _ _ _ _).mono ?_
  rintro e w' ⟨rfl, rfl⟩
  go_wp2_with fail
  refine (refto_any _ _ _ _).mono ?_
  rintro e w' ⟨rfl, rfl⟩
  go_wp2_with fail
  refine (has_self_any _ _ _ _ H0.out).mono ?_
  rintro e w1 ⟨rfl, hb1⟩
  have hbb : Below w.heap.size w w1 := (((Below.refl _ _).alloc (Nat.le_refl _) _).alloc (by simp) _).trans (hb1.mono (by simp; omega))
  obtain ⟨c1, c2⟩ := bcell hb1
  have hz : w.heap.size + 1 < w1.heap.size := by have := hb1.size; simp at this; omega
  have k1 : w1.cell? ⟨w.heap.size, 0, none⟩ = some (.int .i64 a) := by rw [c1 _ _ (by first | (simp; done) | (simp; omega))]; simp [go_sem]
  have k2 : w1.cell? ⟨w.heap.size, 1, none⟩ = some (.int .i64 s) := by rw [c1 _ _ (by first | (simp; done) | (simp; omega))]; simp [go_sem]
  have k3 : w1.cell? ⟨w.heap.size, 2, none⟩ = some (.int .i64 x) := by rw [c1 _ _ (by first | (simp; done) | (simp; omega))]; simp [go_sem]
  have k4 : w1.cell? ⟨w.heap.size + 1, 0, none⟩ = some (.int .i64 b) := by rw [c1 _ _ (by first | (simp; done) | (simp; omega))]; simp [go_sem]
  have k5 : w1.cell? ⟨w.heap.size + 1, 1, none⟩ = some (.int .i64 r) := by rw [c1 _ _ (by first | (simp; done) | (simp; omega))]; simp [go_sem]
  have k6 : w1.cell? ⟨w.heap.size + 1, 2, none⟩ = some (.int .i64 y) := by rw [c1 _ _ (by first | (simp; done) | (simp; omega))]; simp [go_sem]
  clear c1 c2 hb1
  go_wp2_with (go_at_call 24; ((with_reducible refine (awake04 _).mono ?_); rintro e w' ⟨rfl, rfl⟩))
  go_ret
  exact ⟨rfl, hbb⟩
set_option maxHeartbeats 1000000 in
set_option maxRecDepth 100000 in
theorem to_h1_err (f t i a s x b r y : Int) (w : World) (h0 : (toE f t i == 0) = false) (h1 : 1099511627776 < x) :
    Calls Try.prog 9 #[.int .i64 f, .int .i64 t, .int .i64 i, .agg #[.int .i64 a, .int .i64 s, .int .i64 x], .agg #[.int .i64 b, .int .i64 r, .int .i64 y]] w fun e w' => e = .returned (.bool true) ∧ Below w.heap.size w w' := by
  have d0 : decide (x < -1099511627776) = false := by simp; omega
  have d1 : decide (1099511627776 < x) = true := by simpa using h1
  go_enter Try.func9, Try.ntmps9
  go_wp2_with fail
  refine (to_any _ _ _ _).mono ?_
  rintro e w' ⟨rfl, rfl⟩
  go_wp2_with fail
  refine (refto_any _ _ _ _).mono ?_
  rintro e w' ⟨rfl, rfl⟩
  go_wp2_with (go_at_call 24; ((with_reducible refine (awake04 _).mono ?_); rintro e w' ⟨rfl, rfl⟩))
  go_ret
  exact ⟨rfl, ((Below.refl _ _).alloc (Nat.le_refl _) _).alloc (by simp) _⟩
set_option maxHeartbeats 1000000 in
set_option maxRecDepth 100000 in
theorem to_h1_in (f t i a s x b r y : Int) (w : World) (h0 : (toE f t i == 0) = true) (h1 : 1099511627776 < x) :
    Calls Try.prog 9 #[.int .i64 f, .int .i64 t, .int .i64 i, .agg #[.int .i64 a, .int .i64 s, .int .i64 x], .agg #[.int .i64 b, .int .i64 r, .int .i64 y]] w fun e w' => e = .returned (.bool true) ∧ Below w.heap.size w w' := by
  have H0 := Lib.hid (show toE f t i = 0 by simpa using h0)
  have d0 : decide (x < -1099511627776) = false := by simp; omega
  have d1 : decide (1099511627776 < x) = true := by simpa using h1
  go_enter Try.func9, Try.ntmps9
  go_wp2_with fail
  refine (to_any _ _ _ _).mono ?_
  rintro e w' ⟨rfl, rfl⟩
  go_wp2_with fail
  refine (refto_any _ _ _ _).mono ?_
  rintro e w' ⟨rfl, rfl⟩
  go_wp2_with fail
  refine (has_self_any _ _ _ _ H0.out).mono ?_
  rintro e w1 ⟨rfl, hb1⟩
  have hbb : Below w.heap.size w w1 := (((Below.refl _ _).alloc (Nat.le_refl _) _).alloc (by simp) _).trans (hb1.mono (by simp; omega))
  obtain ⟨c1, c2⟩ := bcell hb1
  have hz : w.heap.size + 1 < w1.heap.size := by have := hb1.size; simp at this; omega
  have k1 : w1.cell? ⟨w.heap.size, 0, none⟩ = some (.int .i64 a) := by rw [c1 _ _ (by first | (simp; done) | (simp; omega))]; simp [go_sem]
  have k2 : w1.cell? ⟨w.heap.size, 1, none⟩ = some (.int .i64 s) := by rw [c1 _ _ (by first | (simp; done) | (simp; omega))]; simp [go_sem]
  have k3 : w1.cell? ⟨w.heap.size, 2, none⟩ = some (.int .i64 x) := by rw [c1 _ _ (by first | (simp; done) | (simp; omega))]; simp [go_sem]
  have k4 : w1.cell? ⟨w.heap.size + 1, 0, none⟩ = some (.int .i64 b) := by rw [c1 _ _ (by first | (simp; done) | (simp; omega))]; simp [go_sem]
  have k5 : w1.cell? ⟨w.heap.size + 1, 1, none⟩ = some (.int .i64 r) := by rw [c1 _ _ (by first | (simp; done) | (simp; omega))]; simp [go_sem]
  have k6 : w1.cell? ⟨w.heap.size + 1, 2, none⟩ = some (.int .i64 y) := by rw [c1 _ _ (by first | (simp; done) | (simp; omega))]; simp [go_sem]
  clear c1 c2 hb1
  go_wp2_with (go_at_call 24; ((with_reducible refine (awake04 _).mono ?_); rintro e w' ⟨rfl, rfl⟩))
  go_ret
  exact ⟨rfl, hbb⟩
set_option maxHeartbeats 1000000 in
set_option maxRecDepth 100000 in
theorem to_l2_err (f t i a s x b r y : Int) (w : World) (h0 : (toE f t i == 0) = false) (x1 : -1099511627776 ≤ x) (x2 : x ≤ 1099511627776) (h1 : y < -1099511627776) :
    Calls Try.prog 9 #[.int .i64 f, .int .i64 t, .int .i64 i, .agg #[.int .i64 a, .int .i64 s, .int .i64 x], .agg #[.int .i64 b, .int .i64 r, .int .i64 y]] w fun e w' => e = .returned (.bool true) ∧ Below w.heap.size w w' := by
  have d1 : decide (x < -1099511627776) = false := by simp; omega
  have d2 : decide (1099511627776 < x) = false := by simp; omega
  have d3 : decide (y < -1099511627776) = true := by simpa using h1
  go_enter Try.func9, Try.ntmps9
  go_wp2_with fail
  refine (to_any _ _ _ _).mono ?_
  rintro e w' ⟨rfl, rfl⟩
  go_wp2_with fail
  refine (refto_any _ _ _ _).mono ?_
  rintro e w' ⟨rfl, rfl⟩
  go_wp2_with (go_at_call 24; ((with_reducible refine (awake04 _).mono ?_); rintro e w' ⟨rfl, rfl⟩))
  go_ret
  exact ⟨rfl, ((Below.refl _ _).alloc (Nat.le_refl _) _).alloc (by simp) _⟩
set_option maxHeartbeats 1000000 in
set_option maxRecDepth 100000 in
theorem to_l2_in (f t i a s x b r y : Int) (w : World) (h0 : (toE f t i == 0) = true) (x1 : -1099511627776 ≤ x) (x2 : x ≤ 1099511627776) (h1 : y < -1099511627776) :
    Calls Try.prog 9 #[.int .i64 f, .int .i64 t, .int .i64 i, .agg #[.int .i64 a, .int .i64 s, .int .i64 x], .agg #[.int .i64 b, .int .i64 r, .int .i64 y]] w fun e w' => e = .returned (.bool true) ∧ Below w.heap.size w w' := by
  have H0 := Lib.hid (show toE f t i = 0 by simpa using h0)
  have d1 : decide (x < -1099511627776) = false := by simp; omega
  have d2 : decide (1099511627776 < x) = false := by simp; omega
  have d3 : decide (y < -1099511627776) = true := by simpa using h1
  go_enter Try.func9, Try.ntmps9
  go_wp2_with fail
  refine (to_any _ _ _ _).mono ?_
  rintro e w' ⟨rfl, rfl⟩
  go_wp2_with fail
  refine (refto_any _ _ _ _).mono ?_
  rintro e w' ⟨rfl, rfl⟩
  go_wp2_with fail
  refine (has_self_any _ _ _ _ H0.out).mono ?_
  rintro e w1 ⟨rfl, hb1⟩
  have hbb : Below w.heap.size w w1 := (((Below.refl _ _).alloc (Nat.le_refl _) _).alloc (by simp) _).trans (hb1.mono (by simp; omega))
  obtain ⟨c1, c2⟩ := bcell hb1
  have hz : w.heap.size + 1 < w1.heap.size := by have := hb1.size; simp at this; omega
  have k1 : w1.cell? ⟨w.heap.size, 0, none⟩ = some (.int .i64 a) := by rw [c1 _ _ (by first | (simp; done) | (simp; omega))]; simp [go_sem]
  have k2 : w1.cell? ⟨w.heap.size, 1, none⟩ = some (.int .i64 s) := by rw [c1 _ _ (by first | (simp; done) | (simp; omega))]; simp [go_sem]
  have k3 : w1.cell? ⟨w.heap.size, 2, none⟩ = some (.int .i64 x) := by rw [c1 _ _ (by first | (simp; done) | (simp; omega))]; simp [go_sem]
  have k4 : w1.cell? ⟨w.heap.size + 1, 0, none⟩ = some (.int .i64 b) := by rw [c1 _ _ (by first | (simp; done) | (simp; omega))]; simp [go_sem]
  have k5 : w1.cell? ⟨w.heap.size + 1, 1, none⟩ = some (.int .i64 r) := by rw [c1 _ _ (by first | (simp; done) | (simp; omega))]; simp [go_sem]
  have k6 : w1.cell? ⟨w.heap.size + 1, 2, none⟩ = some (.int .i64 y) := by rw [c1 _ _ (by first | (simp; done) | (simp; omega))]; simp [go_sem]
  clear c1 c2 hb1
  go_wp2_with (go_at_call 24; ((with_reducible refine (awake04 _).mono ?_); rintro e w' ⟨rfl, rfl⟩))
  go_ret
  exact ⟨rfl, hbb⟩
set_option maxHeartbeats 1000000 in
set_option maxRecDepth 100000 in
theorem to_h2_err (f t i a s x b r y : Int) (w : World) (h0 : (toE f t i == 0) = false) (x1 : -1099511627776 ≤ x) (x2 : x ≤ 1099511627776) (h1 : 1099511627776 < y) :
    Calls Try.prog 9 #[.int .i64 f, .int .i64 t, .int .i64 i, .agg #[.int .i64 a, .int .i64 s, .int .i64 x], .agg #[.int .i64 b, .int .i64 r, .int .i64 y]] w fun e w' => e = .returned (.bool true) ∧ Below w.heap.size w w' := by
  have d1 : decide (x < -1099511627776) = false := by simp; omega
  have d2 : decide (1099511627776 < x) = false := by simp; omega
  have d3 : decide (y < -1099511627776) = false := by simp; omega
  have d4 : decide (1099511627776 < y) = true := by simpa using h1
  go_enter Try.func9, Try.ntmps9
  go_wp2_with fail
  refine (to_any _ _ _ _).mono ?_
  rintro e w' ⟨rfl, rfl⟩
  go_wp2_with fail
  refine (refto_any _ _ _ _).mono ?_
  rintro e w' ⟨rfl, rfl⟩
  go_wp2_with (go_at_call 24; ((with_reducible refine (awake04 _).mono ?_); rintro e w' ⟨rfl, rfl⟩))
  go_ret
  exact ⟨rfl, ((Below.refl _ _).alloc (Nat.le_refl _) _).alloc (by simp) _⟩
set_option maxHeartbeats 1000000 in
set_option maxRecDepth 100000 in
theorem to_h2_in (f t i a s x b r y : Int) (w : World) (h0 : (toE f t i == 0) = true) (x1 : -1099511627776 ≤ x) (x2 : x ≤ 1099511627776) (h1 : 1099511627776 < y) :
    Calls Try.prog 9 #[.int .i64 f, .int .i64 t, .int .i64 i, .agg #[.int .i64 a, .int .i64 s, .int .i64 x], .agg #[.int .i64 b, .int .i64 r, .int .i64 y]] w fun e w' => e = .returned (.bool true) ∧ Below w.heap.size w w' := by
  have H0 := Lib.hid (show toE f t i = 0 by simpa using h0)
  have d1 : decide (x < -1099511627776) = false := by simp; omega
  have d2 : decide (1099511627776 < x) = false := by simp; omega
  have d3 : decide (y < -1099511627776) = false := by simp; omega
  have d4 : decide (1099511627776 < y) = true := by simpa using h1
  go_enter Try.func9, Try.ntmps9
  go_wp2_with fail
  refine (to_any _ _ _ _).mono ?_
  rintro e w' ⟨rfl, rfl⟩
  go_wp2_with fail
  refine (refto_any _ _ _ _).mono ?_
  rintro e w' ⟨rfl, rfl⟩
  go_wp2_with fail
  refine (has_self_any _ _ _ _ H0.out).mono ?_
  rintro e w1 ⟨rfl, hb1⟩
  have hbb : Below w.heap.size w w1 := (((Below.refl _ _).alloc (Nat.le_refl _) _).alloc (by simp) _).trans (hb1.mono (by simp; omega))
  obtain ⟨c1, c2⟩ := bcell hb1
  have hz : w.heap.size + 1 < w1.heap.size := by have := hb1.size; simp at this; omega
  have k1 : w1.cell? ⟨w.heap.size, 0, none⟩ = some (.int .i64 a) := by rw [c1 _ _ (by first | (simp; done) | (simp; omega))]; simp [go_sem]
  have k2 : w1.cell? ⟨w.heap.size, 1, none⟩ = some (.int .i64 s) := by rw [c1 _ _ (by first | (simp; done) | (simp; omega))]; simp [go_sem]
  have k3 : w1.cell? ⟨w.heap.size, 2, none⟩ = some (.int .i64 x) := by rw [c1 _ _ (by first | (simp; done) | (simp; omega))]; simp [go_sem]
  have k4 : w1.cell? ⟨w.heap.size + 1, 0, none⟩ = some (.int .i64 b) := by rw [c1 _ _ (by first | (simp; done) | (simp; omega))]; simp [go_sem]
  have k5 : w1.cell? ⟨w.heap.size + 1, 1, none⟩ = some (.int .i64 r) := by rw [c1 _ _ (by first | (simp; done) | (simp; omega))]; simp [go_sem]
  have k6 : w1.cell? ⟨w.heap.size + 1, 2, none⟩ = some (.int .i64 y) := by rw [c1 _ _ (by first | (simp; done) | (simp; omega))]; simp [go_sem]
  clear c1 c2 hb1
  go_wp2_with (go_at_call 24; ((with_reducible refine (awake04 _).mono ?_); rintro e w' ⟨rfl, rfl⟩))
  go_ret
  exact ⟨rfl, hbb⟩

theorem boundTo_walk (f t i a s x b r y : Int) (w : World) :
    Calls Try.prog 9 #[.int .i64 f, .int .i64 t, .int .i64 i, .agg #[.int .i64 a, .int .i64 s, .int .i64 x], .agg #[.int .i64 b, .int .i64 r, .int .i64 y]] w fun e w' => e = .returned (.bool true) ∧ Below w.heap.size w w' := by
  rcases h0 : (toE f t i == 0) with _ | _
  · by_cases x1 : x < -1099511627776
    · exact to_l1_err f t i a s x b r y w h0 x1
    by_cases x2 : 1099511627776 < x
    · exact to_h1_err f t i a s x b r y w h0 x2
    by_cases y1 : y < -1099511627776
    · exact to_l2_err f t i a s x b r y w h0 (by omega) (by omega) y1
    by_cases y2 : 1099511627776 < y
    · exact to_h2_err f t i a s x b r y w h0 (by omega) (by omega) y2
    exact to_err f t i a s x b r y w h0 (by omega) (by omega) (by omega) (by omega)
  · by_cases x1 : x < -1099511627776
    · exact to_l1_in f t i a s x b r y w h0 x1
    by_cases x2 : 1099511627776 < x
    · exact to_h1_in f t i a s x b r y w h0 x2
    by_cases y1 : y < -1099511627776
    · exact to_l2_in f t i a s x b r y w h0 (by omega) (by omega) y1
    by_cases y2 : 1099511627776 < y
    · exact to_h2_in f t i a s x b r y w h0 (by omega) (by omega) y2
    exact to_in f t i a s x b r y w h0 (by omega) (by omega) (by omega) (by omega)
end Go.Proofs.Ytlebgbigbiaanaa
