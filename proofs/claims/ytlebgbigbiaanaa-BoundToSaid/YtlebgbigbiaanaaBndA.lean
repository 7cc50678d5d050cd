/- Contracts of the program's functions on bounds: what each returns, and that it leaves memory as it is. -/
import Derived.Test.YtlebgbigbiaanaaRows
import Derived.Test.YtlebgbigbiaanaaBndM
import Derived.WalkKit
import Derived.Lib.Hide
import Derived.WalkLawsBesides
import Derived.WalkSpells
import Derived.OpenShut
import Derived.LoopTactic
namespace Go.Proofs.Ytlebgbigbiaanaa
open Go.RowKit

theorem ret_int {k : IntKind} {a b : Int} (h : a = b) : Ending.returned (.int k a) = .returned (.int k b) := by rw [h]
theorem ret_val {k : IntKind} {a b : Int} (h : a = b) : Value.int k a = .int k b := by rw [h]
theorem ret_bool {a b : Bool} (h : a = b) : Ending.returned (.bool a) = .returned (.bool b) := by rw [h]

theorem down_any (n k : Int) (w : World) (h0 : 0 ≤ k) (h1 : k ≤ 60) :
    Calls Try.prog 48 #[.int .i64 n, .int .u64 k] w fun e w' => e = .returned (.int .i64 (n / 2 ^ k.toNat)) ∧ w = w' := by
  go_enter Try.func48, Try.ntmps48
  go_wp2
  go_ret
  exact ⟨rfl, rfl⟩

theorem up_any (n k : Int) (w : World) (h0 : 0 ≤ k) (h1 : k ≤ 60) (h2 : -4611686018427387904 ≤ n) (h3 : n ≤ 4611686018427387904) :
    Calls Try.prog 45 #[.int .i64 n, .int .u64 k] w fun e w' => e = .returned (.int .i64 (upv n k.toNat)) ∧ w = w' := by
  have hb := back_bounds n k.toNat
  have hp := pow_le_60 (k := k.toNat) (by omega)
  have hd := div_bounds n k.toNat 4611686018427387904 (by omega) (by omega)
  by_cases h : n / 2 ^ k.toNat * 2 ^ k.toNat = n
  · have e1 := upv_exact h
    have hE := Lib.hid e1
    have ht : (n / 2 ^ k.toNat * 2 ^ k.toNat != n) = false := by simpa using h
    clear h e1
    go_enter Try.func45, Try.ntmps45
    go_wp2_with (go_at_call 48; refine (down_any _ _ _ (by omega) (by omega)).mono ?_; rintro e w' ⟨rfl, rfl⟩)
    go_ret
    exact ⟨ret_int hE.out, rfl⟩
  · have e1 := upv_more h
    have hE := Lib.hid e1
    have ht : (n / 2 ^ k.toNat * 2 ^ k.toNat != n) = true := by simpa using h
    clear h e1
    go_enter Try.func45, Try.ntmps45
    go_wp2_with (go_at_call 48; refine (down_any _ _ _ (by omega) (by omega)).mono ?_; rintro e w' ⟨rfl, rfl⟩)
    go_ret
    exact ⟨ret_int hE.out, rfl⟩

theorem right_any (s : Int) (w : World) :
    Calls Try.prog 32 #[.int .i64 s] w fun e w' => e = .returned (.bool (rightB s)) ∧ w = w' := by
  by_cases h1 : -4 ≤ s
  · by_cases h2 : s ≤ 8
    · have hE := Lib.hid (show true = rightB s by unfold rightB; simp [h1, h2])
      go_enter Try.func32, Try.ntmps32
      go_wp2
      go_ret
      exact ⟨ret_bool hE.out, rfl⟩
    · have hE := Lib.hid (show false = rightB s by unfold rightB; simp [h1, h2])
      have h3 : decide (s ≤ 8) = false := by simpa using h2
      go_enter Try.func32, Try.ntmps32
      go_wp2
      go_ret
      exact ⟨ret_bool hE.out, rfl⟩
  · have hE := Lib.hid (show false = rightB s by unfold rightB; simp [h1])
    have h3 : decide (-4 ≤ s) = false := by simpa using h1
    go_enter Try.func32, Try.ntmps32
    go_wp2
    go_ret
    exact ⟨ret_bool hE.out, rfl⟩

theorem wide_any (s : Int) (w : World) (h0 : -4 ≤ s) (h1 : s ≤ 8) :
    Calls Try.prog 46 #[.int .i64 s] w fun e w' => e = .returned (.int .u64 (8 - s)) ∧ w = w' := by
  go_enter Try.func46, Try.ntmps46
  go_wp2
  go_ret
  exact ⟨rfl, rfl⟩

theorem units_yes (s i : Int) (w : World) (R : rightB s = true) (h1 : -9223372036854775808 ≤ un s i) (h2 : un s i ≤ 9223372036854775807) :
    Calls Try.prog 33 #[.int .i64 s, .int .i64 i] w fun e w' => e = .returned (.int .i64 (un s i)) ∧ w = w' := by
  obtain ⟨b1, b2⟩ := right_yes R
  have hE := Lib.hid (show un s i = i * 2 ^ (8 - s).toNat from rfl)
  rw [hE.out] at h1 h2
  go_enter Try.func33, Try.ntmps33
  go_wp2_with (first | (go_at_call 32; refine (right_any _ _).mono ?_; rintro e w' ⟨rfl, rfl⟩) | (go_at_call 46; refine (wide_any _ _ (by omega) (by omega)).mono ?_; rintro e w' ⟨rfl, rfl⟩))
  go_ret
  exact ⟨ret_int hE.out.symm, rfl⟩
theorem units_no (s i : Int) (w : World) (R : rightB s = false) :
    Calls Try.prog 33 #[.int .i64 s, .int .i64 i] w fun e w' => e = .returned (.int .i64 0) ∧ w = w' := by
  go_enter Try.func33, Try.ntmps33
  go_wp2_with (go_at_call 32; refine (right_any _ _).mono ?_; rintro e w' ⟨rfl, rfl⟩)
  go_ret
  exact ⟨rfl, rfl⟩
theorem low_yes (s i : Int) (w : World) (R : rightB s = true) (hi1 : -4611686018427387904 ≤ i) (hi2 : i ≤ 4611686018427387904) (h1 : -9223372036854775808 ≤ un s (i - 1)) (h2 : un s (i - 1) ≤ 9223372036854775807) :
    Calls Try.prog 34 #[.int .i64 s, .int .i64 i] w fun e w' => e = .returned (.int .i64 (un s (i - 1))) ∧ w = w' := by
  go_enter Try.func34, Try.ntmps34
  go_wp2_with (go_at_call 33; refine (units_yes _ _ _ R h1 h2).mono ?_; rintro e w' ⟨rfl, rfl⟩)
  go_ret
  exact ⟨rfl, rfl⟩
theorem low_no (s i : Int) (w : World) (R : rightB s = false) (hi1 : -4611686018427387904 ≤ i) (hi2 : i ≤ 4611686018427387904) :
    Calls Try.prog 34 #[.int .i64 s, .int .i64 i] w fun e w' => e = .returned (.int .i64 0) ∧ w = w' := by
  go_enter Try.func34, Try.ntmps34
  go_wp2_with (go_at_call 33; refine (units_no _ _ _ R).mono ?_; rintro e w' ⟨rfl, rfl⟩)
  go_ret
  exact ⟨rfl, rfl⟩
theorem most_any (s : Int) (w : World) :
    Calls Try.prog 30 #[.int .i64 s] w fun e w' => e = .returned (.int .i64 (mostV s)) ∧ w = w' := by
  rcases hR : rightB s with _ | _
  · have hE := Lib.hid (show 0 = mostV s by unfold mostV; rw [hR]; rfl)
    go_enter Try.func30, Try.ntmps30
    go_wp2_with (go_at_call 32; refine (right_any _ _).mono ?_; rintro e w' ⟨rfl, rfl⟩)
    go_ret
    exact ⟨ret_int hE.out, rfl⟩
  · have hE := Lib.hid (show 262144 / 2 ^ (8 - s).toNat = mostV s by unfold mostV; rw [hR]; rfl)
    obtain ⟨b1, b2⟩ := right_yes hR
    go_enter Try.func30, Try.ntmps30
    go_wp2_with (first | (go_at_call 32; refine (right_any _ _).mono ?_; rintro e w' ⟨rfl, rfl⟩) | (go_at_call 46; refine (wide_any _ _ (by omega) (by omega)).mono ?_; rintro e w' ⟨rfl, rfl⟩) | (go_at_call 48; refine (down_any _ _ _ (by omega) (by omega)).mono ?_; rintro e w' ⟨rfl, rfl⟩))
    go_ret
    exact ⟨ret_int hE.out, rfl⟩
theorem least_any (s : Int) (w : World) :
    Calls Try.prog 29 #[.int .i64 s] w fun e w' => e = .returned (.int .i64 (leastV s)) ∧ w = w' := by
  obtain ⟨b1, b2⟩ := most_bd s
  have hE := Lib.hid (show 1 - mostV s = leastV s from rfl)
  go_enter Try.func29, Try.ntmps29
  go_wp2_with (go_at_call 30; refine (most_any _ _).mono ?_; rintro e w' ⟨rfl, rfl⟩)
  go_ret
  exact ⟨ret_int hE.out, rfl⟩
theorem in_any (s i : Int) (w : World) :
    Calls Try.prog 35 #[.int .i64 s, .int .i64 i] w fun e w' => e = .returned (.bool (inB s i)) ∧ w = w' := by
  by_cases h1 : leastV s ≤ i
  · have h3 : decide (leastV s ≤ i) = true := by simpa using h1
    have hE := Lib.hid (show decide (i ≤ mostV s) = inB s i by unfold inB; simp [h1])
    clear h1
    go_enter Try.func35, Try.ntmps35
    go_wp2_with (first | (go_at_call 29; refine (least_any _ _).mono ?_; rintro e w' ⟨rfl, rfl⟩) | (go_at_call 30; refine (most_any _ _).mono ?_; rintro e w' ⟨rfl, rfl⟩))
    go_ret
    exact ⟨ret_bool hE.out, rfl⟩
  · have h3 : decide (leastV s ≤ i) = false := by simpa using h1
    have hE := Lib.hid (show false = inB s i by unfold inB; simp [h1])
    clear h1
    go_enter Try.func35, Try.ntmps35
    go_wp2_with (first | (go_at_call 29; refine (least_any _ _).mono ?_; rintro e w' ⟨rfl, rfl⟩) | (go_at_call 30; refine (most_any _ _).mono ?_; rintro e w' ⟨rfl, rfl⟩))
    go_ret
    exact ⟨ret_bool hE.out, rfl⟩
end Go.Proofs.Ytlebgbigbiaanaa
