/- Contracts of the program's functions on bounds and sums that histograms use, and of the document's own: what each returns, and that it leaves memory as it is. -/
import Derived.Test.YtjnienlidmmhdaaGreatDoorRows
import Derived.Test.YtjnienlidmmhdaaGreatDoorBndM
import Derived.Test.YtjnienlidmmhdaaGreatDoorMathA
import Derived.WalkKit
import Derived.Lib.Hide
import Derived.WalkLawsBesides
import Derived.WalkSpells
import Derived.OpenShut
import Derived.LoopTactic
namespace Go.Proofs.YtjnienlidmmhdaaGreatDoor
open Go.RowKit

theorem ret_int {k : IntKind} {a b : Int} (h : a = b) : Ending.returned (.int k a) = .returned (.int k b) := by rw [h]
theorem ret_val {k : IntKind} {a b : Int} (h : a = b) : Value.int k a = .int k b := by rw [h]
theorem ret_bool {a b : Bool} (h : a = b) : Ending.returned (.bool a) = .returned (.bool b) := by rw [h]

theorem down_any (n k : Int) (w : World) (h0 : 0 ≤ k) (h1 : k ≤ 60) :
    Calls Tryz.prog 238 #[.int .i64 n, .int .u64 k] w fun e w' => e = .returned (.int .i64 (n / 2 ^ k.toNat)) ∧ w = w' := by
  go_enter Tryz.func238, Tryz.ntmps238
  go_wp2
  go_ret
  exact ⟨rfl, rfl⟩

theorem right_any (s : Int) (w : World) :
    Calls Tryz.prog 133 #[.int .i64 s] w fun e w' => e = .returned (.bool (rightB s)) ∧ w = w' := by
  by_cases h1 : -4 ≤ s
  · by_cases h2 : s ≤ 8
    · have hE := Lib.hid (show true = rightB s by unfold rightB; simp [h1, h2])
      go_enter Tryz.func133, Tryz.ntmps133
      go_wp2
      go_ret
      exact ⟨ret_bool hE.out, rfl⟩
    · have hE := Lib.hid (show false = rightB s by unfold rightB; simp [h1, h2])
      have h3 : decide (s ≤ 8) = false := by simpa using h2
      go_enter Tryz.func133, Tryz.ntmps133
      go_wp2
      go_ret
      exact ⟨ret_bool hE.out, rfl⟩
  · have hE := Lib.hid (show false = rightB s by unfold rightB; simp [h1])
    have h3 : decide (-4 ≤ s) = false := by simpa using h1
    go_enter Tryz.func133, Tryz.ntmps133
    go_wp2
    go_ret
    exact ⟨ret_bool hE.out, rfl⟩

theorem wide_any (s : Int) (w : World) (h0 : -4 ≤ s) (h1 : s ≤ 8) :
    Calls Tryz.prog 239 #[.int .i64 s] w fun e w' => e = .returned (.int .u64 (8 - s)) ∧ w = w' := by
  go_enter Tryz.func239, Tryz.ntmps239
  go_wp2
  go_ret
  exact ⟨rfl, rfl⟩

theorem units_yes (s i : Int) (w : World) (R : rightB s = true) (h1 : -9223372036854775808 ≤ un s i) (h2 : un s i ≤ 9223372036854775807) :
    Calls Tryz.prog 201 #[.int .i64 s, .int .i64 i] w fun e w' => e = .returned (.int .i64 (un s i)) ∧ w = w' := by
  obtain ⟨b1, b2⟩ := right_yes R
  have hE := Lib.hid (show un s i = i * 2 ^ (8 - s).toNat from rfl)
  rw [hE.out] at h1 h2
  go_enter Tryz.func201, Tryz.ntmps201
  go_wp2_with (first | (go_at_call 133; refine (right_any _ _).mono ?_; rintro e w' ⟨rfl, rfl⟩) | (go_at_call 239; refine (wide_any _ _ (by omega) (by omega)).mono ?_; rintro e w' ⟨rfl, rfl⟩))
  go_ret
  exact ⟨ret_int hE.out.symm, rfl⟩
theorem units_no (s i : Int) (w : World) (R : rightB s = false) :
    Calls Tryz.prog 201 #[.int .i64 s, .int .i64 i] w fun e w' => e = .returned (.int .i64 0) ∧ w = w' := by
  go_enter Tryz.func201, Tryz.ntmps201
  go_wp2_with (go_at_call 133; refine (right_any _ _).mono ?_; rintro e w' ⟨rfl, rfl⟩)
  go_ret
  exact ⟨rfl, rfl⟩
theorem low_yes (s i : Int) (w : World) (R : rightB s = true) (hi1 : -4611686018427387904 ≤ i) (hi2 : i ≤ 4611686018427387904) (h1 : -9223372036854775808 ≤ un s (i - 1)) (h2 : un s (i - 1) ≤ 9223372036854775807) :
    Calls Tryz.prog 135 #[.int .i64 s, .int .i64 i] w fun e w' => e = .returned (.int .i64 (un s (i - 1))) ∧ w = w' := by
  go_enter Tryz.func135, Tryz.ntmps135
  go_wp2_with (go_at_call 201; refine (units_yes _ _ _ R h1 h2).mono ?_; rintro e w' ⟨rfl, rfl⟩)
  go_ret
  exact ⟨rfl, rfl⟩
theorem low_no (s i : Int) (w : World) (R : rightB s = false) (hi1 : -4611686018427387904 ≤ i) (hi2 : i ≤ 4611686018427387904) :
    Calls Tryz.prog 135 #[.int .i64 s, .int .i64 i] w fun e w' => e = .returned (.int .i64 0) ∧ w = w' := by
  go_enter Tryz.func135, Tryz.ntmps135
  go_wp2_with (go_at_call 201; refine (units_no _ _ _ R).mono ?_; rintro e w' ⟨rfl, rfl⟩)
  go_ret
  exact ⟨rfl, rfl⟩
theorem most_any (s : Int) (w : World) :
    Calls Tryz.prog 200 #[.int .i64 s] w fun e w' => e = .returned (.int .i64 (mostV s)) ∧ w = w' := by
  rcases hR : rightB s with _ | _
  · have hE := Lib.hid (show 0 = mostV s by unfold mostV; rw [hR]; rfl)
    go_enter Tryz.func200, Tryz.ntmps200
    go_wp2_with (go_at_call 133; refine (right_any _ _).mono ?_; rintro e w' ⟨rfl, rfl⟩)
    go_ret
    exact ⟨ret_int hE.out, rfl⟩
  · have hE := Lib.hid (show 262144 / 2 ^ (8 - s).toNat = mostV s by unfold mostV; rw [hR]; rfl)
    obtain ⟨b1, b2⟩ := right_yes hR
    go_enter Tryz.func200, Tryz.ntmps200
    go_wp2_with (first | (go_at_call 133; refine (right_any _ _).mono ?_; rintro e w' ⟨rfl, rfl⟩) | (go_at_call 239; refine (wide_any _ _ (by omega) (by omega)).mono ?_; rintro e w' ⟨rfl, rfl⟩) | (go_at_call 238; refine (down_any _ _ _ (by omega) (by omega)).mono ?_; rintro e w' ⟨rfl, rfl⟩))
    go_ret
    exact ⟨ret_int hE.out, rfl⟩
theorem least_any (s : Int) (w : World) :
    Calls Tryz.prog 199 #[.int .i64 s] w fun e w' => e = .returned (.int .i64 (leastV s)) ∧ w = w' := by
  obtain ⟨b1, b2⟩ := most_bd s
  have hE := Lib.hid (show 1 - mostV s = leastV s from rfl)
  go_enter Tryz.func199, Tryz.ntmps199
  go_wp2_with (go_at_call 200; refine (most_any _ _).mono ?_; rintro e w' ⟨rfl, rfl⟩)
  go_ret
  exact ⟨ret_int hE.out, rfl⟩
theorem in_any (s i : Int) (w : World) :
    Calls Tryz.prog 134 #[.int .i64 s, .int .i64 i] w fun e w' => e = .returned (.bool (inB s i)) ∧ w = w' := by
  by_cases h1 : leastV s ≤ i
  · have h3 : decide (leastV s ≤ i) = true := by simpa using h1
    have hE := Lib.hid (show decide (i ≤ mostV s) = inB s i by unfold inB; simp [h1])
    clear h1
    go_enter Tryz.func134, Tryz.ntmps134
    go_wp2_with (first | (go_at_call 199; refine (least_any _ _).mono ?_; rintro e w' ⟨rfl, rfl⟩) | (go_at_call 200; refine (most_any _ _).mono ?_; rintro e w' ⟨rfl, rfl⟩))
    go_ret
    exact ⟨ret_bool hE.out, rfl⟩
  · have h3 : decide (leastV s ≤ i) = false := by simpa using h1
    have hE := Lib.hid (show false = inB s i by unfold inB; simp [h1])
    clear h1
    go_enter Tryz.func134, Tryz.ntmps134
    go_wp2_with (first | (go_at_call 199; refine (least_any _ _).mono ?_; rintro e w' ⟨rfl, rfl⟩) | (go_at_call 200; refine (most_any _ _).mono ?_; rintro e w' ⟨rfl, rfl⟩))
    go_ret
    exact ⟨ret_bool hE.out, rfl⟩

theorem ret_pair {k l : IntKind} {a b c d : Int} (h : a = b) (g : c = d) : Ending.returned (.tuple #[.int k a, .int l c]) = .returned (.tuple #[.int k b, .int l d]) := by rw [h, g]

/-- the cells of a slice of counts, by a function of the place -/
def RowU (w : World) (b off len : Nat) (f : Nat → Int) : Prop :=
  len ≤ 9223372036854775807 ∧ ∀ i, i < len → w.cell? ⟨b, off + i, none⟩ = some (.int .u64 (f i)) ∧ 0 ≤ f i ∧ f i ≤ 18446744073709551615
theorem add_none (a : Option Addr) (cap : Nat) (f : Nat → Int) (w : World) :
    Calls Tryz.prog 136 #[.slice a 0 cap] w fun e w' => e = .returned (.tuple #[.int .u64 (addV f 0), .int .i64 (addE f 0)]) ∧ w = w' := by
  obtain ⟨e1, e2⟩ := add_fits (f := f) (n := 0) (by show (0 : Int) ≤ maxU; decide)
  have E1 := Lib.hid e1
  have E2 := Lib.hid e2
  clear e1 e2
  go_enter Tryz.func136, Tryz.ntmps136
  go_wp2
  refine wp_loop_rounds 1 ?_
  rw [rounds_succ]
  go_wp2
  go_ret2
  exact ⟨ret_pair E1.out.symm E2.out.symm, rfl⟩

theorem add_row (b off len cap : Nat) (f : Nat → Int) (w : World) (hr : RowU w b off len f) :
    Calls Tryz.prog 136 #[.slice (some ⟨b, off, none⟩) len cap] w fun e w' => e = .returned (.tuple #[.int .u64 (addV f len), .int .i64 (addE f len)]) ∧ w = w' := by
  obtain ⟨hm, hc⟩ := hr
  have hn : ∀ i, i < len → 0 ≤ f i := fun i hi => (hc i hi).2.1
  have HN := Lib.hid hn
  have HC := Lib.hid hc
  clear hn hc
  go_enter Tryz.func136, Tryz.ntmps136
  go_wp2
  go_loop [9, 4] (fun i s => ∃ k : Nat, k ≤ len ∧ i = .int .i64 k ∧ s = .int .u64 (sumTo f k) ∧ 0 ≤ sumTo f k ∧ sumTo f k ≤ 18446744073709551615) (fun i _ => len - (intOf i).toNat)
  case atStart => exact ⟨0, Nat.zero_le _, rfl, rfl, Int.le_refl _, by show (0 : Int) ≤ _; decide⟩
  case round =>
    obtain ⟨k, hk, rfl, rfl, s0, s1⟩ := hrel
    by_cases hlt : k < len
    · obtain ⟨c1, c2, c3⟩ := HC.out k hlt
      by_cases ho : 18446744073709551615 - sumTo f k < f k
      · have hov := add_over HN.out hlt (show maxU < sumTo f k + f k by unfold maxU; omega)
        have E1 := Lib.hid hov.1
        have E2 := Lib.hid hov.2
        clear hov
        go_wp2
        go_ret2
        exact ⟨ret_pair E1.out.symm E2.out.symm, rfl⟩
      · have hs : sumTo f (k + 1) = sumTo f k + f k := rfl
        have HS := Lib.hid hs
        clear hs
        go_wp2
        go_round
        case rel => exact ⟨k + 1, by omega, by go_num, rfl, by rw [HS.out]; omega, by rw [HS.out]; omega⟩
        case measure => simp [intOf]; omega
    · obtain rfl : k = len := by omega
      obtain ⟨e1, e2⟩ := add_fits (f := f) (n := k) s1
      have E1 := Lib.hid e1
      have E2 := Lib.hid e2
      clear e1 e2
      go_wp2
      go_ret2
      exact ⟨ret_pair E1.out.symm E2.out.symm, rfl⟩

theorem refadd_none (a : Option Addr) (cap : Nat) (f : Nat → Int) (w : World) :
    Calls Tryz.prog 69 #[.slice a 0 cap] w fun e w' => e = .returned (.tuple #[.int .u64 (addV f 0), .int .i64 (addE f 0)]) ∧ w = w' := by
  obtain ⟨e1, e2⟩ := add_fits (f := f) (n := 0) (by show (0 : Int) ≤ maxU; decide)
  have E1 := Lib.hid e1
  have E2 := Lib.hid e2
  clear e1 e2
  go_enter Tryz.func69, Tryz.ntmps69
  go_wp2
  refine wp_loop_rounds 1 ?_
  rw [rounds_succ]
  go_wp2
  go_ret2
  exact ⟨ret_pair E1.out.symm E2.out.symm, rfl⟩

theorem refadd_row (b off len cap : Nat) (f : Nat → Int) (w : World) (hr : RowU w b off len f) :
    Calls Tryz.prog 69 #[.slice (some ⟨b, off, none⟩) len cap] w fun e w' => e = .returned (.tuple #[.int .u64 (addV f len), .int .i64 (addE f len)]) ∧ w = w' := by
  obtain ⟨hm, hc⟩ := hr
  have hn : ∀ i, i < len → 0 ≤ f i := fun i hi => (hc i hi).2.1
  have HN := Lib.hid hn
  have HC := Lib.hid hc
  clear hn hc
  go_enter Tryz.func69, Tryz.ntmps69
  go_wp2
  go_loop [5, 4] (fun i s => ∃ k : Nat, k ≤ len ∧ i = .int .i64 k ∧ s = .int .u64 (sumTo f k) ∧ 0 ≤ sumTo f k ∧ sumTo f k ≤ 18446744073709551615) (fun i _ => len - (intOf i).toNat)
  case atStart => exact ⟨0, Nat.zero_le _, rfl, rfl, Int.le_refl _, by show (0 : Int) ≤ _; decide⟩
  case round =>
    obtain ⟨k, hk, rfl, rfl, s0, s1⟩ := hrel
    by_cases hlt : k < len
    · obtain ⟨c1, c2, c3⟩ := HC.out k hlt
      by_cases ho : 18446744073709551615 - sumTo f k < f k
      · have hov := add_over HN.out hlt (show maxU < sumTo f k + f k by unfold maxU; omega)
        have E1 := Lib.hid hov.1
        have E2 := Lib.hid hov.2
        clear hov
        go_wp2
        go_ret2
        exact ⟨ret_pair E1.out.symm E2.out.symm, rfl⟩
      · have hs : sumTo f (k + 1) = sumTo f k + f k := rfl
        have HS := Lib.hid hs
        clear hs
        go_wp2
        go_round
        case rel => exact ⟨k + 1, by omega, by go_num, rfl, by rw [HS.out]; omega, by rw [HS.out]; omega⟩
        case measure => simp [intOf]; omega
    · obtain rfl : k = len := by omega
      obtain ⟨e1, e2⟩ := add_fits (f := f) (n := k) s1
      have E1 := Lib.hid e1
      have E2 := Lib.hid e2
      clear e1 e2
      go_wp2
      go_ret2
      exact ⟨ret_pair E1.out.symm E2.out.symm, rfl⟩

theorem refright_any (s : Int) (w : World) :
    Calls Tryz.prog 66 #[.int .i64 s] w fun e w' => e = .returned (.bool (rightB s)) ∧ w = w' := by
  by_cases h1 : -4 ≤ s
  · by_cases h2 : s ≤ 8
    · have hE := Lib.hid (show true = rightB s by unfold rightB; simp [h1, h2])
      go_enter Tryz.func66, Tryz.ntmps66
      go_wp2
      go_ret
      exact ⟨ret_bool hE.out, rfl⟩
    · have hE := Lib.hid (show false = rightB s by unfold rightB; simp [h1, h2])
      have h3 : decide (s ≤ 8) = false := by simpa using h2
      go_enter Tryz.func66, Tryz.ntmps66
      go_wp2
      go_ret
      exact ⟨ret_bool hE.out, rfl⟩
  · have hE := Lib.hid (show false = rightB s by unfold rightB; simp [h1])
    have h3 : decide (-4 ≤ s) = false := by simpa using h1
    go_enter Tryz.func66, Tryz.ntmps66
    go_wp2
    go_ret
    exact ⟨ret_bool hE.out, rfl⟩

theorem refstep_any (s : Int) (w : World) (R : rightB s = true) :
    Calls Tryz.prog 124 #[.int .i64 s] w fun e w' => e = .returned (.int .i64 (uw s)) ∧ w = w' := by
  obtain ⟨b1, b2⟩ := right_yes R
  go_enter Tryz.func124, Tryz.ntmps124
  go_wp2
  go_loop [3, 4] (fun p i => ∃ j : Nat, s + j ≤ 8 ∧ i = .int .i64 (s + j) ∧ p = .int .i64 (pw j)) (fun _ i => (8 - intOf i).toNat)
  case atStart => exact ⟨0, by omega, by simp, rfl⟩
  case round =>
    obtain ⟨j, hj, rfl, rfl⟩ := hrel
    by_cases hlt : s + j < 8
    · have HS := Lib.hid (pw_succ j)
      have hpj := pw_pos j
      have huj := pw_le (k := j) (by omega)
      go_wp2
      go_round
      case rel => exact ⟨j + 1, by omega, ret_val (by omega), ret_val HS.out⟩
      case measure => simp [intOf]; omega
    · have e : j = (8 - s).toNat := by omega
      have hE := Lib.hid (show pw j = uw s by rw [e]; rfl)
      clear e
      go_wp2
      go_ret
      exact ⟨ret_int hE.out, rfl⟩

theorem refunits_yes (s i : Int) (w : World) (R : rightB s = true) (h1 : -9223372036854775808 ≤ un s i) (h2 : un s i ≤ 9223372036854775807) :
    Calls Tryz.prog 68 #[.int .i64 s, .int .i64 i] w fun e w' => e = .returned (.int .i64 (un s i)) ∧ w = w' := by
  have hE := Lib.hid (show un s i = i * uw s from rfl)
  rw [hE.out] at h1 h2
  go_enter Tryz.func68, Tryz.ntmps68
  go_wp2_with (first | (go_at_call 66; refine (refright_any _ _).mono ?_; rintro e w' ⟨rfl, rfl⟩) | (go_at_call 124; refine (refstep_any _ _ R).mono ?_; rintro e w' ⟨rfl, rfl⟩))
  go_ret
  exact ⟨ret_int hE.out.symm, rfl⟩
theorem refunits_no (s i : Int) (w : World) (R : rightB s = false) :
    Calls Tryz.prog 68 #[.int .i64 s, .int .i64 i] w fun e w' => e = .returned (.int .i64 0) ∧ w = w' := by
  go_enter Tryz.func68, Tryz.ntmps68
  go_wp2_with (go_at_call 66; refine (refright_any _ _).mono ?_; rintro e w' ⟨rfl, rfl⟩)
  go_ret
  exact ⟨rfl, rfl⟩

theorem refin_any (s i : Int) (w : World) :
    Calls Tryz.prog 67 #[.int .i64 s, .int .i64 i] w fun e w' => e = .returned (.bool (inB s i)) ∧ w = w' := by
  rcases hR : rightB s with _ | _
  · have hE := Lib.hid (show false = inB s i from (in_not hR).symm)
    go_enter Tryz.func67, Tryz.ntmps67
    go_wp2_with (go_at_call 66; refine (refright_any _ _).mono ?_; rintro e w' ⟨rfl, rfl⟩)
    go_ret
    exact ⟨ret_bool hE.out, rfl⟩
  · have HR := Lib.hid hR
    by_cases h1 : -262144 < i
    · have d1 : decide (-262144 < i) = true := by simpa using h1
      by_cases h2 : i ≤ 262144
      · have d2 : decide (i ≤ 262144) = true := by simpa using h2
        obtain ⟨n1, n2⟩ := un_bd (i := i) hR 262144 (by omega) (by omega)
        by_cases h3 : -262144 < un s i
        · have d3 : decide (-262144 < un s i) = true := by simpa using h3
          have hE := Lib.hid (show decide (un s i ≤ 262144) = inB s i by
            by_cases h4 : un s i ≤ 262144
            · rw [decide_eq_true h4, (in_iff hR).2 ⟨h3, h4⟩]
            · rw [decide_eq_false h4]
              rcases hi : inB s i with _ | _
              · rfl
              · exact absurd ((in_iff hR).1 hi).2 h4)
          go_enter Tryz.func67, Tryz.ntmps67
          go_wp2_with (first | (go_at_call 66; refine (refright_any _ _).mono ?_; rintro e w' ⟨rfl, rfl⟩) | (go_at_call 68; refine (refunits_yes _ _ _ HR.out (by omega) (by omega)).mono ?_; rintro e w' ⟨rfl, rfl⟩))
          go_ret
          exact ⟨ret_bool hE.out, rfl⟩
        · have d3 : decide (-262144 < un s i) = false := by simpa using h3
          have hE := Lib.hid (show false = inB s i by
            rcases hi : inB s i with _ | _
            · rfl
            · exact absurd ((in_iff hR).1 hi).1 h3)
          go_enter Tryz.func67, Tryz.ntmps67
          go_wp2_with (first | (go_at_call 66; refine (refright_any _ _).mono ?_; rintro e w' ⟨rfl, rfl⟩) | (go_at_call 68; refine (refunits_yes _ _ _ HR.out (by omega) (by omega)).mono ?_; rintro e w' ⟨rfl, rfl⟩))
          go_ret
          exact ⟨ret_bool hE.out, rfl⟩
      · have d2 : decide (i ≤ 262144) = false := by simpa using h2
        have hE := Lib.hid (show false = inB s i by
          rcases hi : inB s i with _ | _
          · rfl
          · exact absurd (in_bd hi).2 h2)
        go_enter Tryz.func67, Tryz.ntmps67
        go_wp2_with (go_at_call 66; refine (refright_any _ _).mono ?_; rintro e w' ⟨rfl, rfl⟩)
        go_ret
        exact ⟨ret_bool hE.out, rfl⟩
    · have d1 : decide (-262144 < i) = false := by simpa using h1
      have hE := Lib.hid (show false = inB s i by
        rcases hi : inB s i with _ | _
        · rfl
        · exact absurd (in_bd hi).1 h1)
      go_enter Tryz.func67, Tryz.ntmps67
      go_wp2_with (go_at_call 66; refine (refright_any _ _).mono ?_; rintro e w' ⟨rfl, rfl⟩)
      go_ret
      exact ⟨ret_bool hE.out, rfl⟩

end Go.Proofs.YtjnienlidmmhdaaGreatDoor
