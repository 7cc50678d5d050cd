/- Contracts of the program's and the document's small functions on numbers: what each returns, and that it leaves memory as it is. -/
import Derived.Test.YtdnihkmdigmnoaaRows
import Derived.Test.YtdnihkmdigmnoaaMathA
import Derived.Test.YtdnihkmdigmnoaaMathB
import Derived.WalkKit
import Derived.Lib.Hide
import Derived.WalkLawsBesides
import Derived.WalkSpells
import Derived.OpenShut
import Derived.LoopTactic
namespace Go.Proofs.Ytdnihkmdigmnoaa
open Go.RowKit

theorem ret_int {k : IntKind} {a b : Int} (h : a = b) : Ending.returned (.int k a) = .returned (.int k b) := by rw [h]

theorem ret_val {k : IntKind} {a b : Int} (h : a = b) : Value.int k a = .int k b := by rw [h]

theorem down_any (n k : Int) (w : World) (h0 : 0 ≤ k) (h1 : k ≤ 60) :
    Calls Try.prog 25 #[.int .i64 n, .int .u64 k] w fun e w' => e = .returned (.int .i64 (n / 2 ^ k.toNat)) ∧ w = w' := by
  go_enter Try.func25, Try.ntmps25
  go_wp2
  go_ret
  exact ⟨rfl, rfl⟩

theorem up_any (n k : Int) (w : World) (h0 : 0 ≤ k) (h1 : k ≤ 60) (h2 : -4611686018427387904 ≤ n) (h3 : n ≤ 4611686018427387904) :
    Calls Try.prog 27 #[.int .i64 n, .int .u64 k] w fun e w' => e = .returned (.int .i64 (upv n k.toNat)) ∧ w = w' := by
  have hb := back_bounds n k.toNat
  have hp := pow_le_60 (k := k.toNat) (by omega)
  have hd := div_bounds n k.toNat 4611686018427387904 (by omega) (by omega)
  by_cases h : n / 2 ^ k.toNat * 2 ^ k.toNat = n
  · have e1 := upv_exact h
    have hE := Lib.hid e1
    have ht : (n / 2 ^ k.toNat * 2 ^ k.toNat != n) = false := by simpa using h
    clear h e1
    go_enter Try.func27, Try.ntmps27
    go_wp2_with (go_at_call 25; refine (down_any _ _ _ (by omega) (by omega)).mono ?_; rintro e w' ⟨rfl, rfl⟩)
    go_ret
    exact ⟨ret_int hE.out, rfl⟩
  · have e1 := upv_more h
    have hE := Lib.hid e1
    have ht : (n / 2 ^ k.toNat * 2 ^ k.toNat != n) = true := by simpa using h
    clear h e1
    go_enter Try.func27, Try.ntmps27
    go_wp2_with (go_at_call 25; refine (down_any _ _ _ (by omega) (by omega)).mono ?_; rintro e w' ⟨rfl, rfl⟩)
    go_ret
    exact ⟨ret_int hE.out, rfl⟩

theorem zig_any (n : Int) (w : World) (h1 : -9223372036854775808 ≤ n) (h2 : n ≤ 9223372036854775807) :
    Calls Try.prog 22 #[.int .i64 n] w fun e w' => e = .returned (.int .u64 (zigv n)) ∧ w = w' := by
  by_cases h : n < 0
  · have e1 : zigv n = (-n - 1) * 2 + 1 := by unfold zigv; rw [if_pos h]; omega
    have hE := Lib.hid e1
    have hs : IntKind.i64.signed = true := rfl
    have hx := not_i64 h1 h2
    have ho := or_one_even (m := -n - 1) (by omega) (by omega)
    clear e1
    go_enter Try.func22, Try.ntmps22
    go_wp2
    go_ret
    exact ⟨ret_int hE.out.symm, rfl⟩
  · have e1 : zigv n = n * 2 := by unfold zigv; rw [if_neg h]; omega
    have hE := Lib.hid e1
    clear e1
    go_enter Try.func22, Try.ntmps22
    go_wp2
    go_ret
    exact ⟨ret_int hE.out.symm, rfl⟩

theorem zag_any (c : Int) (w : World) (h1 : 0 ≤ c) (h2 : c ≤ 18446744073709551615) :
    Calls Try.prog 24 #[.int .u64 c] w fun e w' => e = .returned (.int .i64 (zagv c)) ∧ w = w' := by
  have ha := and_one_u64 c h1 h2
  by_cases h : c % 2 = 1
  · have e1 : zagv c = -(c / 2) - 1 := by unfold zagv; rw [if_pos h]
    have hE := Lib.hid e1
    have hs : IntKind.i64.signed = true := rfl
    have hx := not_i64 (n := c / 2) (by omega) (by omega)
    have ht : (c % 2 == 1) = true := by simpa using h
    clear e1 h
    go_enter Try.func24, Try.ntmps24
    go_wp2
    go_ret
    exact ⟨ret_int hE.out.symm, rfl⟩
  · have e1 : zagv c = c / 2 := by unfold zagv; rw [if_neg h]
    have hE := Lib.hid e1
    have ht : (c % 2 == 1) = false := by simpa using h
    clear e1 h
    go_enter Try.func24, Try.ntmps24
    go_wp2
    go_ret
    exact ⟨ret_int hE.out.symm, rfl⟩

theorem zig_at (w : World) : Calls Try.prog 22 #[.int .i64 (-1)] w fun e w' => e = .returned (.int .u64 1) ∧ w = w' :=
  (zig_any (-1) w (by decide) (by decide)).mono fun _ _ h => h
theorem up_at1 (w : World) : Calls Try.prog 27 #[.int .i64 (-3), .int .u64 1] w fun e w' => e = .returned (.int .i64 (-1)) ∧ w = w' :=
  (up_any (-3) 1 w (by decide) (by decide) (by decide) (by decide)).mono fun _ _ h => h
theorem up_at2 (w : World) : Calls Try.prog 27 #[.int .i64 3, .int .u64 1] w fun e w' => e = .returned (.int .i64 2) ∧ w = w' :=
  (up_any 3 1 w (by decide) (by decide) (by decide) (by decide)).mono fun _ _ h => h

theorem refzig_any (n : Int) (w : World) (h1 : -9223372036854775808 ≤ n) (h2 : n ≤ 9223372036854775807) :
    Calls Try.prog 23 #[.int .i64 n] w fun e w' => e = .returned (.int .u64 (zigv n)) ∧ w = w' := by
  by_cases h : 0 ≤ n
  · have e1 : zigv n = n * 2 := by unfold zigv; rw [if_neg (by omega)]; omega
    have hE := Lib.hid e1
    clear e1
    go_enter Try.func23, Try.ntmps23
    go_wp2
    go_ret
    exact ⟨ret_int hE.out.symm, rfl⟩
  · have e1 : zigv n = -(n + 1) * 2 + 1 := by unfold zigv; rw [if_pos (by omega)]; omega
    have hE := Lib.hid e1
    clear e1
    go_enter Try.func23, Try.ntmps23
    go_wp2
    go_ret
    exact ⟨ret_int hE.out.symm, rfl⟩

theorem refdown_core (n : Int) (k : Nat) (w : World) (h1 : k ≤ 60) (h2 : -2305843009213693952 ≤ n) (h3 : n ≤ 2305843009213693952) :
    Calls Try.prog 26 #[.int .i64 n, .int .i64 (k : Int)] w fun e w' => e = .returned (.int .i64 (n / pw k)) ∧ w = w' := by
  have hp := pw_pos k
  have hu := pw_le h1
  have hb := div_bounds n k 2305843009213693952 h2 h3
  have HB : Hid (-2305843009213693952 ≤ n / pw k ∧ n / pw k ≤ 2305843009213693952) := hb
  clear hb
  by_cases hn : 0 ≤ n
  · have m0 : 0 ≤ n % pw k := Int.emod_nonneg _ (by omega)
    go_enter Try.func26, Try.ntmps26
    go_wp2
    go_loop [5, 6] (fun p i => ∃ j : Nat, j ≤ k ∧ i = .int .i64 j ∧ p = .int .i64 (pw j)) (fun _ i => k - (intOf i).toNat)
    case atStart => exact ⟨0, Nat.zero_le _, rfl, rfl⟩
    case round =>
      obtain ⟨j, hj, rfl, rfl⟩ := hrel
      by_cases hlt : j < k
      · have HS := Lib.hid (pw_succ j)
        have hpj := pw_pos j
        have huj := pw_le (k := j) (by omega)
        go_wp2
        go_round
        case rel => exact ⟨j + 1, by omega, by go_num, ret_val HS.out⟩
        case measure => simp [intOf]; omega
      · obtain rfl : j = k := by omega
        obtain ⟨hb1, hb2⟩ := HB.out
        go_wp2
        go_ret
        exact ⟨rfl, rfl⟩
  · obtain ⟨f1, f2⟩ := floor_neg (n := n) (p := pw k) (by omega) hp
    obtain ⟨t1, t2⟩ := tdiv_bounds (n := n) (p := pw k) 2305843009213693952 hp h2 (by omega)
    have F1 := Lib.hid f1
    have F2 := Lib.hid f2
    clear f1 f2
    go_enter Try.func26, Try.ntmps26
    go_wp2
    go_loop [5, 6] (fun p i => ∃ j : Nat, j ≤ k ∧ i = .int .i64 j ∧ p = .int .i64 (pw j)) (fun _ i => k - (intOf i).toNat)
    case atStart => exact ⟨0, Nat.zero_le _, rfl, rfl⟩
    case round =>
      obtain ⟨j, hj, rfl, rfl⟩ := hrel
      by_cases hlt : j < k
      · have HS := Lib.hid (pw_succ j)
        have hpj := pw_pos j
        have huj := pw_le (k := j) (by omega)
        go_wp2
        go_round
        case rel => exact ⟨j + 1, by omega, by go_num, ret_val HS.out⟩
        case measure => simp [intOf]; omega
      · obtain rfl : j = k := by omega
        by_cases ht : n.tmod (pw j) < 0
        · have E := Lib.hid (F1.out ht)
          go_wp2
          go_ret
          exact ⟨ret_int E.out, rfl⟩
        · have E := Lib.hid (F2.out (by omega))
          go_wp2
          go_ret
          exact ⟨ret_int E.out, rfl⟩

theorem refdown_any (n k : Int) (w : World) (h0 : 0 ≤ k) (h1 : k ≤ 60) (h2 : -2305843009213693952 ≤ n) (h3 : n ≤ 2305843009213693952) :
    Calls Try.prog 26 #[.int .i64 n, .int .i64 k] w fun e w' => e = .returned (.int .i64 (n / 2 ^ k.toNat)) ∧ w = w' := by
  obtain ⟨K, rfl⟩ := Int.eq_ofNat_of_zero_le h0
  exact refdown_core n K w (by omega) h2 h3

theorem awake01 (w : World) : Calls Try.prog 9 #[] w fun e w' => e = .returned (.bool true) ∧ w = w' := by
  go_enter Try.func9, Try.ntmps9
  go_wp2_with fail
  refine (zig_at _).mono ?_
  rintro e w' ⟨rfl, rfl⟩
  go_wp2_with fail
  refine (up_at1 _).mono ?_
  rintro e w' ⟨rfl, rfl⟩
  go_wp2_with fail
  refine (up_at2 _).mono ?_
  rintro e w' ⟨rfl, rfl⟩
  go_wp2_with fail
  go_ret
  exact ⟨rfl, rfl⟩
end Go.Proofs.Ytdnihkmdigmnoaa
