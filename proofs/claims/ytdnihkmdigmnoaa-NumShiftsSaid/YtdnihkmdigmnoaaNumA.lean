/- Contracts of the program's and the document's small functions on numbers: what each returns, and that it leaves memory as it is. -/
import Derived.Test.YtdnihkmdigmnoaaRows
import Derived.Test.YtdnihkmdigmnoaaMathA
import Derived.Test.YtdnihkmdigmnoaaMathB
import Derived.WalkKit
import Derived.Lib.Hide
import Derived.WalkLawsBesides
import Derived.WalkSpells
import Derived.OpenShut
namespace Go.Proofs.Ytdnihkmdigmnoaa
open Go.RowKit

theorem ret_int {k : IntKind} {a b : Int} (h : a = b) : Ending.returned (.int k a) = .returned (.int k b) := by rw [h]

theorem down_any (n k : Int) (w : World) (h0 : 0 ≤ k) (h1 : k ≤ 60) :
    Calls Try.prog 25 #[.int .i64 n, .int .u64 k] w fun e w' => e = .returned (.int .i64 (n / 2 ^ k.toNat)) ∧ w = w' := by
  go_enter Try.func25, Try.ntmps25
  go_wp2
  go_ret
  exact ⟨rfl, rfl⟩

theorem up_any (n k : Int) (w : World) (h0 : 0 ≤ k) (h1 : k ≤ 60) (h2 : -4611686018427387904 ≤ n) (h3 : n ≤ 4611686018427387904) :
    Calls Try.prog 27 #[.int .i64 n, .int .u64 k] w fun e w' => e = .returned (.int .i64 (upv n k.toNat)) ∧ w = w' := by
  have hb := back_bounds n k.toNat
  have hp := pow_le_60 (k := k.toNat) (by omega)
  have hd := div_bounds n k.toNat 4611686018427387904 (by omega) (by omega)
  by_cases h : n / 2 ^ k.toNat * 2 ^ k.toNat = n
  · have e1 := upv_exact h
    have hE := Lib.hid e1
    have ht : (n / 2 ^ k.toNat * 2 ^ k.toNat != n) = false := by simpa using h
    clear h e1
    go_enter Try.func27, Try.ntmps27
    go_wp2_with (go_at_call 25; refine (down_any _ _ _ (by omega) (by omega)).mono ?_; rintro e w' ⟨rfl, rfl⟩)
    go_ret
    exact ⟨ret_int hE.out, rfl⟩
  · have e1 := upv_more h
    have hE := Lib.hid e1
    have ht : (n / 2 ^ k.toNat * 2 ^ k.toNat != n) = true := by simpa using h
    clear h e1
    go_enter Try.func27, Try.ntmps27
    go_wp2_with (go_at_call 25; refine (down_any _ _ _ (by omega) (by omega)).mono ?_; rintro e w' ⟨rfl, rfl⟩)
    go_ret
    exact ⟨ret_int hE.out, rfl⟩

theorem zig_any (n : Int) (w : World) (h1 : -9223372036854775808 ≤ n) (h2 : n ≤ 9223372036854775807) :
    Calls Try.prog 22 #[.int .i64 n] w fun e w' => e = .returned (.int .u64 (zigv n)) ∧ w = w' := by
  by_cases h : n < 0
  · have e1 : zigv n = (-n - 1) * 2 + 1 := by unfold zigv; rw [if_pos h]; omega
    have hE := Lib.hid e1
    have hs : IntKind.i64.signed = true := rfl
    have hx := not_i64 h1 h2
    have ho := or_one_even (m := -n - 1) (by omega) (by omega)
    clear e1
    go_enter Try.func22, Try.ntmps22
    go_wp2
    go_ret
    exact ⟨ret_int hE.out.symm, rfl⟩
  · have e1 : zigv n = n * 2 := by unfold zigv; rw [if_neg h]; omega
    have hE := Lib.hid e1
    clear e1
    go_enter Try.func22, Try.ntmps22
    go_wp2
    go_ret
    exact ⟨ret_int hE.out.symm, rfl⟩

theorem zag_any (c : Int) (w : World) (h1 : 0 ≤ c) (h2 : c ≤ 18446744073709551615) :
    Calls Try.prog 24 #[.int .u64 c] w fun e w' => e = .returned (.int .i64 (zagv c)) ∧ w = w' := by
  have ha := and_one_u64 c h1 h2
  by_cases h : c % 2 = 1
  · have e1 : zagv c = -(c / 2) - 1 := by unfold zagv; rw [if_pos h]
    have hE := Lib.hid e1
    have hs : IntKind.i64.signed = true := rfl
    have hx := not_i64 (n := c / 2) (by omega) (by omega)
    have ht : (c % 2 == 1) = true := by simpa using h
    clear e1 h
    go_enter Try.func24, Try.ntmps24
    go_wp2
    go_ret
    exact ⟨ret_int hE.out.symm, rfl⟩
  · have e1 : zagv c = c / 2 := by unfold zagv; rw [if_neg h]
    have hE := Lib.hid e1
    have ht : (c % 2 == 1) = false := by simpa using h
    clear e1 h
    go_enter Try.func24, Try.ntmps24
    go_wp2
    go_ret
    exact ⟨ret_int hE.out.symm, rfl⟩

theorem zig_at (w : World) : Calls Try.prog 22 #[.int .i64 (-1)] w fun e w' => e = .returned (.int .u64 1) ∧ w = w' :=
  (zig_any (-1) w (by decide) (by decide)).mono fun _ _ h => h
theorem up_at1 (w : World) : Calls Try.prog 27 #[.int .i64 (-3), .int .u64 1] w fun e w' => e = .returned (.int .i64 (-1)) ∧ w = w' :=
  (up_any (-3) 1 w (by decide) (by decide) (by decide) (by decide)).mono fun _ _ h => h
theorem up_at2 (w : World) : Calls Try.prog 27 #[.int .i64 3, .int .u64 1] w fun e w' => e = .returned (.int .i64 2) ∧ w = w' :=
  (up_any 3 1 w (by decide) (by decide) (by decide) (by decide)).mono fun _ _ h => h

theorem awake01 (w : World) : Calls Try.prog 9 #[] w fun e w' => e = .returned (.bool true) ∧ w = w' := by
  go_enter Try.func9, Try.ntmps9
  go_wp2_with fail
  refine (zig_at _).mono ?_
  rintro e w' ⟨rfl, rfl⟩
  go_wp2_with fail
  refine (up_at1 _).mono ?_
  rintro e w' ⟨rfl, rfl⟩
  go_wp2_with fail
  refine (up_at2 _).mono ?_
  rintro e w' ⟨rfl, rfl⟩
  go_wp2_with fail
  go_ret
  exact ⟨rfl, rfl⟩
end Go.Proofs.Ytdnihkmdigmnoaa
