/- Contracts of the program's differences, and of the document's own sum of whole numbers: what each returns, and that it leaves memory as it is. -/
import Derived.Test.YtdnihkmdigmnoaaAddA
namespace Go.Proofs.Ytdnihkmdigmnoaa
open Go.RowKit

def subV (a b : Int) : Int := if a < b then 0 else a - b
def subE (a b : Int) : Int := if a < b then 5 else 0

theorem sub_any (a b : Int) (w : World) (a1 : a ≤ 18446744073709551615) (b0 : 0 ≤ b) :
    Calls Try.prog 14 #[.int .u64 a, .int .u64 b] w fun e w' => e = .returned (.tuple #[.int .u64 (subV a b), .int .i64 (subE a b)]) ∧ w = w' := by
  by_cases h : a < b
  · have E1 : Hid (subV a b = 0) := if_pos h
    have E2 : Hid (subE a b = 5) := if_pos h
    go_enter Try.func14, Try.ntmps14
    go_wp2
    go_ret2
    exact ⟨ret_pair E1.out.symm E2.out.symm, rfl⟩
  · have E1 : Hid (subV a b = a - b) := if_neg h
    have E2 : Hid (subE a b = 0) := if_neg h
    go_enter Try.func14, Try.ntmps14
    go_wp2
    go_ret2
    exact ⟨ret_pair E1.out.symm E2.out.symm, rfl⟩

theorem subint_any (a b : Int) (w : World) (a0 : -9223372036854775808 ≤ a) (a1 : a ≤ 9223372036854775807) (b0 : -9223372036854775808 ≤ b) (b1 : b ≤ 9223372036854775807) :
    Calls Try.prog 15 #[.int .i64 a, .int .i64 b] w fun e w' => e = .returned (.tuple #[.int .i64 (intV (a - b)), .int .i64 (intE (a - b))]) ∧ w = w' := by
  by_cases hp : 0 < b
  · by_cases h : a < -9223372036854775808 + b
    · obtain ⟨e1, e2⟩ := int_over (s := a - b) (by unfold inI64; omega)
      have E1 := Lib.hid e1
      have E2 := Lib.hid e2
      clear e1 e2
      go_enter Try.func15, Try.ntmps15
      go_wp2
      go_ret2
      exact ⟨ret_pair E1.out.symm E2.out.symm, rfl⟩
    · obtain ⟨e1, e2⟩ := int_fits (s := a - b) (by unfold inI64; omega)
      have E1 := Lib.hid e1
      have E2 := Lib.hid e2
      clear e1 e2
      go_enter Try.func15, Try.ntmps15
      go_wp2
      go_ret2
      exact ⟨ret_pair E1.out.symm E2.out.symm, rfl⟩
  · by_cases hn : b < 0
    · by_cases h : 9223372036854775807 + b < a
      · obtain ⟨e1, e2⟩ := int_over (s := a - b) (by unfold inI64; omega)
        have E1 := Lib.hid e1
        have E2 := Lib.hid e2
        clear e1 e2
        go_enter Try.func15, Try.ntmps15
        go_wp2
        go_ret2
        exact ⟨ret_pair E1.out.symm E2.out.symm, rfl⟩
      · obtain ⟨e1, e2⟩ := int_fits (s := a - b) (by unfold inI64; omega)
        have E1 := Lib.hid e1
        have E2 := Lib.hid e2
        clear e1 e2
        go_enter Try.func15, Try.ntmps15
        go_wp2
        go_ret2
        exact ⟨ret_pair E1.out.symm E2.out.symm, rfl⟩
    · obtain ⟨e1, e2⟩ := int_fits (s := a - b) (by unfold inI64; omega)
      have E1 := Lib.hid e1
      have E2 := Lib.hid e2
      clear e1 e2
      have hz : (0 : Int) ≤ b := by omega
      go_enter Try.func15, Try.ntmps15
      go_wp2
      go_ret2
      exact ⟨ret_pair E1.out.symm E2.out.symm, rfl⟩

theorem refaddint_none (a : Option Addr) (cap : Nat) (f : Nat → Int) (w : World) :
    Calls Try.prog 13 #[.slice a 0 cap] w fun e w' => e = .returned (.tuple #[.int .i64 (intV (sumTo f 0)), .int .i64 (intE (sumTo f 0))]) ∧ w = w' := by
  obtain ⟨e1, e2⟩ := int_fits (s := sumTo f 0) (by show inI64 0; decide)
  have E1 := Lib.hid e1
  have E2 := Lib.hid e2
  clear e1 e2
  go_enter Try.func13, Try.ntmps13
  go_wp2
  refine wp_loop_rounds 1 ?_
  rw [rounds_succ]
  go_wp2
  go_ret2
  exact ⟨ret_pair E1.out.symm E2.out.symm, rfl⟩

theorem refaddint_row (b off len cap : Nat) (f : Nat → Int) (w : World) (hr : RowI w b off len f) (hlen : len ≤ 1000) :
    Calls Try.prog 13 #[.slice (some ⟨b, off, none⟩) len cap] w fun e w' => e = .returned (.tuple #[.int .i64 (intV (sumTo f len)), .int .i64 (intE (sumTo f len))]) ∧ w = w' := by
  obtain ⟨hm, hc⟩ := hr
  have HC := Lib.hid hc
  clear hc hm
  go_enter Try.func13, Try.ntmps13
  go_wp2
  go_loop [6, 4, 5] (fun i h l => ∃ (k : Nat) (p q : Int), k ≤ len ∧ i = .int .i64 k ∧ h = .int .i64 p ∧ l = .int .i64 q ∧ p * 4294967296 + q = sumTo f k ∧ 0 ≤ q ∧ q ≤ k * 4294967295 ∧ -(k : Int) * 2147483648 ≤ p ∧ p ≤ k * 2147483648) (fun i _ _ => len - (intOf i).toNat)
  case atStart => exact ⟨0, 0, 0, Nat.zero_le _, rfl, rfl, rfl, rfl, by decide, by decide, by decide, by decide⟩
  case round =>
    obtain ⟨k, p, q, hk, rfl, rfl, rfl, hs, q0, q1, p0, p1⟩ := hrel
    by_cases hlt : k < len
    · obtain ⟨c1, c2, c3⟩ := HC.out k hlt
      have hs' : sumTo f (k + 1) = sumTo f k + f k := rfl
      have HS := Lib.hid hs
      have HS' := Lib.hid hs'
      clear hs hs'
      by_cases hn : 0 ≤ f k
      · go_wp2
        go_round
        case rel =>
          have h1 := HS.out
          have h2 := HS'.out
          exact ⟨k + 1, _, _, by omega, by go_num, rfl, rfl, by rw [h2, ← h1]; omega, by omega, by omega, by omega, by omega⟩
        case measure => simp [intOf]; omega
      · obtain ⟨g1, g2⟩ := half_neg (n := f k) (by omega)
        obtain ⟨t0, t1⟩ := tdiv_bounds (n := f k) (p := 4294967296) 9223372036854775808 (by decide) c2 (by omega)
        obtain ⟨m0, m1⟩ := tmod_bd (f k) (p := 4294967296) (by decide)
        have G1 := Lib.hid g1
        have G2 := Lib.hid g2
        clear g1 g2
        by_cases hm : (f k).tmod 4294967296 < 0
        · obtain ⟨x1, x2⟩ := G1.out hm
          have X1 := Lib.hid x1
          have X2 := Lib.hid x2
          have y0 : -2147483648 ≤ (f k).tdiv 4294967296 - 1 := by omega
          have y1 : (f k).tdiv 4294967296 - 1 ≤ 0 := by omega
          clear x1 x2 G2
          go_wp2
          go_round
          case rel =>
            have h1 := HS.out
            have h2 := HS'.out
            have x1 := X1.out
            have x2 := X2.out
            exact ⟨k + 1, _, _, by omega, by go_num, rfl, rfl, by rw [h2, ← h1]; omega, by omega, by omega, by omega, by omega⟩
          case measure => simp [intOf]; omega
        · obtain ⟨x1, x2⟩ := G2.out (by omega)
          have X1 := Lib.hid x1
          have X2 := Lib.hid x2
          have y0 : -2147483648 ≤ (f k).tdiv 4294967296 := by omega
          clear x1 x2 G1
          go_wp2
          go_round
          case rel =>
            have h1 := HS.out
            have h2 := HS'.out
            have x1 := X1.out
            have x2 := X2.out
            exact ⟨k + 1, _, _, by omega, by go_num, rfl, rfl, by rw [h2, ← h1]; omega, by omega, by omega, by omega, by omega⟩
          case measure => simp [intOf]; omega
    · obtain rfl : k = len := by omega
      have HS := Lib.hid hs
      clear hs
      by_cases hA : 2147483647 < p + q / 4294967296
      · obtain ⟨e1, e2⟩ := int_over (s := sumTo f k) (by have := HS.out; unfold inI64; omega)
        have E1 := Lib.hid e1
        have E2 := Lib.hid e2
        clear e1 e2
        go_wp2
        go_ret2
        exact ⟨ret_pair E1.out.symm E2.out.symm, rfl⟩
      · by_cases hB : p + q / 4294967296 < -2147483648
        · obtain ⟨e1, e2⟩ := int_over (s := sumTo f k) (by have := HS.out; unfold inI64; omega)
          have E1 := Lib.hid e1
          have E2 := Lib.hid e2
          clear e1 e2
          go_wp2
          go_ret2
          exact ⟨ret_pair E1.out.symm E2.out.symm, rfl⟩
        · obtain ⟨e1, e2⟩ := int_fits (s := sumTo f k) (by have := HS.out; unfold inI64; omega)
          have E1 : Hid (intV (sumTo f k) = (p + q / 4294967296) * 4294967296 + q % 4294967296) := by have := HS.out; unfold Hid; omega
          have E2 := Lib.hid e2
          clear e1 e2
          go_wp2
          go_ret2
          exact ⟨ret_pair E1.out.symm E2.out.symm, rfl⟩
end Go.Proofs.Ytdnihkmdigmnoaa
