/- Plain arithmetic for the seat's contracts: turned bits, zig-zag, what is laid by 'or'. Nothing of the program stands here. -/
import Derived.WalkKit
import Derived.Laws.BitsAllLaws
namespace Go.Proofs.YtjnienlidmmhdaaGreatDoor.Tk

/-- a whole number as a count -/
def zigv (n : Int) : Int := if n < 0 then -2 * n - 1 else 2 * n
/-- a count as a whole number -/
def zagv (c : Int) : Int := if c % 2 = 1 then -(c / 2) - 1 else c / 2

theorem not_i64 {n : Int} (h1 : -9223372036854775808 ≤ n) (h2 : n ≤ 9223372036854775807) : bits .xor .i64 (-1) n = -n - 1 := by
  show IntKind.i64.wrap ((BitVec.ofInt 64 (-1) ^^^ BitVec.ofInt 64 n).toNat : Int) = _
  have e1 : BitVec.ofInt 64 (-1) = BitVec.allOnes 64 := by decide
  rw [e1, BitVec.allOnes_xor, BitVec.toNat_not, BitVec.toNat_ofInt]
  have hm : n % ((2 ^ 64 : Nat) : Int) = n % 18446744073709551616 := rfl
  rw [hm]
  have b1 : 0 ≤ n % 18446744073709551616 := by omega
  have b2 : n % 18446744073709551616 < 18446744073709551616 := by omega
  obtain ⟨t, ht⟩ : ∃ t : Nat, (t : Int) = n % 18446744073709551616 := ⟨(n % 18446744073709551616).toNat, by omega⟩
  rw [← ht, Int.toNat_natCast]
  have e3 : ((2 ^ 64 - 1 - t : Nat) : Int) = 18446744073709551615 - t := by omega
  rw [e3, IntKind.wrap_i64]
  omega

theorem or_one_even {m : Int} (h0 : 0 ≤ m) (h1 : m < 9223372036854775808) : bits .or .u64 (m * 2) 1 = m * 2 + 1 := by
  rw [u64_or _ _ (by omega) (by omega) (by omega) (by omega)]
  rw [nat_join 1 _ _ (by omega) (by decide)]
  omega
theorem zag_zig (n : Int) : zagv (zigv n) = n := by unfold zagv zigv; split <;> split <;> omega
theorem zig_zag (c : Int) (h : 0 ≤ c) : zigv (zagv c) = c := by unfold zagv zigv; split <;> split <;> omega
theorem zig_bd {n : Int} (h1 : -9223372036854775808 ≤ n) (h2 : n ≤ 9223372036854775807) : 0 ≤ zigv n ∧ zigv n ≤ 18446744073709551615 := by unfold zigv; split <;> omega
theorem zag_bd {c : Int} (h1 : 0 ≤ c) (h2 : c ≤ 18446744073709551615) : -9223372036854775808 ≤ zagv c ∧ zagv c ≤ 9223372036854775807 := by unfold zagv; split <;> omega
end Go.Proofs.YtjnienlidmmhdaaGreatDoor.Tk
