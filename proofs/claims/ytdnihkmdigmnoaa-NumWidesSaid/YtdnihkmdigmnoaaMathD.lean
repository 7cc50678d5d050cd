/- Plain arithmetic for the seat's contracts: a division of 128 bits by 64, normed by a power of two, is the division that was asked. Nothing of the program stands here. -/
import Derived.Test.YtdnihkmdigmnoaaMathC
import Derived.Lib.ItoaNum
namespace Go.Proofs.Ytdnihkmdigmnoaa

theorem pow2_pos (k : Nat) : (0 : Int) < 2 ^ k := Int.pow_pos (by decide)

theorem and_mask32 {Y : Int} (h0 : 0 ≤ Y) (h1 : Y ≤ 18446744073709551615) : bits .and .u64 Y 4294967295 = Y % 4294967296 := by
  have h := bits_mask .u64 64 (by decide) (fun n h0 h1 => by rw [IntKind.wrap_u64]; omega) 32 (by decide) Y h0 (by omega)
  simpa using h

/-- what the library's way of dividing has to do with what is asked -/
theorem div_norm {hi lo y P T q1 q0 un2 z : Int} (hTP : T * P = 18446744073709551616) (hP : 0 < P)
    (hN1 : (hi * P + lo / T) * 4294967296 + lo * P % 18446744073709551616 / 4294967296 = q1 * (y * P) + un2)
    (hN2 : un2 * 4294967296 + lo * P % 18446744073709551616 % 4294967296 = q0 * (y * P) + z) (z0 : 0 ≤ z) (z1 : z < y * P) :
    q1 * 4294967296 + q0 = (hi * 18446744073709551616 + lo) / y ∧ z / P = (hi * 18446744073709551616 + lo) % y := by
  have e1 : lo * P / (T * P) = lo / T := Int.mul_ediv_mul_of_pos_left _ _ hP
  rw [hTP] at e1
  have hNP : (hi * 18446744073709551616 + lo) * P = (q1 * 4294967296 + q0) * (y * P) + z := by
    have a1 : (hi * 18446744073709551616 + lo) * P = hi * P * 18446744073709551616 + lo * P := by rw [Int.add_mul]; congr 1; rw [Int.mul_assoc, Int.mul_assoc, Int.mul_comm 18446744073709551616 P]
    have a2 : (q1 * 4294967296 + q0) * (y * P) = q1 * (y * P) * 4294967296 + q0 * (y * P) := by rw [Int.add_mul]; congr 1; rw [Int.mul_assoc, Int.mul_assoc, Int.mul_comm 4294967296 (y * P)]
    rw [a1, a2]
    rw [← e1] at hN1
    omega
  have hy : 0 < y * P := by omega
  have b1 : ((hi * 18446744073709551616 + lo) * P) / (y * P) = (hi * 18446744073709551616 + lo) / y := Int.mul_ediv_mul_of_pos_left _ _ hP
  have b2 : ((hi * 18446744073709551616 + lo) * P) % (y * P) = (hi * 18446744073709551616 + lo) % y * P := by
    rw [Int.mul_comm _ P, Int.mul_comm y P, Int.mul_emod_mul_of_pos _ _ hP, Int.mul_comm]
  have c1 : ((q1 * 4294967296 + q0) * (y * P) + z) / (y * P) = q1 * 4294967296 + q0 := by
    rw [Int.add_comm, Int.add_mul_ediv_right _ _ (by omega), Int.ediv_eq_zero_of_lt z0 z1]; omega
  have c2 : ((q1 * 4294967296 + q0) * (y * P) + z) % (y * P) = z := by
    rw [Int.add_comm, Int.add_mul_emod_self_right, Int.emod_eq_of_lt z0 z1]
  rw [hNP] at b1 b2
  rw [c1] at b1
  rw [c2] at b2
  exact ⟨b1, by rw [b2, Int.mul_ediv_cancel _ (by omega)]⟩

theorem norm_low {lo T P : Int} (hTP : T * P = 18446744073709551616) (hT : 0 < T) (h2 : 0 ≤ lo) (h3 : lo ≤ 18446744073709551615) : 0 ≤ lo / T ∧ lo / T < P := by
  refine ⟨Int.ediv_nonneg h2 (by omega), ?_⟩
  rw [Int.ediv_lt_iff_lt_mul hT, Int.mul_comm P T, hTP]
  omega

theorem norm_or {hi lo y P T : Int} {s : Nat} (hs : P = 2 ^ s) (hTP : T * P = 18446744073709551616) (hP : 0 < P) (hT : 0 < T)
    (h0 : 0 ≤ hi) (h1 : hi < y) (h2 : 0 ≤ lo) (h3 : lo ≤ 18446744073709551615) (n2 : y * P ≤ 18446744073709551615) :
    bits .or .u64 (IntKind.u64.wrap (hi * P)) (lo / T) = hi * P + lo / T ∧ hi * P + lo / T < y * P ∧ 0 ≤ hi * P + lo / T := by
  obtain ⟨l0, l1⟩ := norm_low hTP hT h2 h3
  have m0 : 0 ≤ hi * P := Int.mul_nonneg h0 (by omega)
  have m1 : hi * P ≤ y * P - P := by
    have h : hi * P ≤ (y - 1) * P := Int.mul_le_mul_of_nonneg_right (by omega) (by omega)
    rw [Int.sub_mul, Int.one_mul] at h
    exact h
  refine ⟨?_, by omega, by omega⟩
  have hw : IntKind.u64.wrap (hi * P) = hi * P := by rw [IntKind.wrap_u64]; omega
  rw [hw, u64_or _ _ m0 (by omega) l0 (by omega)]
  obtain ⟨H, rfl⟩ := Int.eq_ofNat_of_zero_le h0
  have e : ((H : Int) * P).toNat = H * 2 ^ s := by
    rw [hs]
    have : ((H : Int) * 2 ^ s) = ((H * 2 ^ s : Nat) : Int) := by simp
    rw [this, Int.toNat_natCast]
  have hlt : (lo / T).toNat < 2 ^ s := by
    have : ((lo / T).toNat : Int) < ((2 ^ s : Nat) : Int) := by
      rw [Int.toNat_of_nonneg l0]
      have : ((2 ^ s : Nat) : Int) = P := by rw [hs]; simp
      omega
    exact_mod_cast this
  rw [e, nat_join s _ _ (Nat.mul_mod_left _ _) hlt]
  rw [hs]
  push_cast
  rw [Int.toNat_of_nonneg l0]

/-- the divisor, normed -/
theorem norm_bits {y : Int} (h0 : 0 < y) (h1 : y ≤ 18446744073709551615) :
    ∃ s : Nat, s ≤ 63 ∧ ((s : Nat) : Int) = 64 - (Lib.bitLen y.toNat : Int) ∧ (2 : Int) ^ (64 - s) * 2 ^ s = 18446744073709551616 ∧ (0 : Int) < 2 ^ s ∧ (0 : Int) < 2 ^ (64 - s) ∧
      9223372036854775808 ≤ y * 2 ^ s ∧ y * 2 ^ s ≤ 18446744073709551615 := by
  obtain ⟨Y, rfl⟩ := Int.eq_ofNat_of_zero_le (Int.le_of_lt h0)
  obtain ⟨b1, b2, b3⟩ := Lib.bitLenAux_bounds 64 Y (by omega) (by omega)
  have b4 : Lib.bitLen Y ≤ 64 := Lib.bitLen_le Y 64 (by decide) (by omega)
  change 1 ≤ Lib.bitLen Y at b1
  change 2 ^ (Lib.bitLen Y - 1) ≤ Y at b2
  change Y < 2 ^ Lib.bitLen Y at b3
  rw [Int.toNat_natCast]
  generalize Lib.bitLen Y = n at *
  refine ⟨64 - n, by omega, by omega, ?_, pow2_pos _, pow2_pos _, ?_, ?_⟩
  · rw [← Int.pow_add, show 64 - (64 - n) + (64 - n) = 64 by omega]; decide
  · have h : 2 ^ (n - 1) * 2 ^ (64 - n) ≤ Y * 2 ^ (64 - n) := Nat.mul_le_mul_right _ b2
    rw [← Nat.pow_add, show n - 1 + (64 - n) = 63 by omega] at h
    have h' : ((2 ^ 63 : Nat) : Int) ≤ ((Y * 2 ^ (64 - n) : Nat) : Int) := by exact_mod_cast h
    simpa using h'
  · have h : Y * 2 ^ (64 - n) < 2 ^ n * 2 ^ (64 - n) := Nat.mul_lt_mul_of_pos_right b3 (Nat.two_pow_pos _)
    rw [← Nat.pow_add, show n + (64 - n) = 64 by omega] at h
    have h' : ((Y * 2 ^ (64 - n) : Nat) : Int) < ((2 ^ 64 : Nat) : Int) := by exact_mod_cast h
    have h'' : (Y : Int) * 2 ^ (64 - n) < 18446744073709551616 := by simpa using h'
    omega
end Go.Proofs.Ytdnihkmdigmnoaa
