/- The contract of the library's division of 128 bits by 64 (math/bits.Div64), whole: where the high part is less than the divisor it returns the quotient and the rest; memory is left as it is but for draws. -/
import Derived.Test.YtdnihkmdigmnoaaDivW
namespace Go.Proofs.Ytdnihkmdigmnoaa
open Go.RowKit

/-- THE CONTRACT OF Div64. -/
theorem div_any (hi lo y : Int) (w : World) (h0 : 0 ≤ hi) (h1 : hi < y) (hy : y ≤ 18446744073709551615) (h2 : 0 ≤ lo) (h3 : lo ≤ 18446744073709551615) :
    Calls Try.prog 30 #[.int .u64 hi, .int .u64 lo, .int .u64 y] w fun e w' => e = .returned (.tuple #[.int .u64 (divq hi lo y), .int .u64 (divr hi lo y)]) ∧ ∃ n, w' = w.drewN n := by
  by_cases hz : hi = 0
  · subst hz
    refine (div_low lo y w (by omega) hy h2 h3).mono fun e w' ⟨he, hw⟩ => ⟨?_, hw⟩
    rw [he]
    unfold divq divr
    rw [Int.zero_mul, Int.zero_add]
  · obtain ⟨s, hs, hse, hTP, hP, hT, n1, n2⟩ := norm_bits (y := y) (by omega) hy
    obtain ⟨P, hPe⟩ : ∃ P : Int, P = 2 ^ s := ⟨_, rfl⟩
    obtain ⟨T, hTe⟩ : ∃ T : Int, T = 2 ^ (64 - s) := ⟨_, rfl⟩
    rw [← hPe, ← hTe] at hTP
    rw [← hPe] at hP n1 n2
    rw [← hTe] at hT
    obtain ⟨o1, o2, o3⟩ := norm_or (hi := hi) (lo := lo) (y := y) hPe hTP hP hT h0 h1 h2 h3 n2
    obtain ⟨Y, hY⟩ : ∃ Y, y * P = Y := ⟨_, rfl⟩
    rw [hY] at n1 n2 o2
    have hYs : Y / 4294967296 * 4294967296 + Y % 4294967296 = Y := by omega
    have hL0 : 0 ≤ lo * P % 18446744073709551616 := by omega
    have hL1 : lo * P % 18446744073709551616 < 18446744073709551616 := by omega
    have H1 : KnH (hi * P + lo / T) (Y / 4294967296) (Y % 4294967296) (lo * P % 18446744073709551616 / 4294967296) :=
      ⟨by omega, by omega, by omega, by omega, by omega, by omega, by omega, by omega⟩
    obtain ⟨r1, r2, r3⟩ := kn_rest H1
    have H2 : KnH (knRest (hi * P + lo / T) (Y / 4294967296) (Y % 4294967296) (lo * P % 18446744073709551616 / 4294967296)) (Y / 4294967296) (Y % 4294967296) (lo * P % 18446744073709551616 % 4294967296) :=
      ⟨by omega, by omega, by omega, by omega, by omega, by omega, by omega, by omega⟩
    obtain ⟨p1, p2, p3⟩ := kn_rest H2
    rw [hYs] at r2 r3 p2 p3
    obtain ⟨d1, d2⟩ := div_norm (hi := hi) (lo := lo) (y := y) hTP hP
      (q1 := (( hi * P + lo / T) * 4294967296 + lo * P % 18446744073709551616 / 4294967296) / Y) (un2 := knRest (hi * P + lo / T) (Y / 4294967296) (Y % 4294967296) (lo * P % 18446744073709551616 / 4294967296))
      (by rw [hY]; omega) (q0 := (knRest (hi * P + lo / T) (Y / 4294967296) (Y % 4294967296) (lo * P % 18446744073709551616 / 4294967296) * 4294967296 + lo * P % 18446744073709551616 % 4294967296) / Y)
      (z := knRest (knRest (hi * P + lo / T) (Y / 4294967296) (Y % 4294967296) (lo * P % 18446744073709551616 / 4294967296)) (Y / 4294967296) (Y % 4294967296) (lo * P % 18446744073709551616 % 4294967296)) (by rw [hY]; omega) p1 (by rw [hY]; exact p2)
    refine (div_core hi lo y Y (lo * P % 18446744073709551616) (hi * P + lo / T) (lo * P % 18446744073709551616 % 4294967296) (lo * P % 18446744073709551616 / 4294967296) (Y % 4294967296) (Y / 4294967296) _ _ (knRest (hi * P + lo / T) (Y / 4294967296) (Y % 4294967296) (lo * P % 18446744073709551616 / 4294967296)) (knRest (knRest (hi * P + lo / T) (Y / 4294967296) (Y % 4294967296) (lo * P % 18446744073709551616 / 4294967296)) (Y / 4294967296) (Y % 4294967296) (lo * P % 18446744073709551616 % 4294967296)) (divq hi lo y) (divr hi lo y) s P w hs hPe.symm
      (fun w => (Try.bits_LeadingZeros64 y w (by omega) hy).mono fun e w' ⟨he, hw⟩ => ⟨he.trans (by rw [hse]), hw.symm⟩) (by omega) h1 hY rfl (and_mask32 (by omega) n2) (by rw [← hTe]; exact o1) (IntKind.wrap_u64 _) rfl (and_mask32 hL0 (by omega)) H1 H2 rfl rfl ?_ ?_ ?_ ?_).mono fun e w' ⟨he, hw⟩ => ⟨he, 0, hw.symm⟩
    · rw [hYs]
      rw [wrap3 (by omega) (by omega)]
      exact r3.symm
    · rw [hYs]
      rw [wrap3 (by omega) (by omega)]
      exact p3.symm
    · rw [hYs]; exact d1
    · exact d2

end Go.Proofs.Ytdnihkmdigmnoaa
