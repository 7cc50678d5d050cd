/- The library's division of 128 bits by 64. -/
import Derived.Test.YtbibhjcmdehdbaaHsA
import Derived.Test.YtbibhjcmdehdbaaRkM
import Derived.Test.YtbibhjcmdehdbaaShelfB
import Derived.Deep.QuietTactic
import Derived.BigQuiet
namespace Go.Proofs.Ytbibhjcmdehdbaa
open Go.RowKit


def divq (hi lo y : Int) : Int := (hi * two64 + lo) / y
def divr (hi lo y : Int) : Int := (hi * two64 + lo) % y

theorem div_low (lo y : Int) (w : World) (h0 : 0 < y) (h1 : y ≤ 18446744073709551615) (h2 : 0 ≤ lo) (h3 : lo ≤ 18446744073709551615) :
    Calls Try.prog 100 #[.int .u64 0, .int .u64 lo, .int .u64 y] w fun e w' => e = .returned (.tuple #[.int .u64 (lo / y), .int .u64 (lo % y)]) ∧ ∃ n, w' = w.drewN n := by
  have hy : (y == 0) = false := by simp; omega
  have hq0 : 0 ≤ lo / y := Int.ediv_nonneg h2 (by omega)
  have hq1 : lo / y ≤ lo := Int.ediv_le_self y h2
  go_enter Try.func100, Try.ntmps100
  go_wp2
  go_quiet (fail)
  go_wp2
  go_ret2
  exact ⟨rfl, _, rfl⟩

theorem ret_two {a b c : Int} (h : a = b) : Ending.returned (.tuple #[.int .u64 a, .int .u64 c]) = .returned (.tuple #[.int .u64 b, .int .u64 c]) := by rw [h]

theorem wrap3 {a b c d : Int} (h0 : 0 ≤ a * 4294967296 + b - c * d) (h1 : a * 4294967296 + b - c * d ≤ 18446744073709551615) :
    IntKind.u64.wrap (IntKind.u64.wrap (IntKind.u64.wrap (a * 4294967296) + b) - IntKind.u64.wrap (c * d)) = a * 4294967296 + b - c * d := by
  simp only [IntKind.wrap_u64]
  omega

theorem div_core (hi lo y Y L un u0 u1 y0 y1 q1 q0 un2 z qq rr : Int) (s : Nat) (P : Int) (w : World) (hs : s ≤ 63) (hP : (2 : Int) ^ s = P)
    (hz : ∀ w : World, Calls Try.prog 116 #[.int .u64 y] w fun e w' => e = .returned (.int .i64 (s : Int)) ∧ w = w')
    (h0 : 0 < hi) (h1 : hi < y)
    (EY : y * P = Y) (E1 : Y / 4294967296 = y1) (E2 : bits .and .u64 Y 4294967295 = y0)
    (E3 : bits .or .u64 (IntKind.u64.wrap (hi * P)) (lo / 2 ^ (64 - s)) = un)
    (EL : IntKind.u64.wrap (lo * P) = L) (E4 : L / 4294967296 = u1) (E5 : bits .and .u64 L 4294967295 = u0)
    (H1 : KnH un y1 y0 u1) (H2 : KnH un2 y1 y0 u0)
    (Q1 : (un * 4294967296 + u1) / (y1 * 4294967296 + y0) = q1) (Q0 : (un2 * 4294967296 + u0) / (y1 * 4294967296 + y0) = q0)
    (X1 : IntKind.u64.wrap (IntKind.u64.wrap (IntKind.u64.wrap (un * 4294967296) + u1) - IntKind.u64.wrap (q1 * Y)) = un2)
    (X0 : IntKind.u64.wrap (IntKind.u64.wrap (IntKind.u64.wrap (un2 * 4294967296) + u0) - IntKind.u64.wrap (q0 * Y)) = z)
    (F1 : q1 * 4294967296 + q0 = qq) (F0 : z / P = rr) :
    Calls Try.prog 100 #[.int .u64 hi, .int .u64 lo, .int .u64 y] w fun e w' => e = .returned (.tuple #[.int .u64 qq, .int .u64 rr]) ∧ w = w' := by
  have t0 : (y == 0) = false := by simp; omega
  have t1 : (hi == 0) = false := by simp; omega
  obtain ⟨a1, a2, a3, a4, a5, a6, a7, a8⟩ := H1
  have H1' : Hid (KnH un y1 y0 u1) := ⟨a1, a2, a3, a4, a5, a6, a7, a8⟩
  have hq1 : 0 ≤ q1 := by rw [← Q1]; exact kn_nonneg H1'.out
  have hq2 : q1 < 4294967296 := by rw [← Q1]; exact kn_below H1'.out
  have HZ := Lib.hid hz
  have HQ1 := Lib.hid Q1
  have HQ0 := Lib.hid Q0
  have HH2 := Lib.hid H2
  have HX1 := Lib.hid X1
  have HX0 := Lib.hid X0
  have HF1 := Lib.hid F1
  have HF0 := Lib.hid F0
  have hqa := kn_start H1'.out
  obtain ⟨qa, hqa'⟩ : ∃ q, un / y1 = q := ⟨_, rfl⟩
  have hra : un % y1 = un - qa * y1 := by rw [Int.emod_def, Int.mul_comm y1, hqa']
  rw [hqa', hra] at hqa
  have HQA := Lib.hid hqa
  obtain ⟨k1, k2, k3, k4, k5⟩ := hqa
  have qa0 : 0 ≤ qa := by rw [← hqa']; exact Int.ediv_nonneg a5 (by omega)
  have p0 : 0 ≤ qa * y1 := Int.mul_nonneg qa0 (by omega)
  have p1 : qa * y1 ≤ un := by omega
  have p2 : un ≤ 18446744073709551615 := by omega
  obtain ⟨c1, c2, c3, c4, c5, c6, c7, c8⟩ := H2
  have hqb := kn_start HH2.out
  obtain ⟨qb, hqb'⟩ : ∃ q, un2 / y1 = q := ⟨_, rfl⟩
  have hrb : un2 % y1 = un2 - qb * y1 := by rw [Int.emod_def, Int.mul_comm y1, hqb']
  rw [hqb', hrb] at hqb
  have HQB := Lib.hid hqb
  have HB' := Lib.hid hqb'
  obtain ⟨j1, j2, j3, j4, j5⟩ := hqb
  have qb0 : 0 ≤ qb := by rw [← hqb']; exact Int.ediv_nonneg c5 (by omega)
  have r0 : 0 ≤ qb * y1 := Int.mul_nonneg qb0 (by omega)
  have r1 : qb * y1 ≤ un2 := by omega
  have r2 : un2 ≤ 18446744073709551615 := by omega
  have hq3 : 0 ≤ q0 := by rw [← Q0]; exact kn_nonneg HH2.out
  have hq4 : q0 < 4294967296 := by rw [← Q0]; exact kn_below HH2.out
  clear hz Q1 Q0 X1 X0 F1 F0 hra k1 k4 hrb j1 j4 hqb' c1 c2 c3 c4
  go_enter Try.func100, Try.ntmps100
  go_wp2_with (go_at_call 116; refine (HZ.out _).mono ?_; rintro e w' ⟨rfl, rfl⟩)
  clear E1 E2 E3 EL E4 E5 EY h0 t0 t1
  go_loop [15, 16] (fun q r => ∃ a b : Int, q = .int .u64 a ∧ r = .int .u64 b ∧ Kn un y1 y0 u1 a b) (fun q _ => (intOf q).toNat)
  case atStart => exact ⟨qa, un - qa * y1, ret_val hqa', rfl, HQA.out⟩
  case round =>
    clear hqa'
    obtain ⟨a, b, rfl, rfl, K⟩ := hrel
    obtain ⟨d1, d2, d3⟩ := kn_prod H1'.out K
    have KK := Lib.hid K
    obtain ⟨k1, k2, k3, k4, k5⟩ := K
    have ho : (4294967296 ≤ a ∨ 4294967296 * b + u1 < a * y0) → q1 ≤ a - 1 := fun ht => HQ1.out ▸ kn_over H1'.out KK.out ht
    have HO := Lib.hid ho
    clear k1 k4 ho
    by_cases hA : 4294967296 ≤ a
    · have o1 := HO.out (.inl hA)
      by_cases hr : b + y1 < 4294967296
      · have HK := Lib.hid (kn_more H1'.out KK.out (.inl hA) hr)
        clear d3
        go_wp2
        go_round
        case rel => exact ⟨a - 1, b + y1, rfl, rfl, HK.out⟩
        case measure => simp [intOf]; omega
      · have hE : a - 1 = q1 := (kn_last H1'.out KK.out (.inl hA) (by omega)).trans HQ1.out
        clear d3
        have x1 := HX1.out
        have hqb' := HB'.out
        go_wp2
        clear x1 hE d1 d2 k2 k3 k5 KK HO o1 hA hr
        go_loop [18, 16] (fun q r => ∃ a b : Int, q = .int .u64 a ∧ r = .int .u64 b ∧ Kn un2 y1 y0 u0 a b) (fun q _ => (intOf q).toNat)
        case atStart => exact ⟨qb, un2 - qb * y1, rfl, rfl, HQB.out⟩
        case round =>
          obtain ⟨a, b, rfl, rfl, K⟩ := hrel
          obtain ⟨d1, d2, d3⟩ := kn_prod HH2.out K
          have KK := Lib.hid K
          obtain ⟨k1, k2, k3, k4, k5⟩ := K
          have ho : (4294967296 ≤ a ∨ 4294967296 * b + u0 < a * y0) → q0 ≤ a - 1 := fun ht => HQ0.out ▸ kn_over HH2.out KK.out ht
          have HO := Lib.hid ho
          clear k1 k4 ho hqb'
          by_cases hA : 4294967296 ≤ a
          · have o1 := HO.out (.inl hA)
            by_cases hr : b + y1 < 4294967296
            · have HK := Lib.hid (kn_more HH2.out KK.out (.inl hA) hr)
              clear d3
              go_wp2
              go_round
              case rel => exact ⟨a - 1, b + y1, rfl, rfl, HK.out⟩
              case measure => simp [intOf]; omega
            · have hE : a - 1 = q0 := (kn_last HH2.out KK.out (.inl hA) (by omega)).trans HQ0.out
              have x0 := HX0.out
              have f0 := HF0.out
              clear d3
              go_wp2
              go_ret2
              exact ⟨ret_two HF1.out, rfl⟩
          · have d4 := d3 (by omega)
            by_cases hB : 4294967296 * b + u0 < a * y0
            · have o1 := HO.out (.inr hB)
              by_cases hr : b + y1 < 4294967296
              · have HK := Lib.hid (kn_more HH2.out KK.out (.inr hB) hr)
                clear d3
                go_wp2
                go_round
                case rel => exact ⟨a - 1, b + y1, rfl, rfl, HK.out⟩
                case measure => simp [intOf]; omega
              · have hE : a - 1 = q0 := (kn_last HH2.out KK.out (.inr hB) (by omega)).trans HQ0.out
                have x0 := HX0.out
                have f0 := HF0.out
                clear d3
                go_wp2
                go_ret2
                exact ⟨ret_two HF1.out, rfl⟩
            · obtain rfl : q0 = a := ((kn_done HH2.out KK.out hB).trans HQ0.out).symm
              have x0 := HX0.out
              have f0 := HF0.out
              clear d3
              go_wp2
              go_ret2
              exact ⟨ret_two HF1.out, rfl⟩
    · have d4 := d3 (by omega)
      by_cases hB : 4294967296 * b + u1 < a * y0
      · have o1 := HO.out (.inr hB)
        by_cases hr : b + y1 < 4294967296
        · have HK := Lib.hid (kn_more H1'.out KK.out (.inr hB) hr)
          clear d3
          go_wp2
          go_round
          case rel => exact ⟨a - 1, b + y1, rfl, rfl, HK.out⟩
          case measure => simp [intOf]; omega
        · have hE : a - 1 = q1 := (kn_last H1'.out KK.out (.inr hB) (by omega)).trans HQ1.out
          clear d3
          have x1 := HX1.out
          have hqb' := HB'.out
          go_wp2
          clear x1 hE d1 d2 k2 k3 k5 KK HO o1 hA hr d4 hB
          go_loop [18, 16] (fun q r => ∃ a b : Int, q = .int .u64 a ∧ r = .int .u64 b ∧ Kn un2 y1 y0 u0 a b) (fun q _ => (intOf q).toNat)
          case atStart => exact ⟨qb, un2 - qb * y1, rfl, rfl, HQB.out⟩
          case round =>
            obtain ⟨a, b, rfl, rfl, K⟩ := hrel
            obtain ⟨d1, d2, d3⟩ := kn_prod HH2.out K
            have KK := Lib.hid K
            obtain ⟨k1, k2, k3, k4, k5⟩ := K
            have ho : (4294967296 ≤ a ∨ 4294967296 * b + u0 < a * y0) → q0 ≤ a - 1 := fun ht => HQ0.out ▸ kn_over HH2.out KK.out ht
            have HO := Lib.hid ho
            clear k1 k4 ho hqb'
            by_cases hA : 4294967296 ≤ a
            · have o1 := HO.out (.inl hA)
              by_cases hr : b + y1 < 4294967296
              · have HK := Lib.hid (kn_more HH2.out KK.out (.inl hA) hr)
                clear d3
                go_wp2
                go_round
                case rel => exact ⟨a - 1, b + y1, rfl, rfl, HK.out⟩
                case measure => simp [intOf]; omega
              · have hE : a - 1 = q0 := (kn_last HH2.out KK.out (.inl hA) (by omega)).trans HQ0.out
                have x0 := HX0.out
                have f0 := HF0.out
                clear d3
                go_wp2
                go_ret2
                exact ⟨ret_two HF1.out, rfl⟩
            · have d4 := d3 (by omega)
              by_cases hB : 4294967296 * b + u0 < a * y0
              · have o1 := HO.out (.inr hB)
                by_cases hr : b + y1 < 4294967296
                · have HK := Lib.hid (kn_more HH2.out KK.out (.inr hB) hr)
                  clear d3
                  go_wp2
                  go_round
                  case rel => exact ⟨a - 1, b + y1, rfl, rfl, HK.out⟩
                  case measure => simp [intOf]; omega
                · have hE : a - 1 = q0 := (kn_last HH2.out KK.out (.inr hB) (by omega)).trans HQ0.out
                  have x0 := HX0.out
                  have f0 := HF0.out
                  clear d3
                  go_wp2
                  go_ret2
                  exact ⟨ret_two HF1.out, rfl⟩
              · obtain rfl : q0 = a := ((kn_done HH2.out KK.out hB).trans HQ0.out).symm
                have x0 := HX0.out
                have f0 := HF0.out
                clear d3
                go_wp2
                go_ret2
                exact ⟨ret_two HF1.out, rfl⟩
      · obtain rfl : q1 = a := ((kn_done H1'.out KK.out hB).trans HQ1.out).symm
        clear d3
        have x1 := HX1.out
        have hqb' := HB'.out
        go_wp2
        clear x1 d1 d2 k2 k3 k5 KK HO hA d4 hB
        go_loop [18, 16] (fun q r => ∃ a b : Int, q = .int .u64 a ∧ r = .int .u64 b ∧ Kn un2 y1 y0 u0 a b) (fun q _ => (intOf q).toNat)
        case atStart => exact ⟨qb, un2 - qb * y1, rfl, rfl, HQB.out⟩
        case round =>
          obtain ⟨a, b, rfl, rfl, K⟩ := hrel
          obtain ⟨d1, d2, d3⟩ := kn_prod HH2.out K
          have KK := Lib.hid K
          obtain ⟨k1, k2, k3, k4, k5⟩ := K
          have ho : (4294967296 ≤ a ∨ 4294967296 * b + u0 < a * y0) → q0 ≤ a - 1 := fun ht => HQ0.out ▸ kn_over HH2.out KK.out ht
          have HO := Lib.hid ho
          clear k1 k4 ho hqb'
          by_cases hA : 4294967296 ≤ a
          · have o1 := HO.out (.inl hA)
            by_cases hr : b + y1 < 4294967296
            · have HK := Lib.hid (kn_more HH2.out KK.out (.inl hA) hr)
              clear d3
              go_wp2
              go_round
              case rel => exact ⟨a - 1, b + y1, rfl, rfl, HK.out⟩
              case measure => simp [intOf]; omega
            · have hE : a - 1 = q0 := (kn_last HH2.out KK.out (.inl hA) (by omega)).trans HQ0.out
              have x0 := HX0.out
              have f0 := HF0.out
              clear d3
              go_wp2
              go_ret2
              exact ⟨ret_two HF1.out, rfl⟩
          · have d4 := d3 (by omega)
            by_cases hB : 4294967296 * b + u0 < a * y0
            · have o1 := HO.out (.inr hB)
              by_cases hr : b + y1 < 4294967296
              · have HK := Lib.hid (kn_more HH2.out KK.out (.inr hB) hr)
                clear d3
                go_wp2
                go_round
                case rel => exact ⟨a - 1, b + y1, rfl, rfl, HK.out⟩
                case measure => simp [intOf]; omega
              · have hE : a - 1 = q0 := (kn_last HH2.out KK.out (.inr hB) (by omega)).trans HQ0.out
                have x0 := HX0.out
                have f0 := HF0.out
                clear d3
                go_wp2
                go_ret2
                exact ⟨ret_two HF1.out, rfl⟩
            · obtain rfl : q0 = a := ((kn_done HH2.out KK.out hB).trans HQ0.out).symm
              have x0 := HX0.out
              have f0 := HF0.out
              clear d3
              go_wp2
              go_ret2
              exact ⟨ret_two HF1.out, rfl⟩

end Go.Proofs.Ytbibhjcmdehdbaa

namespace Go.Proofs.Ytbibhjcmdehdbaa
open Go.RowKit

/-- THE CONTRACT OF Div64. -/
theorem div_any (hi lo y : Int) (w : World) (h0 : 0 ≤ hi) (h1 : hi < y) (hy : y ≤ 18446744073709551615) (h2 : 0 ≤ lo) (h3 : lo ≤ 18446744073709551615) :
    Calls Try.prog 100 #[.int .u64 hi, .int .u64 lo, .int .u64 y] w fun e w' => e = .returned (.tuple #[.int .u64 (divq hi lo y), .int .u64 (divr hi lo y)]) ∧ ∃ n, w' = w.drewN n := by
  by_cases hz : hi = 0
  · subst hz
    refine (div_low lo y w (by omega) hy h2 h3).mono fun e w' ⟨he, hw⟩ => ⟨?_, hw⟩
    rw [he]
    unfold divq divr
    rw [Int.zero_mul, Int.zero_add]
  · obtain ⟨s, hs, hse, hTP, hP, hT, n1, n2⟩ := norm_bits (y := y) (by omega) hy
    obtain ⟨P, hPe⟩ : ∃ P : Int, P = 2 ^ s := ⟨_, rfl⟩
    obtain ⟨T, hTe⟩ : ∃ T : Int, T = 2 ^ (64 - s) := ⟨_, rfl⟩
    rw [← hPe, ← hTe] at hTP
    rw [← hPe] at hP n1 n2
    rw [← hTe] at hT
    obtain ⟨o1, o2, o3⟩ := norm_or (hi := hi) (lo := lo) (y := y) hPe hTP hP hT h0 h1 h2 h3 n2
    obtain ⟨Y, hY⟩ : ∃ Y, y * P = Y := ⟨_, rfl⟩
    rw [hY] at n1 n2 o2
    have hYs : Y / 4294967296 * 4294967296 + Y % 4294967296 = Y := by omega
    have hL0 : 0 ≤ lo * P % 18446744073709551616 := by omega
    have hL1 : lo * P % 18446744073709551616 < 18446744073709551616 := by omega
    have H1 : KnH (hi * P + lo / T) (Y / 4294967296) (Y % 4294967296) (lo * P % 18446744073709551616 / 4294967296) :=
      ⟨by omega, by omega, by omega, by omega, by omega, by omega, by omega, by omega⟩
    obtain ⟨r1, r2, r3⟩ := kn_rest H1
    have H2 : KnH (knRest (hi * P + lo / T) (Y / 4294967296) (Y % 4294967296) (lo * P % 18446744073709551616 / 4294967296)) (Y / 4294967296) (Y % 4294967296) (lo * P % 18446744073709551616 % 4294967296) :=
      ⟨by omega, by omega, by omega, by omega, by omega, by omega, by omega, by omega⟩
    obtain ⟨p1, p2, p3⟩ := kn_rest H2
    rw [hYs] at r2 r3 p2 p3
    obtain ⟨d1, d2⟩ := div_norm (hi := hi) (lo := lo) (y := y) hTP hP
      (q1 := (( hi * P + lo / T) * 4294967296 + lo * P % 18446744073709551616 / 4294967296) / Y) (un2 := knRest (hi * P + lo / T) (Y / 4294967296) (Y % 4294967296) (lo * P % 18446744073709551616 / 4294967296))
      (by rw [hY]; omega) (q0 := (knRest (hi * P + lo / T) (Y / 4294967296) (Y % 4294967296) (lo * P % 18446744073709551616 / 4294967296) * 4294967296 + lo * P % 18446744073709551616 % 4294967296) / Y)
      (z := knRest (knRest (hi * P + lo / T) (Y / 4294967296) (Y % 4294967296) (lo * P % 18446744073709551616 / 4294967296)) (Y / 4294967296) (Y % 4294967296) (lo * P % 18446744073709551616 % 4294967296)) (by rw [hY]; omega) p1 (by rw [hY]; exact p2)
    refine (div_core hi lo y Y (lo * P % 18446744073709551616) (hi * P + lo / T) (lo * P % 18446744073709551616 % 4294967296) (lo * P % 18446744073709551616 / 4294967296) (Y % 4294967296) (Y / 4294967296) _ _ (knRest (hi * P + lo / T) (Y / 4294967296) (Y % 4294967296) (lo * P % 18446744073709551616 / 4294967296)) (knRest (knRest (hi * P + lo / T) (Y / 4294967296) (Y % 4294967296) (lo * P % 18446744073709551616 / 4294967296)) (Y / 4294967296) (Y % 4294967296) (lo * P % 18446744073709551616 % 4294967296)) (divq hi lo y) (divr hi lo y) s P w hs hPe.symm
      (fun w => (Try.bits_LeadingZeros64 y w (by omega) hy).mono fun e w' ⟨he, hw⟩ => ⟨he.trans (by rw [hse]), hw.symm⟩) (by omega) h1 hY rfl (and_mask32 (by omega) n2) (by rw [← hTe]; exact o1) (IntKind.wrap_u64 _) rfl (and_mask32 hL0 (by omega)) H1 H2 rfl rfl ?_ ?_ ?_ ?_).mono fun e w' ⟨he, hw⟩ => ⟨he, 0, hw.symm⟩
    · rw [hYs]
      rw [wrap3 (by omega) (by omega)]
      exact r3.symm
    · rw [hYs]
      rw [wrap3 (by omega) (by omega)]
      exact p3.symm
    · rw [hYs]; exact d1
    · exact d2

end Go.Proofs.Ytbibhjcmdehdbaa
