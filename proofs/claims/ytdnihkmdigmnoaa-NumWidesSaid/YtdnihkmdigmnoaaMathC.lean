/- Plain arithmetic for the seat's contracts: long division of 128 bits by 64, two digits of 32 bits, digit by digit. Nothing of the program stands here. -/
import Derived.WalkKit
import Derived.Laws.BitsAllLaws
import Derived.Laws.MathBits
namespace Go.Proofs.Ytdnihkmdigmnoaa

/-- one digit's guess: what holds of the guess q and its rest r -/
def Kn (un y1 y0 u1 q r : Int) : Prop :=
  q * y1 + r = un ∧ 0 ≤ r ∧ r < 4294967296 ∧ (un * 4294967296 + u1) / (y1 * 4294967296 + y0) ≤ q ∧ q ≤ 4294967297

/-- what the digits of a normed divisor meet -/
def KnH (un y1 y0 u1 : Int) : Prop :=
  2147483648 ≤ y1 ∧ y1 < 4294967296 ∧ 0 ≤ y0 ∧ y0 < 4294967296 ∧ 0 ≤ un ∧ un < y1 * 4294967296 + y0 ∧ 0 ≤ u1 ∧ u1 < 4294967296

theorem kn_nonneg {un y1 y0 u1 : Int} (H : KnH un y1 y0 u1) : 0 ≤ (un * 4294967296 + u1) / (y1 * 4294967296 + y0) := by
  obtain ⟨a, b, c, d, e, f, g, h⟩ := H
  exact Int.ediv_nonneg (by omega) (by omega)

theorem kn_below {un y1 y0 u1 : Int} (H : KnH un y1 y0 u1) : (un * 4294967296 + u1) / (y1 * 4294967296 + y0) < 4294967296 := by
  obtain ⟨a, b, c, d, e, f, g, h⟩ := H
  rw [Int.ediv_lt_iff_lt_mul (by omega)]
  omega

theorem kn_split (q y1 y0 : Int) : q * (y1 * 4294967296 + y0) = q * y1 * 4294967296 + q * y0 := by
  rw [Int.mul_add, Int.mul_assoc]

theorem kn_start {un y1 y0 u1 : Int} (H : KnH un y1 y0 u1) : Kn un y1 y0 u1 (un / y1) (un % y1) := by
  have H' := H
  obtain ⟨a, b, c, d, e, f, g, h⟩ := H
  have h1 := Int.mul_ediv_add_emod un y1
  have h2 := Int.emod_nonneg un (show y1 ≠ 0 by omega)
  have h3 := Int.emod_lt_of_pos un (show 0 < y1 by omega)
  have hc : y1 * (un / y1) = un / y1 * y1 := Int.mul_comm _ _
  refine ⟨by omega, h2, by omega, ?_, ?_⟩
  · have : (un * 4294967296 + u1) / (y1 * 4294967296 + y0) < un / y1 + 1 := by
      rw [Int.ediv_lt_iff_lt_mul (by omega), kn_split]
      have e1 : (un / y1 + 1) * y1 = un / y1 * y1 + y1 := by rw [Int.add_mul, Int.one_mul]
      have e2 : 0 ≤ (un / y1 + 1) * y0 := Int.mul_nonneg (by have := Int.ediv_nonneg e (show 0 ≤ y1 by omega); omega) c
      rw [e1]
      omega
    omega
  · have : un / y1 < 4294967298 := by
      rw [Int.ediv_lt_iff_lt_mul (by omega)]
      omega
    omega

theorem kn_over {un y1 y0 u1 q r : Int} (H : KnH un y1 y0 u1) (K : Kn un y1 y0 u1 q r) (ht : 4294967296 ≤ q ∨ 4294967296 * r + u1 < q * y0) :
    (un * 4294967296 + u1) / (y1 * 4294967296 + y0) ≤ q - 1 := by
  have hb := kn_below H
  obtain ⟨a, b, c, d, e, f, g, h⟩ := H
  obtain ⟨k1, k2, k3, k4, k5⟩ := K
  rcases ht with ht | ht
  · omega
  · have : (un * 4294967296 + u1) / (y1 * 4294967296 + y0) < q := by
      rw [Int.ediv_lt_iff_lt_mul (by omega), kn_split]
      omega
    omega

theorem kn_more {un y1 y0 u1 q r : Int} (H : KnH un y1 y0 u1) (K : Kn un y1 y0 u1 q r) (ht : 4294967296 ≤ q ∨ 4294967296 * r + u1 < q * y0) (hr : r + y1 < 4294967296) :
    Kn un y1 y0 u1 (q - 1) (r + y1) := by
  have ho := kn_over H K ht
  obtain ⟨a, b, c, d, e, f, g, h⟩ := H
  obtain ⟨k1, k2, k3, k4, k5⟩ := K
  refine ⟨?_, by omega, hr, ho, by omega⟩
  rw [Int.sub_mul, Int.one_mul]; omega

theorem kn_last {un y1 y0 u1 q r : Int} (H : KnH un y1 y0 u1) (K : Kn un y1 y0 u1 q r) (ht : 4294967296 ≤ q ∨ 4294967296 * r + u1 < q * y0) (hr : 4294967296 ≤ r + y1) :
    q - 1 = (un * 4294967296 + u1) / (y1 * 4294967296 + y0) := by
  have ho := kn_over H K ht
  have hn := kn_nonneg H
  obtain ⟨a, b, c, d, e, f, g, h⟩ := H
  obtain ⟨k1, k2, k3, k4, k5⟩ := K
  have hle : q - 1 ≤ (un * 4294967296 + u1) / (y1 * 4294967296 + y0) := by
    rw [Int.le_ediv_iff_mul_le (by omega), kn_split]
    have e1 : (q - 1) * y1 = q * y1 - y1 := by rw [Int.sub_mul, Int.one_mul]
    have e2 : (q - 1) * y0 ≤ 4294967296 * y0 := Int.mul_le_mul_of_nonneg_right (by omega) c
    rw [e1]
    omega
  omega

theorem kn_done {un y1 y0 u1 q r : Int} (H : KnH un y1 y0 u1) (K : Kn un y1 y0 u1 q r) (ht : ¬ 4294967296 * r + u1 < q * y0) :
    q = (un * 4294967296 + u1) / (y1 * 4294967296 + y0) := by
  obtain ⟨a, b, c, d, e, f, g, h⟩ := H
  obtain ⟨k1, k2, k3, k4, k5⟩ := K
  have hle : q ≤ (un * 4294967296 + u1) / (y1 * 4294967296 + y0) := by
    rw [Int.le_ediv_iff_mul_le (by omega), kn_split]
    omega
  omega

/-- the bounds of the walk's own products -/
theorem kn_prod {un y1 y0 u1 q r : Int} (H : KnH un y1 y0 u1) (K : Kn un y1 y0 u1 q r) : 0 ≤ q ∧ 0 ≤ q * y0 ∧ (q < 4294967296 → q * y0 ≤ 18446744065119617025) := by
  have hn := kn_nonneg H
  obtain ⟨a, b, c, d, e, f, g, h⟩ := H
  obtain ⟨k1, k2, k3, k4, k5⟩ := K
  have q0 : 0 ≤ q := by omega
  exact ⟨q0, Int.mul_nonneg q0 c, fun hq => (prod_bound q y0 q0 (by omega) c (by omega)).2⟩

/-- the rest behind a digit -/
def knRest (un y1 y0 u1 : Int) : Int := (un * 4294967296 + u1) % (y1 * 4294967296 + y0)
theorem kn_rest {un y1 y0 u1 : Int} (H : KnH un y1 y0 u1) :
    0 ≤ knRest un y1 y0 u1 ∧ knRest un y1 y0 u1 < y1 * 4294967296 + y0 ∧ knRest un y1 y0 u1 = un * 4294967296 + u1 - (un * 4294967296 + u1) / (y1 * 4294967296 + y0) * (y1 * 4294967296 + y0) := by
  obtain ⟨a, b, c, d, e, f, g, h⟩ := H
  unfold knRest
  refine ⟨Int.emod_nonneg _ (by omega), Int.emod_lt_of_pos _ (by omega), ?_⟩
  rw [Int.emod_def, Int.mul_comm ((un * 4294967296 + u1) / (y1 * 4294967296 + y0))]
end Go.Proofs.Ytdnihkmdigmnoaa
