/- Plain arithmetic of numbers of 128 bits. Nothing of the program stands here. -/
import Derived.WalkKit
import Derived.Laws.BitsAllLaws
import Derived.Laws.MathBits
import Derived.Lib.ItoaNum
namespace Go.Proofs.Ytbibhjcmdehdbaa

/-- a whole number as a count -/
def zigv (n : Int) : Int := if n < 0 then -2 * n - 1 else 2 * n
/-- a count as a whole number -/
def zagv (c : Int) : Int := if c % 2 = 1 then -(c / 2) - 1 else c / 2

theorem not_i64 {n : Int} (h1 : -9223372036854775808 ≤ n) (h2 : n ≤ 9223372036854775807) : bits .xor .i64 (-1) n = -n - 1 := by
  show IntKind.i64.wrap ((BitVec.ofInt 64 (-1) ^^^ BitVec.ofInt 64 n).toNat : Int) = _
  have e1 : BitVec.ofInt 64 (-1) = BitVec.allOnes 64 := by decide
  rw [e1, BitVec.allOnes_xor, BitVec.toNat_not, BitVec.toNat_ofInt]
  have hm : n % ((2 ^ 64 : Nat) : Int) = n % 18446744073709551616 := rfl
  rw [hm]
  have b1 : 0 ≤ n % 18446744073709551616 := by omega
  have b2 : n % 18446744073709551616 < 18446744073709551616 := by omega
  obtain ⟨t, ht⟩ : ∃ t : Nat, (t : Int) = n % 18446744073709551616 := ⟨(n % 18446744073709551616).toNat, by omega⟩
  rw [← ht, Int.toNat_natCast]
  have e3 : ((2 ^ 64 - 1 - t : Nat) : Int) = 18446744073709551615 - t := by omega
  rw [e3, IntKind.wrap_i64]
  omega

theorem or_one_even {m : Int} (h0 : 0 ≤ m) (h1 : m < 9223372036854775808) : bits .or .u64 (m * 2) 1 = m * 2 + 1 := by
  rw [u64_or _ _ (by omega) (by omega) (by omega) (by omega)]
  rw [nat_join 1 _ _ (by omega) (by decide)]
  omega
theorem zag_zig (n : Int) : zagv (zigv n) = n := by unfold zagv zigv; split <;> split <;> omega
theorem zig_zag (c : Int) (h : 0 ≤ c) : zigv (zagv c) = c := by unfold zagv zigv; split <;> split <;> omega
theorem zig_bd {n : Int} (h1 : -9223372036854775808 ≤ n) (h2 : n ≤ 9223372036854775807) : 0 ≤ zigv n ∧ zigv n ≤ 18446744073709551615 := by unfold zigv; split <;> omega
theorem zag_bd {c : Int} (h1 : 0 ≤ c) (h2 : c ≤ 18446744073709551615) : -9223372036854775808 ≤ zagv c ∧ zagv c ≤ 9223372036854775807 := by unfold zagv; split <;> omega
end Go.Proofs.Ytbibhjcmdehdbaa

namespace Go.Proofs.Ytbibhjcmdehdbaa

/-- one digit's guess: what holds of the guess q and its rest r -/
def Kn (un y1 y0 u1 q r : Int) : Prop :=
  q * y1 + r = un ∧ 0 ≤ r ∧ r < 4294967296 ∧ (un * 4294967296 + u1) / (y1 * 4294967296 + y0) ≤ q ∧ q ≤ 4294967297

/-- what the digits of a normed divisor meet -/
def KnH (un y1 y0 u1 : Int) : Prop :=
  2147483648 ≤ y1 ∧ y1 < 4294967296 ∧ 0 ≤ y0 ∧ y0 < 4294967296 ∧ 0 ≤ un ∧ un < y1 * 4294967296 + y0 ∧ 0 ≤ u1 ∧ u1 < 4294967296

theorem kn_nonneg {un y1 y0 u1 : Int} (H : KnH un y1 y0 u1) : 0 ≤ (un * 4294967296 + u1) / (y1 * 4294967296 + y0) := by
  obtain ⟨a, b, c, d, e, f, g, h⟩ := H
  exact Int.ediv_nonneg (by omega) (by omega)

theorem kn_below {un y1 y0 u1 : Int} (H : KnH un y1 y0 u1) : (un * 4294967296 + u1) / (y1 * 4294967296 + y0) < 4294967296 := by
  obtain ⟨a, b, c, d, e, f, g, h⟩ := H
  rw [Int.ediv_lt_iff_lt_mul (by omega)]
  omega

theorem kn_split (q y1 y0 : Int) : q * (y1 * 4294967296 + y0) = q * y1 * 4294967296 + q * y0 := by
  rw [Int.mul_add, Int.mul_assoc]

theorem kn_start {un y1 y0 u1 : Int} (H : KnH un y1 y0 u1) : Kn un y1 y0 u1 (un / y1) (un % y1) := by
  have H' := H
  obtain ⟨a, b, c, d, e, f, g, h⟩ := H
  have h1 := Int.mul_ediv_add_emod un y1
  have h2 := Int.emod_nonneg un (show y1 ≠ 0 by omega)
  have h3 := Int.emod_lt_of_pos un (show 0 < y1 by omega)
  have hc : y1 * (un / y1) = un / y1 * y1 := Int.mul_comm _ _
  refine ⟨by omega, h2, by omega, ?_, ?_⟩
  · have : (un * 4294967296 + u1) / (y1 * 4294967296 + y0) < un / y1 + 1 := by
      rw [Int.ediv_lt_iff_lt_mul (by omega), kn_split]
      have e1 : (un / y1 + 1) * y1 = un / y1 * y1 + y1 := by rw [Int.add_mul, Int.one_mul]
      have e2 : 0 ≤ (un / y1 + 1) * y0 := Int.mul_nonneg (by have := Int.ediv_nonneg e (show 0 ≤ y1 by omega); omega) c
      rw [e1]
      omega
    omega
  · have : un / y1 < 4294967298 := by
      rw [Int.ediv_lt_iff_lt_mul (by omega)]
      omega
    omega

theorem kn_over {un y1 y0 u1 q r : Int} (H : KnH un y1 y0 u1) (K : Kn un y1 y0 u1 q r) (ht : 4294967296 ≤ q ∨ 4294967296 * r + u1 < q * y0) :
    (un * 4294967296 + u1) / (y1 * 4294967296 + y0) ≤ q - 1 := by
  have hb := kn_below H
  obtain ⟨a, b, c, d, e, f, g, h⟩ := H
  obtain ⟨k1, k2, k3, k4, k5⟩ := K
  rcases ht with ht | ht
  · omega
  · have : (un * 4294967296 + u1) / (y1 * 4294967296 + y0) < q := by
      rw [Int.ediv_lt_iff_lt_mul (by omega), kn_split]
      omega
    omega

theorem kn_more {un y1 y0 u1 q r : Int} (H : KnH un y1 y0 u1) (K : Kn un y1 y0 u1 q r) (ht : 4294967296 ≤ q ∨ 4294967296 * r + u1 < q * y0) (hr : r + y1 < 4294967296) :
    Kn un y1 y0 u1 (q - 1) (r + y1) := by
  have ho := kn_over H K ht
  obtain ⟨a, b, c, d, e, f, g, h⟩ := H
  obtain ⟨k1, k2, k3, k4, k5⟩ := K
  refine ⟨?_, by omega, hr, ho, by omega⟩
  rw [Int.sub_mul, Int.one_mul]; omega

theorem kn_last {un y1 y0 u1 q r : Int} (H : KnH un y1 y0 u1) (K : Kn un y1 y0 u1 q r) (ht : 4294967296 ≤ q ∨ 4294967296 * r + u1 < q * y0) (hr : 4294967296 ≤ r + y1) :
    q - 1 = (un * 4294967296 + u1) / (y1 * 4294967296 + y0) := by
  have ho := kn_over H K ht
  have hn := kn_nonneg H
  obtain ⟨a, b, c, d, e, f, g, h⟩ := H
  obtain ⟨k1, k2, k3, k4, k5⟩ := K
  have hle : q - 1 ≤ (un * 4294967296 + u1) / (y1 * 4294967296 + y0) := by
    rw [Int.le_ediv_iff_mul_le (by omega), kn_split]
    have e1 : (q - 1) * y1 = q * y1 - y1 := by rw [Int.sub_mul, Int.one_mul]
    have e2 : (q - 1) * y0 ≤ 4294967296 * y0 := Int.mul_le_mul_of_nonneg_right (by omega) c
    rw [e1]
    omega
  omega

theorem kn_done {un y1 y0 u1 q r : Int} (H : KnH un y1 y0 u1) (K : Kn un y1 y0 u1 q r) (ht : ¬ 4294967296 * r + u1 < q * y0) :
    q = (un * 4294967296 + u1) / (y1 * 4294967296 + y0) := by
  obtain ⟨a, b, c, d, e, f, g, h⟩ := H
  obtain ⟨k1, k2, k3, k4, k5⟩ := K
  have hle : q ≤ (un * 4294967296 + u1) / (y1 * 4294967296 + y0) := by
    rw [Int.le_ediv_iff_mul_le (by omega), kn_split]
    omega
  omega

/-- the bounds of the walk's own products -/
theorem kn_prod {un y1 y0 u1 q r : Int} (H : KnH un y1 y0 u1) (K : Kn un y1 y0 u1 q r) : 0 ≤ q ∧ 0 ≤ q * y0 ∧ (q < 4294967296 → q * y0 ≤ 18446744065119617025) := by
  have hn := kn_nonneg H
  obtain ⟨a, b, c, d, e, f, g, h⟩ := H
  obtain ⟨k1, k2, k3, k4, k5⟩ := K
  have q0 : 0 ≤ q := by omega
  exact ⟨q0, Int.mul_nonneg q0 c, fun hq => (prod_bound q y0 q0 (by omega) c (by omega)).2⟩

/-- the rest behind a digit -/
def knRest (un y1 y0 u1 : Int) : Int := (un * 4294967296 + u1) % (y1 * 4294967296 + y0)
theorem kn_rest {un y1 y0 u1 : Int} (H : KnH un y1 y0 u1) :
    0 ≤ knRest un y1 y0 u1 ∧ knRest un y1 y0 u1 < y1 * 4294967296 + y0 ∧ knRest un y1 y0 u1 = un * 4294967296 + u1 - (un * 4294967296 + u1) / (y1 * 4294967296 + y0) * (y1 * 4294967296 + y0) := by
  obtain ⟨a, b, c, d, e, f, g, h⟩ := H
  unfold knRest
  refine ⟨Int.emod_nonneg _ (by omega), Int.emod_lt_of_pos _ (by omega), ?_⟩
  rw [Int.emod_def, Int.mul_comm ((un * 4294967296 + u1) / (y1 * 4294967296 + y0))]
end Go.Proofs.Ytbibhjcmdehdbaa

namespace Go.Proofs.Ytbibhjcmdehdbaa

theorem pow2_pos (k : Nat) : (0 : Int) < 2 ^ k := Int.pow_pos (by decide)

theorem and_mask32 {Y : Int} (h0 : 0 ≤ Y) (h1 : Y ≤ 18446744073709551615) : bits .and .u64 Y 4294967295 = Y % 4294967296 := by
  have h := bits_mask .u64 64 (by decide) (fun n h0 h1 => by rw [IntKind.wrap_u64]; omega) 32 (by decide) Y h0 (by omega)
  simpa using h

/-- what the library's way of dividing has to do with what is asked -/
theorem div_norm {hi lo y P T q1 q0 un2 z : Int} (hTP : T * P = 18446744073709551616) (hP : 0 < P)
    (hN1 : (hi * P + lo / T) * 4294967296 + lo * P % 18446744073709551616 / 4294967296 = q1 * (y * P) + un2)
    (hN2 : un2 * 4294967296 + lo * P % 18446744073709551616 % 4294967296 = q0 * (y * P) + z) (z0 : 0 ≤ z) (z1 : z < y * P) :
    q1 * 4294967296 + q0 = (hi * 18446744073709551616 + lo) / y ∧ z / P = (hi * 18446744073709551616 + lo) % y := by
  have e1 : lo * P / (T * P) = lo / T := Int.mul_ediv_mul_of_pos_left _ _ hP
  rw [hTP] at e1
  have hNP : (hi * 18446744073709551616 + lo) * P = (q1 * 4294967296 + q0) * (y * P) + z := by
    have a1 : (hi * 18446744073709551616 + lo) * P = hi * P * 18446744073709551616 + lo * P := by rw [Int.add_mul]; congr 1; rw [Int.mul_assoc, Int.mul_assoc, Int.mul_comm 18446744073709551616 P]
    have a2 : (q1 * 4294967296 + q0) * (y * P) = q1 * (y * P) * 4294967296 + q0 * (y * P) := by rw [Int.add_mul]; congr 1; rw [Int.mul_assoc, Int.mul_assoc, Int.mul_comm 4294967296 (y * P)]
    rw [a1, a2]
    rw [← e1] at hN1
    omega
  have hy : 0 < y * P := by omega
  have b1 : ((hi * 18446744073709551616 + lo) * P) / (y * P) = (hi * 18446744073709551616 + lo) / y := Int.mul_ediv_mul_of_pos_left _ _ hP
  have b2 : ((hi * 18446744073709551616 + lo) * P) % (y * P) = (hi * 18446744073709551616 + lo) % y * P := by
    rw [Int.mul_comm _ P, Int.mul_comm y P, Int.mul_emod_mul_of_pos _ _ hP, Int.mul_comm]
  have c1 : ((q1 * 4294967296 + q0) * (y * P) + z) / (y * P) = q1 * 4294967296 + q0 := by
    rw [Int.add_comm, Int.add_mul_ediv_right _ _ (by omega), Int.ediv_eq_zero_of_lt z0 z1]; omega
  have c2 : ((q1 * 4294967296 + q0) * (y * P) + z) % (y * P) = z := by
    rw [Int.add_comm, Int.add_mul_emod_self_right, Int.emod_eq_of_lt z0 z1]
  rw [hNP] at b1 b2
  rw [c1] at b1
  rw [c2] at b2
  exact ⟨b1, by rw [b2, Int.mul_ediv_cancel _ (by omega)]⟩

theorem norm_low {lo T P : Int} (hTP : T * P = 18446744073709551616) (hT : 0 < T) (h2 : 0 ≤ lo) (h3 : lo ≤ 18446744073709551615) : 0 ≤ lo / T ∧ lo / T < P := by
  refine ⟨Int.ediv_nonneg h2 (by omega), ?_⟩
  rw [Int.ediv_lt_iff_lt_mul hT, Int.mul_comm P T, hTP]
  omega

theorem norm_or {hi lo y P T : Int} {s : Nat} (hs : P = 2 ^ s) (hTP : T * P = 18446744073709551616) (hP : 0 < P) (hT : 0 < T)
    (h0 : 0 ≤ hi) (h1 : hi < y) (h2 : 0 ≤ lo) (h3 : lo ≤ 18446744073709551615) (n2 : y * P ≤ 18446744073709551615) :
    bits .or .u64 (IntKind.u64.wrap (hi * P)) (lo / T) = hi * P + lo / T ∧ hi * P + lo / T < y * P ∧ 0 ≤ hi * P + lo / T := by
  obtain ⟨l0, l1⟩ := norm_low hTP hT h2 h3
  have m0 : 0 ≤ hi * P := Int.mul_nonneg h0 (by omega)
  have m1 : hi * P ≤ y * P - P := by
    have h : hi * P ≤ (y - 1) * P := Int.mul_le_mul_of_nonneg_right (by omega) (by omega)
    rw [Int.sub_mul, Int.one_mul] at h
    exact h
  refine ⟨?_, by omega, by omega⟩
  have hw : IntKind.u64.wrap (hi * P) = hi * P := by rw [IntKind.wrap_u64]; omega
  rw [hw, u64_or _ _ m0 (by omega) l0 (by omega)]
  obtain ⟨H, rfl⟩ := Int.eq_ofNat_of_zero_le h0
  have e : ((H : Int) * P).toNat = H * 2 ^ s := by
    rw [hs]
    have : ((H : Int) * 2 ^ s) = ((H * 2 ^ s : Nat) : Int) := by simp
    rw [this, Int.toNat_natCast]
  have hlt : (lo / T).toNat < 2 ^ s := by
    have : ((lo / T).toNat : Int) < ((2 ^ s : Nat) : Int) := by
      rw [Int.toNat_of_nonneg l0]
      have : ((2 ^ s : Nat) : Int) = P := by rw [hs]; simp
      omega
    exact_mod_cast this
  rw [e, nat_join s _ _ (Nat.mul_mod_left _ _) hlt]
  rw [hs]
  push_cast
  rw [Int.toNat_of_nonneg l0]

/-- the divisor, normed -/
theorem norm_bits {y : Int} (h0 : 0 < y) (h1 : y ≤ 18446744073709551615) :
    ∃ s : Nat, s ≤ 63 ∧ ((s : Nat) : Int) = 64 - (Lib.bitLen y.toNat : Int) ∧ (2 : Int) ^ (64 - s) * 2 ^ s = 18446744073709551616 ∧ (0 : Int) < 2 ^ s ∧ (0 : Int) < 2 ^ (64 - s) ∧
      9223372036854775808 ≤ y * 2 ^ s ∧ y * 2 ^ s ≤ 18446744073709551615 := by
  obtain ⟨Y, rfl⟩ := Int.eq_ofNat_of_zero_le (Int.le_of_lt h0)
  obtain ⟨b1, b2, b3⟩ := Lib.bitLenAux_bounds 64 Y (by omega) (by omega)
  have b4 : Lib.bitLen Y ≤ 64 := Lib.bitLen_le Y 64 (by decide) (by omega)
  change 1 ≤ Lib.bitLen Y at b1
  change 2 ^ (Lib.bitLen Y - 1) ≤ Y at b2
  change Y < 2 ^ Lib.bitLen Y at b3
  rw [Int.toNat_natCast]
  generalize Lib.bitLen Y = n at *
  refine ⟨64 - n, by omega, by omega, ?_, pow2_pos _, pow2_pos _, ?_, ?_⟩
  · rw [← Int.pow_add, show 64 - (64 - n) + (64 - n) = 64 by omega]; decide
  · have h : 2 ^ (n - 1) * 2 ^ (64 - n) ≤ Y * 2 ^ (64 - n) := Nat.mul_le_mul_right _ b2
    rw [← Nat.pow_add, show n - 1 + (64 - n) = 63 by omega] at h
    have h' : ((2 ^ 63 : Nat) : Int) ≤ ((Y * 2 ^ (64 - n) : Nat) : Int) := by exact_mod_cast h
    simpa using h'
  · have h : Y * 2 ^ (64 - n) < 2 ^ n * 2 ^ (64 - n) := Nat.mul_lt_mul_of_pos_right b3 (Nat.two_pow_pos _)
    rw [← Nat.pow_add, show n + (64 - n) = 64 by omega] at h
    have h' : ((Y * 2 ^ (64 - n) : Nat) : Int) < ((2 ^ 64 : Nat) : Int) := by exact_mod_cast h
    have h'' : (Y : Int) * 2 ^ (64 - n) < 18446744073709551616 := by simpa using h'
    omega
end Go.Proofs.Ytbibhjcmdehdbaa

namespace Go.Proofs.Ytbibhjcmdehdbaa

def two64 : Int := 18446744073709551616
/-- the high and the low half of a product -/
def mulh (a b : Int) : Int := a * b / two64
def mull (a b : Int) : Int := a * b % two64
/-- of two numbers of two halves: is the first one less? -/
def lessW (ah al bh bl : Int) : Bool := decide (ah * two64 + al < bh * two64 + bl)
theorem mul_whole (a b : Int) : mulh a b * two64 + mull a b = a * b := by
  unfold mulh mull two64; omega
theorem mul_max {a b : Int} (a0 : 0 ≤ a) (a1 : a ≤ 18446744073709551615) (b0 : 0 ≤ b) (b1 : b ≤ 18446744073709551615) : 0 ≤ a * b ∧ a * b ≤ 340282366920938463426481119284349108225 := by
  refine ⟨Int.mul_nonneg a0 b0, ?_⟩
  have h := Int.mul_le_mul a1 b1 b0 (by omega)
  simpa using h
theorem mulh_bd {a b : Int} (a0 : 0 ≤ a) (a1 : a ≤ 18446744073709551615) (b0 : 0 ≤ b) (b1 : b ≤ 18446744073709551615) : 0 ≤ mulh a b ∧ mulh a b ≤ 18446744073709551615 := by
  have := mul_max a0 a1 b0 b1
  unfold mulh two64; omega
theorem mull_bd (a b : Int) : 0 ≤ mull a b ∧ mull a b ≤ 18446744073709551615 := by
  unfold mull two64; omega
theorem less_high {ah al bh bl : Int} (h : ah ≠ bh) (l1 : 0 ≤ al) (l2 : al ≤ 18446744073709551615) (l3 : 0 ≤ bl) (l4 : bl ≤ 18446744073709551615) : decide (ah < bh) = lessW ah al bh bl := by
  unfold lessW two64
  rw [decide_eq_decide]; omega
theorem less_low {ah al bh bl : Int} (h : ah = bh) : decide (al < bl) = lessW ah al bh bl := by
  subst h
  unfold lessW
  rw [decide_eq_decide]; omega

/-- what a number of two halves divided is, rounded up -/
def ceilN (h l y : Int) : Int := -(-(h * two64 + l) / y)
def ceilV (h l y : Int) : Int := if h < y ∧ ceilN h l y ≤ 18446744073709551615 then ceilN h l y else 0
def ceilE (h l y : Int) : Int := if h < y ∧ ceilN h l y ≤ 18446744073709551615 then 0 else 5
theorem ceil_high {h l y : Int} (hh : ¬ h < y) : ceilV h l y = 0 ∧ ceilE h l y = 5 := by
  unfold ceilV ceilE
  rw [if_neg (fun k => hh k.1), if_neg (fun k => hh k.1)]
  exact ⟨rfl, rfl⟩
theorem ceil_over {h l y : Int} (hh : ¬ ceilN h l y ≤ 18446744073709551615) : ceilV h l y = 0 ∧ ceilE h l y = 5 := by
  unfold ceilV ceilE
  rw [if_neg (fun k => hh k.2), if_neg (fun k => hh k.2)]
  exact ⟨rfl, rfl⟩
theorem ceil_fits {h l y : Int} (h1 : h < y) (h2 : ceilN h l y ≤ 18446744073709551615) : ceilV h l y = ceilN h l y ∧ ceilE h l y = 0 := by
  unfold ceilV ceilE
  rw [if_pos ⟨h1, h2⟩, if_pos ⟨h1, h2⟩]
  exact ⟨rfl, rfl⟩
theorem ceil_whole {n y : Int} (hy : 0 < y) (h : n % y = 0) : -(-n / y) = n / y := by
  have e : n = y * (n / y) := by have := Int.mul_ediv_add_emod n y; omega
  have e2 : -n = y * (-(n / y)) := by rw [Int.mul_neg]; omega
  rw [e2, Int.mul_ediv_cancel_left _ (by omega)]
  omega
theorem ceil_rest {n y : Int} (hy : 0 < y) (h : ¬ n % y = 0) : -(-n / y) = n / y + 1 := by
  have e := Int.mul_ediv_add_emod n y
  have h1 := Int.emod_nonneg n (show y ≠ 0 by omega)
  have h2 := Int.emod_lt_of_pos n hy
  have hm : y * (-(n / y) - 1) = -(y * (n / y)) - y := by rw [Int.mul_sub, Int.mul_neg, Int.mul_one]
  have e2 : -n = (y - n % y) + y * (-(n / y) - 1) := by omega
  have hq : (y - n % y) / y = 0 := Int.ediv_eq_zero_of_lt (by omega) (by omega)
  have e3 : (-n) / y = (y - n % y) / y + (-(n / y) - 1) := by
    conv => lhs; rw [e2]
    exact Int.add_mul_ediv_left _ _ (by omega)
  rw [e3, hq]
  omega
/-- the least number of which y times are no less -/
theorem ceil_least {n y : Int} (hy : 0 < y) : n ≤ -(-n / y) * y ∧ (-(-n / y) - 1) * y < n := by
  have e := Int.mul_ediv_add_emod (-n) y
  have h1 := Int.emod_nonneg (-n) (show y ≠ 0 by omega)
  have h2 := Int.emod_lt_of_pos (-n) hy
  have c1 : -(-n / y) * y = -(y * (-n / y)) := by rw [Int.neg_mul, Int.mul_comm]
  have c2 : (-(-n / y) - 1) * y = -(y * (-n / y)) - y := by rw [Int.sub_mul, Int.one_mul, c1]
  omega
end Go.Proofs.Ytbibhjcmdehdbaa
