/- Plain arithmetic for the seat's contracts: numbers of 128 bits as two halves. Nothing of the program stands here. -/
import Derived.WalkKit
namespace Go.Proofs.Ytdnihkmdigmnoaa

def two64 : Int := 18446744073709551616
/-- the high and the low half of a product -/
def mulh (a b : Int) : Int := a * b / two64
def mull (a b : Int) : Int := a * b % two64
/-- of two numbers of two halves: is the first one less? -/
def lessB (ah al bh bl : Int) : Bool := decide (ah * two64 + al < bh * two64 + bl)
theorem mul_whole (a b : Int) : mulh a b * two64 + mull a b = a * b := by
  unfold mulh mull two64; omega
theorem mul_max {a b : Int} (a0 : 0 ≤ a) (a1 : a ≤ 18446744073709551615) (b0 : 0 ≤ b) (b1 : b ≤ 18446744073709551615) : 0 ≤ a * b ∧ a * b ≤ 340282366920938463426481119284349108225 := by
  refine ⟨Int.mul_nonneg a0 b0, ?_⟩
  have h := Int.mul_le_mul a1 b1 b0 (by omega)
  simpa using h
theorem mulh_bd {a b : Int} (a0 : 0 ≤ a) (a1 : a ≤ 18446744073709551615) (b0 : 0 ≤ b) (b1 : b ≤ 18446744073709551615) : 0 ≤ mulh a b ∧ mulh a b ≤ 18446744073709551615 := by
  have := mul_max a0 a1 b0 b1
  unfold mulh two64; omega
theorem mull_bd (a b : Int) : 0 ≤ mull a b ∧ mull a b ≤ 18446744073709551615 := by
  unfold mull two64; omega
theorem less_high {ah al bh bl : Int} (h : ah ≠ bh) (l1 : 0 ≤ al) (l2 : al ≤ 18446744073709551615) (l3 : 0 ≤ bl) (l4 : bl ≤ 18446744073709551615) : decide (ah < bh) = lessB ah al bh bl := by
  unfold lessB two64
  rw [decide_eq_decide]; omega
theorem less_low {ah al bh bl : Int} (h : ah = bh) : decide (al < bl) = lessB ah al bh bl := by
  subst h
  unfold lessB
  rw [decide_eq_decide]; omega

/-- what a number of two halves divided is, rounded up -/
def ceilN (h l y : Int) : Int := -(-(h * two64 + l) / y)
def ceilV (h l y : Int) : Int := if h < y ∧ ceilN h l y ≤ 18446744073709551615 then ceilN h l y else 0
def ceilE (h l y : Int) : Int := if h < y ∧ ceilN h l y ≤ 18446744073709551615 then 0 else 5
theorem ceil_high {h l y : Int} (hh : ¬ h < y) : ceilV h l y = 0 ∧ ceilE h l y = 5 := by
  unfold ceilV ceilE
  rw [if_neg (fun k => hh k.1), if_neg (fun k => hh k.1)]
  exact ⟨rfl, rfl⟩
theorem ceil_over {h l y : Int} (hh : ¬ ceilN h l y ≤ 18446744073709551615) : ceilV h l y = 0 ∧ ceilE h l y = 5 := by
  unfold ceilV ceilE
  rw [if_neg (fun k => hh k.2), if_neg (fun k => hh k.2)]
  exact ⟨rfl, rfl⟩
theorem ceil_fits {h l y : Int} (h1 : h < y) (h2 : ceilN h l y ≤ 18446744073709551615) : ceilV h l y = ceilN h l y ∧ ceilE h l y = 0 := by
  unfold ceilV ceilE
  rw [if_pos ⟨h1, h2⟩, if_pos ⟨h1, h2⟩]
  exact ⟨rfl, rfl⟩
theorem ceil_whole {n y : Int} (hy : 0 < y) (h : n % y = 0) : -(-n / y) = n / y := by
  have e : n = y * (n / y) := by have := Int.mul_ediv_add_emod n y; omega
  have e2 : -n = y * (-(n / y)) := by rw [Int.mul_neg]; omega
  rw [e2, Int.mul_ediv_cancel_left _ (by omega)]
  omega
theorem ceil_rest {n y : Int} (hy : 0 < y) (h : ¬ n % y = 0) : -(-n / y) = n / y + 1 := by
  have e := Int.mul_ediv_add_emod n y
  have h1 := Int.emod_nonneg n (show y ≠ 0 by omega)
  have h2 := Int.emod_lt_of_pos n hy
  have hm : y * (-(n / y) - 1) = -(y * (n / y)) - y := by rw [Int.mul_sub, Int.mul_neg, Int.mul_one]
  have e2 : -n = (y - n % y) + y * (-(n / y) - 1) := by omega
  have hq : (y - n % y) / y = 0 := Int.ediv_eq_zero_of_lt (by omega) (by omega)
  have e3 : (-n) / y = (y - n % y) / y + (-(n / y) - 1) := by
    conv => lhs; rw [e2]
    exact Int.add_mul_ediv_left _ _ (by omega)
  rw [e3, hq]
  omega
/-- the least number of which y times are no less -/
theorem ceil_least {n y : Int} (hy : 0 < y) : n ≤ -(-n / y) * y ∧ (-(-n / y) - 1) * y < n := by
  have e := Int.mul_ediv_add_emod (-n) y
  have h1 := Int.emod_nonneg (-n) (show y ≠ 0 by omega)
  have h2 := Int.emod_lt_of_pos (-n) hy
  have c1 : -(-n / y) * y = -(y * (-n / y)) := by rw [Int.neg_mul, Int.mul_comm]
  have c2 : (-(-n / y) - 1) * y = -(y * (-n / y)) - y := by rw [Int.sub_mul, Int.one_mul, c1]
  omega
end Go.Proofs.Ytdnihkmdigmnoaa
