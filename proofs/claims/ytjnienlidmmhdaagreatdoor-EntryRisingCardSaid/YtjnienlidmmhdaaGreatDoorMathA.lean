/- Plain arithmetic for the seat's contracts: division by powers of two, rounded up and down. Nothing of the program stands here. -/
import Derived.WalkKit
/-! Plain arithmetic for the seat's contracts: division by powers of two, rounded up and down. Nothing of the program stands here. -/
namespace Go.Proofs.YtjnienlidmmhdaaGreatDoor

/-- a number divided by a power of two, rounded up -/
def upv (n : Int) (k : Nat) : Int := -((-n) / 2 ^ k)

theorem two_pow_pos' (k : Nat) : (0 : Int) < 2 ^ k := Int.pow_pos (by decide)

theorem upv_exact {n : Int} {k : Nat} (h : n / 2 ^ k * 2 ^ k = n) : n / 2 ^ k = upv n k := by
  unfold upv
  have hp := two_pow_pos' k
  generalize (2 : Int) ^ k = p at *
  have e : -n = -(n / p) * p := by rw [Int.neg_mul, h]
  rw [e, Int.mul_ediv_cancel _ (by omega)]
  omega

theorem upv_more {n : Int} {k : Nat} (h : ¬ n / 2 ^ k * 2 ^ k = n) : n / 2 ^ k + 1 = upv n k := by
  unfold upv
  have hp := two_pow_pos' k
  generalize (2 : Int) ^ k = p at *
  have h1 := Int.mul_ediv_add_emod n p
  have h2 := Int.emod_nonneg n (show p ≠ 0 by omega)
  have h3 := Int.emod_lt_of_pos n hp
  have hc : p * (n / p) = n / p * p := Int.mul_comm _ _
  have hr : 0 < n % p := by omega
  have hm : p * (-(n / p) - 1) = -(p * (n / p)) - p := by rw [Int.mul_sub, Int.mul_neg, Int.mul_one]
  have e : -n = (p - n % p) + p * (-(n / p) - 1) := by omega
  have hq : (p - n % p) / p = 0 := Int.ediv_eq_zero_of_lt (by omega) (by omega)
  have e2 : (-n) / p = (p - n % p) / p + (-(n / p) - 1) := by
    conv => lhs; rw [e]
    exact Int.add_mul_ediv_left _ _ (by omega)
  rw [e2, hq]
  omega

/-- the bounds that the walk asks of 'down << bits' -/
theorem back_bounds (n : Int) (k : Nat) : n / 2 ^ k * 2 ^ k ≤ n ∧ n < n / 2 ^ k * 2 ^ k + 2 ^ k := by
  have hp := two_pow_pos' k
  generalize (2 : Int) ^ k = p at *
  have h1 := Int.mul_ediv_add_emod n p
  have h2 := Int.emod_nonneg n (show p ≠ 0 by omega)
  have h3 := Int.emod_lt_of_pos n hp
  have hc : p * (n / p) = n / p * p := Int.mul_comm _ _
  omega

theorem pow_le_60 {k : Nat} (h : k ≤ 60) : (2 : Int) ^ k ≤ 1152921504606846976 := by
  have h1 : (2 : Nat) ^ k ≤ 2 ^ 60 := Nat.pow_le_pow_right (by decide) h
  have h2 : ((2 ^ k : Nat) : Int) ≤ ((2 ^ 60 : Nat) : Int) := by exact_mod_cast h1
  simpa using h2

theorem div_bounds (n : Int) (k : Nat) (B : Int) (h1 : -B ≤ n) (h2 : n ≤ B) : -B ≤ n / 2 ^ k ∧ n / 2 ^ k ≤ B := by
  have hp := two_pow_pos' k
  generalize (2 : Int) ^ k = p at *
  constructor
  · rw [Int.le_ediv_iff_mul_le hp]
    have : (-B) * p ≤ (-B) * 1 := Int.mul_le_mul_of_nonpos_left (show -B ≤ 0 by omega) (show (1 : Int) ≤ p by omega)
    omega
  · have h := Int.ediv_le_ediv hp h2
    have hB : 0 ≤ B := by omega
    have h0 : B / p ≤ B := Int.ediv_le_self p hB
    omega
theorem upv_upv (n : Int) (k m : Nat) : upv (upv n k) m = upv n (k + m) := by
  unfold upv
  rw [Int.neg_neg, Int.ediv_ediv_of_nonneg (Int.le_of_lt (two_pow_pos' k)), Int.pow_add]
theorem div_div (n : Int) (k m : Nat) : n / 2 ^ k / 2 ^ m = n / 2 ^ (k + m) := by
  rw [Int.ediv_ediv_of_nonneg (Int.le_of_lt (two_pow_pos' k)), Int.pow_add]
theorem upv_zero (n : Int) : upv n 0 = n := by
  unfold upv
  rw [Int.pow_zero, Int.ediv_one, Int.neg_neg]
theorem upv_neg (n : Int) (k : Nat) : (-n) / 2 ^ k = -upv n k := by
  unfold upv
  rw [Int.neg_neg]
theorem upv_cases (n : Int) (k : Nat) : (n / 2 ^ k * 2 ^ k = n ∧ upv n k = n / 2 ^ k) ∨ (¬ n / 2 ^ k * 2 ^ k = n ∧ upv n k = n / 2 ^ k + 1) := by
  by_cases h : n / 2 ^ k * 2 ^ k = n
  · exact .inl ⟨h, (upv_exact h).symm⟩
  · exact .inr ⟨h, (upv_more h).symm⟩
/-- a power of two under a name of its own -/
def pw (k : Nat) : Int := 2 ^ k
theorem pw_succ (k : Nat) : pw k * 2 = pw (k + 1) := by unfold pw; rw [Int.pow_succ]
theorem pw_pos (k : Nat) : 1 ≤ pw k := by have := two_pow_pos' k; unfold pw; omega
theorem pw_le {k : Nat} (h : k ≤ 60) : pw k ≤ 1152921504606846976 := pow_le_60 h
/-- division that cuts towards nought, made to round down -/
theorem floor_neg {n p : Int} (hn : n < 0) (hp : 1 ≤ p) : (n.tmod p < 0 → n.tdiv p - 1 = n / p) ∧ (¬ n.tmod p < 0 → n.tdiv p = n / p) := by
  have h1 := Int.tdiv_eq_ediv (a := n) (b := p)
  have h2 := Int.tmod_eq_emod (a := n) (b := p)
  have h3 := Int.emod_nonneg n (show p ≠ 0 by omega)
  have h4 := Int.emod_lt_of_pos n (show 0 < p by omega)
  have hs : p.sign = 1 := Int.sign_eq_one_of_pos (by omega)
  by_cases hd : p ∣ n
  · rw [if_pos (.inr hd)] at h1 h2
    exact ⟨fun _ => by omega, fun _ => by omega⟩
  · rw [if_neg (by omega)] at h1 h2
    rw [hs] at h1
    exact ⟨fun _ => by omega, fun _ => by omega⟩
theorem tdiv_bounds {n p : Int} (B : Int) (hp : 1 ≤ p) (h1 : -B ≤ n) (h2 : n ≤ 0) : -B ≤ n.tdiv p ∧ n.tdiv p ≤ 0 := by
  have e : n.tdiv p = -((-n) / p) := by
    have := Int.neg_tdiv (a := -n) (b := p)
    rw [Int.neg_neg] at this
    rw [this, Int.tdiv_eq_ediv_of_nonneg (by omega)]
  have hB : 0 ≤ -n := by omega
  have a1 := Int.ediv_le_self p hB
  have a2 := Int.ediv_nonneg hB (show 0 ≤ p by omega)
  omega
theorem tmod_bd (n : Int) {p : Int} (hp : 1 ≤ p) : -p < n.tmod p ∧ n.tmod p < p := by
  have h2 := Int.tmod_eq_emod (a := n) (b := p)
  have h3 := Int.emod_nonneg n (show p ≠ 0 by omega)
  have h4 := Int.emod_lt_of_pos n (show 0 < p by omega)
  by_cases hd : 0 ≤ n ∨ p ∣ n
  · rw [if_pos hd] at h2; omega
  · have h5 : n % p ≠ 0 := fun h => hd (.inr (Int.dvd_of_emod_eq_zero h))
    rw [if_neg hd] at h2; omega
end Go.Proofs.YtjnienlidmmhdaaGreatDoor
/-! Plain arithmetic for the seat's contracts: sums of many numbers, and when they are too great. Nothing of the program stands here. -/
namespace Go.Proofs.YtjnienlidmmhdaaGreatDoor

/-- the sum of the first k numbers of f -/
def sumTo (f : Nat → Int) : Nat → Int
  | 0 => 0
  | k + 1 => sumTo f k + f k
def maxU : Int := 18446744073709551615
def addV (f : Nat → Int) (n : Nat) : Int := if sumTo f n ≤ maxU then sumTo f n else 0
def addE (f : Nat → Int) (n : Nat) : Int := if sumTo f n ≤ maxU then 0 else 5
def inI64 (s : Int) : Prop := -9223372036854775808 ≤ s ∧ s ≤ 9223372036854775807
instance (s : Int) : Decidable (inI64 s) := by unfold inI64; infer_instance
def intV (s : Int) : Int := if inI64 s then s else 0
def intE (s : Int) : Int := if inI64 s then 0 else 5

theorem sumTo_mono (f : Nat → Int) (n : Nat) (h : ∀ i, i < n → 0 ≤ f i) : ∀ k, k ≤ n → 0 ≤ sumTo f k ∧ (∀ j, j ≤ k → sumTo f j ≤ sumTo f k) := by
  intro k
  induction k with
  | zero => exact fun _ => ⟨Int.le_refl _, fun j hj => by rw [show j = 0 by omega]; exact Int.le_refl _⟩
  | succ k ih =>
    intro hk
    obtain ⟨i1, i2⟩ := ih (by omega)
    have hf := h k (by omega)
    refine ⟨by show 0 ≤ sumTo f k + f k; omega, fun j hj => ?_⟩
    by_cases e : j = k + 1
    · rw [e]; exact Int.le_refl _
    · have := i2 j (by omega)
      show sumTo f j ≤ sumTo f k + f k
      omega

theorem add_over {f : Nat → Int} {n k : Nat} (h : ∀ i, i < n → 0 ≤ f i) (hk : k < n) (ho : maxU < sumTo f k + f k) : addV f n = 0 ∧ addE f n = 5 := by
  have h1 := (sumTo_mono f n h n (Nat.le_refl _)).2 (k + 1) (by omega)
  have h2 : sumTo f (k + 1) = sumTo f k + f k := rfl
  unfold addV addE
  rw [if_neg (by omega), if_neg (by omega)]
  exact ⟨rfl, rfl⟩
theorem add_fits {f : Nat → Int} {n : Nat} (ho : sumTo f n ≤ maxU) : addV f n = sumTo f n ∧ addE f n = 0 := by
  unfold addV addE
  rw [if_pos ho, if_pos ho]
  exact ⟨rfl, rfl⟩

theorem sumTo_bd (f : Nat → Int) (n : Nat) (h : ∀ i, i < n → -9223372036854775808 ≤ f i ∧ f i ≤ 9223372036854775807) : ∀ k, k ≤ n → -(k : Int) * 9223372036854775808 ≤ sumTo f k ∧ sumTo f k ≤ (k : Int) * 9223372036854775808 := by
  intro k
  induction k with
  | zero => exact fun _ => ⟨by show _ ≤ (0 : Int); omega, by show (0 : Int) ≤ _; omega⟩
  | succ k ih =>
    intro hk
    obtain ⟨i1, i2⟩ := ih (by omega)
    have hf := h k (by omega)
    have e : sumTo f (k + 1) = sumTo f k + f k := rfl
    rw [e]
    omega

theorem int_fits {s : Int} (h : inI64 s) : intV s = s ∧ intE s = 0 := by unfold intV intE; rw [if_pos h, if_pos h]; exact ⟨rfl, rfl⟩
theorem int_over {s : Int} (h : ¬ inI64 s) : intV s = 0 ∧ intE s = 5 := by unfold intV intE; rw [if_neg h, if_neg h]; exact ⟨rfl, rfl⟩

/-- the floor and the rest of a number by 2^32, as the document's own answer comes to them -/
theorem half_neg {n : Int} (hn : n < 0) :
    (n.tmod 4294967296 < 0 → n.tdiv 4294967296 - 1 = n / 4294967296 ∧ n.tmod 4294967296 + 4294967296 = n % 4294967296) ∧
    (¬ n.tmod 4294967296 < 0 → n.tdiv 4294967296 = n / 4294967296 ∧ n.tmod 4294967296 = n % 4294967296) := by
  obtain ⟨f1, f2⟩ := floor_neg hn (show (1 : Int) ≤ 4294967296 by decide)
  have h1 := Int.tmod_add_mul_tdiv n 4294967296
  exact ⟨fun h => ⟨f1 h, by have := f1 h; omega⟩, fun h => ⟨f2 h, by have := f2 h; omega⟩⟩
end Go.Proofs.YtjnienlidmmhdaaGreatDoor
