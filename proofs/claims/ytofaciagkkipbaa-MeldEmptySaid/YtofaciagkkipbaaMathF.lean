/- Plain arithmetic for the seat's contracts: sums of many numbers, and when they are too great. Nothing of the program stands here. -/
import Derived.WalkKit
import Derived.Test.YtofaciagkkipbaaMathA
namespace Go.Proofs.Ytofaciagkkipbaa

/-- the sum of the first k numbers of f -/
def sumTo (f : Nat → Int) : Nat → Int
  | 0 => 0
  | k + 1 => sumTo f k + f k
def maxU : Int := 18446744073709551615
def addV (f : Nat → Int) (n : Nat) : Int := if sumTo f n ≤ maxU then sumTo f n else 0
def addE (f : Nat → Int) (n : Nat) : Int := if sumTo f n ≤ maxU then 0 else 5
def inI64 (s : Int) : Prop := -9223372036854775808 ≤ s ∧ s ≤ 9223372036854775807
instance (s : Int) : Decidable (inI64 s) := by unfold inI64; infer_instance
def intV (s : Int) : Int := if inI64 s then s else 0
def intE (s : Int) : Int := if inI64 s then 0 else 5

theorem sumTo_mono (f : Nat → Int) (n : Nat) (h : ∀ i, i < n → 0 ≤ f i) : ∀ k, k ≤ n → 0 ≤ sumTo f k ∧ (∀ j, j ≤ k → sumTo f j ≤ sumTo f k) := by
  intro k
  induction k with
  | zero => exact fun _ => ⟨Int.le_refl _, fun j hj => by rw [show j = 0 by omega]; exact Int.le_refl _⟩
  | succ k ih =>
    intro hk
    obtain ⟨i1, i2⟩ := ih (by omega)
    have hf := h k (by omega)
    refine ⟨by show 0 ≤ sumTo f k + f k; omega, fun j hj => ?_⟩
    by_cases e : j = k + 1
    · rw [e]; exact Int.le_refl _
    · have := i2 j (by omega)
      show sumTo f j ≤ sumTo f k + f k
      omega

theorem add_over {f : Nat → Int} {n k : Nat} (h : ∀ i, i < n → 0 ≤ f i) (hk : k < n) (ho : maxU < sumTo f k + f k) : addV f n = 0 ∧ addE f n = 5 := by
  have h1 := (sumTo_mono f n h n (Nat.le_refl _)).2 (k + 1) (by omega)
  have h2 : sumTo f (k + 1) = sumTo f k + f k := rfl
  unfold addV addE
  rw [if_neg (by omega), if_neg (by omega)]
  exact ⟨rfl, rfl⟩
theorem add_fits {f : Nat → Int} {n : Nat} (ho : sumTo f n ≤ maxU) : addV f n = sumTo f n ∧ addE f n = 0 := by
  unfold addV addE
  rw [if_pos ho, if_pos ho]
  exact ⟨rfl, rfl⟩

theorem sumTo_bd (f : Nat → Int) (n : Nat) (h : ∀ i, i < n → -9223372036854775808 ≤ f i ∧ f i ≤ 9223372036854775807) : ∀ k, k ≤ n → -(k : Int) * 9223372036854775808 ≤ sumTo f k ∧ sumTo f k ≤ (k : Int) * 9223372036854775808 := by
  intro k
  induction k with
  | zero => exact fun _ => ⟨by show _ ≤ (0 : Int); omega, by show (0 : Int) ≤ _; omega⟩
  | succ k ih =>
    intro hk
    obtain ⟨i1, i2⟩ := ih (by omega)
    have hf := h k (by omega)
    have e : sumTo f (k + 1) = sumTo f k + f k := rfl
    rw [e]
    omega

theorem int_fits {s : Int} (h : inI64 s) : intV s = s ∧ intE s = 0 := by unfold intV intE; rw [if_pos h, if_pos h]; exact ⟨rfl, rfl⟩
theorem int_over {s : Int} (h : ¬ inI64 s) : intV s = 0 ∧ intE s = 5 := by unfold intV intE; rw [if_neg h, if_neg h]; exact ⟨rfl, rfl⟩

/-- the floor and the rest of a number by 2^32, as the document's own answer comes to them -/
theorem half_neg {n : Int} (hn : n < 0) :
    (n.tmod 4294967296 < 0 → n.tdiv 4294967296 - 1 = n / 4294967296 ∧ n.tmod 4294967296 + 4294967296 = n % 4294967296) ∧
    (¬ n.tmod 4294967296 < 0 → n.tdiv 4294967296 = n / 4294967296 ∧ n.tmod 4294967296 = n % 4294967296) := by
  obtain ⟨f1, f2⟩ := floor_neg hn (show (1 : Int) ≤ 4294967296 by decide)
  have h1 := Int.tmod_add_mul_tdiv n 4294967296
  exact ⟨fun h => ⟨f1 h, by have := f1 h; omega⟩, fun h => ⟨f2 h, by have := f2 h; omega⟩⟩
end Go.Proofs.Ytofaciagkkipbaa
