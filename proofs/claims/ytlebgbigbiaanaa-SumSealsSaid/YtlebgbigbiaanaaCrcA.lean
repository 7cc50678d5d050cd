/- CRC-32 by plain numbers: what a byte does to a sum, by a table and bit by bit; that what is turned is known. Nothing of the program stands here. -/
import Derived.WalkKit
namespace Go.Proofs.Ytlebgbigbiaanaa

/-- the polynomial, its power 31 in the lowest bit -/
def crcP : Nat := 3988292384
/-- what one bit does -/
def tab1 (s : Nat) : Nat := (s / 2) ^^^ (crcP * (s % 2))
def tabK : Nat → Nat → Nat
  | 0, s => s
  | k + 1, s => tab1 (tabK k s)
/-- what one byte does -/
def crcStep (s b : Nat) : Nat := (s / 256) ^^^ tabK 8 ((s % 256) ^^^ b)
def crcRun (s : Nat) (l : List Nat) : Nat := l.foldl crcStep s
/-- the sum of bytes -/
def crcOf (l : List Nat) : Nat := crcRun 4294967295 l ^^^ 4294967295

theorem xor_mod2 (a b : Nat) : (a ^^^ b) % 2 = (a % 2) ^^^ (b % 2) := Nat.xor_mod_two_pow (n := 1)
theorem sel_xor (a b : Nat) : crcP * ((a ^^^ b) % 2) = (crcP * (a % 2)) ^^^ (crcP * (b % 2)) := by
  rw [xor_mod2]
  rcases Nat.mod_two_eq_zero_or_one a with ha | ha <;> rcases Nat.mod_two_eq_zero_or_one b with hb | hb <;>
    (rw [ha, hb]; decide)
theorem xor4 (a b c d : Nat) : (a ^^^ b) ^^^ (c ^^^ d) = (a ^^^ c) ^^^ (b ^^^ d) := by
  rw [Nat.xor_assoc, Nat.xor_assoc, ← Nat.xor_assoc b c d, Nat.xor_comm b c, Nat.xor_assoc c b d]
theorem tab1_xor (a b : Nat) : tab1 (a ^^^ b) = tab1 a ^^^ tab1 b := by
  unfold tab1
  rw [sel_xor, Nat.xor_div_two, xor4]
theorem tabK_xor (k a b : Nat) : tabK k (a ^^^ b) = tabK k a ^^^ tabK k b := by
  induction k with
  | zero => rfl
  | succ k ih => show tab1 _ = tab1 _ ^^^ tab1 _; rw [ih, tab1_xor]
theorem tab1_two (m : Nat) : tab1 (2 * m) = m := by
  unfold tab1
  have h1 : 2 * m / 2 = m := by omega
  have h2 : 2 * m % 2 = 0 := by omega
  rw [h1, h2, Nat.mul_zero, Nat.xor_zero]
theorem tabK_succ' (k s : Nat) : tabK (k + 1) s = tabK k (tab1 s) := by
  induction k with
  | zero => rfl
  | succ k ih => show tab1 (tabK (k + 1) s) = tab1 (tabK k (tab1 s)); rw [ih]
theorem tabK_pow (k m : Nat) : tabK k (2 ^ k * m) = m := by
  induction k generalizing m with
  | zero => show 2 ^ 0 * m = m; omega
  | succ k ih =>
    rw [tabK_succ']
    have e : 2 ^ (k + 1) * m = 2 * (2 ^ k * m) := by rw [Nat.pow_succ, Nat.mul_comm (2 ^ k) 2, Nat.mul_assoc]
    rw [e, tab1_two, ih]
theorem tab1_lt {s : Nat} (h : s < 4294967296) : tab1 s < 4294967296 := by
  unfold tab1
  have e : (4294967296 : Nat) = 2 ^ 32 := rfl
  rw [e] at h ⊢
  refine Nat.xor_lt_two_pow (by omega) ?_
  rcases Nat.mod_two_eq_zero_or_one s with ha | ha <;> (rw [ha]; decide)
theorem tabK_lt {k s : Nat} (h : s < 4294967296) : tabK k s < 4294967296 := by
  induction k with
  | zero => exact h
  | succ k ih => exact tab1_lt ih

/-- a number is its bits above the lowest k, and these -/
theorem split_xor (k s : Nat) : s = (2 ^ k * (s / 2 ^ k)) ^^^ (s % 2 ^ k) := by
  apply Nat.eq_of_testBit_eq
  intro i
  rw [Nat.testBit_xor, Nat.testBit_mod_two_pow, Nat.testBit_two_pow_mul, Nat.testBit_div_two_pow]
  by_cases h : i < k
  · have h' : ¬ k ≤ i := by omega
    simp [h, h']
  · have h' : k ≤ i := by omega
    simp [h, h', Nat.sub_add_cancel h']
theorem crcStep_eq (s b : Nat) : crcStep s b = tabK 8 (s ^^^ b) := by
  unfold crcStep
  have h := split_xor 8 s
  have h1 : (2 : Nat) ^ 8 = 256 := rfl
  rw [h1] at h
  have e : tabK 8 (s ^^^ b) = tabK 8 ((256 * (s / 256)) ^^^ ((s % 256) ^^^ b)) := by
    conv => lhs; rw [h]
    rw [Nat.xor_assoc]
  have h3 := tabK_pow 8 (s / 256)
  rw [h1] at h3
  rw [e, tabK_xor 8 (256 * (s / 256)), h3]
theorem crcStep_lt {s b : Nat} (h : s < 4294967296) (hb : b < 256) : crcStep s b < 4294967296 := by
  rw [crcStep_eq]
  exact tabK_lt (by
    have e : (4294967296 : Nat) = 2 ^ 32 := rfl
    rw [e] at h ⊢
    exact Nat.xor_lt_two_pow h (by omega))
theorem crcRun_lt {s : Nat} {l : List Nat} (h : s < 4294967296) (hl : ∀ b ∈ l, b < 256) : crcRun s l < 4294967296 := by
  induction l generalizing s with
  | nil => exact h
  | cons b l ih => exact ih (crcStep_lt h (hl b (by simp))) (fun x hx => hl x (by simp [hx]))
theorem crcRun_append (s : Nat) (l m : List Nat) : crcRun s (l ++ m) = crcRun (crcRun s l) m := List.foldl_append
theorem crcRun_snoc (s : Nat) (l : List Nat) (b : Nat) : crcRun s (l ++ [b]) = crcStep (crcRun s l) b := by rw [crcRun_append]; rfl
theorem crcOf_lt {l : List Nat} (hl : ∀ b ∈ l, b < 256) : crcOf l < 4294967296 := by
  unfold crcOf
  have := crcRun_lt (s := 4294967295) (by omega) hl
  have e : (4294967296 : Nat) = 2 ^ 32 := rfl
  rw [e] at this ⊢
  exact Nat.xor_lt_two_pow this (by omega)

/-- what is turned is known: a bit, a byte, a sum -/
theorem tab1_top {s : Nat} (h : s < 4294967296) : (tab1 s).testBit 31 = decide (s % 2 = 1) := by
  unfold tab1
  have h0 : (s / 2).testBit 31 = false := Nat.testBit_lt_two_pow (by show s / 2 < 2147483648; omega)
  rw [Nat.testBit_xor, h0]
  rcases Nat.mod_two_eq_zero_or_one s with ha | ha <;> (rw [ha]; decide)
theorem xor_cancel {a b c : Nat} (h : a ^^^ c = b ^^^ c) : a = b := by
  have := congrArg (· ^^^ c) h
  simpa [Nat.xor_assoc] using this
theorem tab1_inj {a b : Nat} (ha : a < 4294967296) (hb : b < 4294967296) (h : tab1 a = tab1 b) : a = b := by
  have h1 := tab1_top ha
  rw [h, tab1_top hb] at h1
  have h2 : b % 2 = a % 2 := by
    rcases Nat.mod_two_eq_zero_or_one a with x | x <;> rcases Nat.mod_two_eq_zero_or_one b with y | y <;> simp_all
  unfold tab1 at h
  rw [h2] at h
  have := xor_cancel h
  omega
theorem tabK_inj {k a b : Nat} (ha : a < 4294967296) (hb : b < 4294967296) (h : tabK k a = tabK k b) : a = b := by
  induction k with
  | zero => exact h
  | succ k ih => exact ih (tab1_inj (tabK_lt ha) (tabK_lt hb) h)
theorem xor_lt32 {a b : Nat} (ha : a < 4294967296) (hb : b < 4294967296) : a ^^^ b < 4294967296 := by
  have e : (4294967296 : Nat) = 2 ^ 32 := rfl
  rw [e] at ha hb ⊢
  exact Nat.xor_lt_two_pow ha hb
theorem crcStep_inj {s t b : Nat} (hs : s < 4294967296) (ht : t < 4294967296) (hb : b < 256) (h : crcStep s b = crcStep t b) : s = t := by
  rw [crcStep_eq, crcStep_eq] at h
  exact xor_cancel (tabK_inj (xor_lt32 hs (by omega)) (xor_lt32 ht (by omega)) h)
theorem crcStep_byte {s b c : Nat} (hs : s < 4294967296) (hb : b < 256) (hc : c < 256) (h : crcStep s b = crcStep s c) : b = c := by
  rw [crcStep_eq, crcStep_eq] at h
  have := tabK_inj (xor_lt32 hs (by omega)) (xor_lt32 hs (by omega)) h
  rw [Nat.xor_comm s b, Nat.xor_comm s c] at this
  exact xor_cancel this
theorem crcRun_inj {s t : Nat} {l : List Nat} (hs : s < 4294967296) (ht : t < 4294967296) (hl : ∀ b ∈ l, b < 256) (h : crcRun s l = crcRun t l) : s = t := by
  induction l generalizing s t with
  | nil => exact h
  | cons b l ih =>
    have hb := hl b (by simp)
    exact crcStep_inj hs ht hb (ih (crcStep_lt hs hb) (crcStep_lt ht hb) (fun x hx => hl x (by simp [hx])) h)
theorem crcOf_turned {l m : List Nat} {b c : Nat} (hl : ∀ x ∈ l, x < 256) (hm : ∀ x ∈ m, x < 256) (hb : b < 256) (hc : c < 256) (hne : b ≠ c) :
    crcOf (l ++ b :: m) ≠ crcOf (l ++ c :: m) := by
  intro h
  have h' := xor_cancel h
  rw [crcRun_append, crcRun_append] at h'
  have hs := crcRun_lt (s := 4294967295) (by omega) hl
  have := crcRun_inj (crcStep_lt hs hb) (crcStep_lt hs hc) hm h'
  exact hne (crcStep_byte hs hb hc this)

/-- the same by the document's bits: what comes out at the top takes the polynomial off -/
def refQ : Nat := 79764919
def refBit (c x : Nat) : Nat := if c / 2147483648 = x % 2 then c * 2 % 4294967296 else (c * 2 % 4294967296) ^^^ refQ
def Refl (c s : Nat) : Prop := c < 4294967296 ∧ s < 4294967296 ∧ ∀ i, i < 32 → c.testBit i = s.testBit (31 - i)

theorem top_bit {c : Nat} (h : c < 4294967296) : c / 2147483648 = if c.testBit 31 then 1 else 0 := by
  have e : c.testBit 31 = decide (c / 2147483648 % 2 = 1) := by
    rw [Nat.testBit_eq_decide_div_mod_eq]
  rw [e]
  by_cases h1 : c / 2147483648 % 2 = 1
  · rw [decide_eq_true h1]; simp; omega
  · rw [decide_eq_false h1]; simp; omega
theorem low_bit (s : Nat) : s.testBit 0 = decide (s % 2 = 1) := by simp [Nat.testBit_zero]
theorem poly_bits : ∀ i, i < 32 → refQ.testBit i = crcP.testBit (31 - i) := by decide
theorem dbl_bit (c i : Nat) (hi : i < 32) : (c * 2 % 4294967296).testBit i = (decide (1 ≤ i) && c.testBit (i - 1)) := by
  have e : c * 2 % 4294967296 = (2 ^ 1 * c) % 2 ^ 32 := by rw [Nat.mul_comm]
  rw [e, Nat.testBit_mod_two_pow, Nat.testBit_two_pow_mul]
  simp [hi]
theorem half_bit (s i : Nat) : (s / 2).testBit i = s.testBit (i + 1) := by
  rw [Nat.testBit_succ]
theorem refBit_refl {c s x : Nat} (h : Refl c s) : Refl (refBit c x) (tab1 (s ^^^ (x % 2))) := by
  obtain ⟨hc, hs, hb⟩ := h
  have hx : x % 2 < 2 := Nat.mod_lt _ (by decide)
  have htop := hb 31 (by omega)
  have hsx : (s ^^^ (x % 2)) % 2 = if c / 2147483648 = x % 2 then 0 else 1 := by
    rw [xor_mod2, top_bit hc, htop, low_bit]
    rcases Nat.mod_two_eq_zero_or_one s with ha | ha <;> rcases Nat.mod_two_eq_zero_or_one x with hb | hb <;>
      simp [ha, hb]
  have hdiv : (s ^^^ (x % 2)) / 2 = s / 2 := by
    rw [Nat.xor_div_two]
    have : x % 2 / 2 = 0 := by omega
    rw [this, Nat.xor_zero]
  have hlt : c * 2 % 4294967296 < 4294967296 := Nat.mod_lt _ (by decide)
  refine ⟨?_, tab1_lt (xor_lt32 hs (by omega)), fun i hi => ?_⟩
  · unfold refBit
    split
    · exact hlt
    · exact xor_lt32 hlt (by decide)
  · have key : (c * 2 % 4294967296).testBit i = (s / 2).testBit (31 - i) := by
      rw [dbl_bit c i hi, half_bit]
      by_cases h0 : 1 ≤ i
      · rw [hb (i - 1) (by omega)]
        have e : 31 - (i - 1) = 31 - i + 1 := by omega
        rw [e]; simp [h0]
      · have e : 31 - i + 1 = 32 := by omega
        rw [e, Nat.testBit_lt_two_pow (show s < 2 ^ 32 from hs)]
        simp [h0]
    unfold refBit tab1
    rw [hdiv, hsx]
    by_cases ht : c / 2147483648 = x % 2
    · rw [if_pos ht, if_pos ht, Nat.mul_zero, Nat.xor_zero]
      exact key
    · rw [if_neg ht, if_neg ht, Nat.mul_one, Nat.testBit_xor, Nat.testBit_xor, key, poly_bits i hi]
/-- after j bits of a byte -/
theorem refl_round {c s x j : Nat} (h : Refl c (tabK j (s ^^^ x) ^^^ (x / 2 ^ j))) : Refl (refBit c (x / 2 ^ j)) (tabK (j + 1) (s ^^^ x) ^^^ (x / 2 ^ (j + 1))) := by
  have h1 := refBit_refl (x := x / 2 ^ j) h
  have hs := split_xor 1 (x / 2 ^ j)
  have e2 : x / 2 ^ (j + 1) = x / 2 ^ j / 2 ^ 1 := by rw [Nat.div_div_eq_div_mul, ← Nat.pow_add]
  have e1 : tab1 ((tabK j (s ^^^ x) ^^^ (x / 2 ^ j)) ^^^ (x / 2 ^ j % 2)) = tabK (j + 1) (s ^^^ x) ^^^ (x / 2 ^ (j + 1)) := by
    have e3 : (x / 2 ^ j) ^^^ (x / 2 ^ j % 2) = 2 * (x / 2 ^ j / 2) := by
      have h3 : (2 : Nat) ^ 1 = 2 := rfl
      rw [h3] at hs
      conv => lhs; lhs; rw [hs]
      rw [Nat.xor_assoc, Nat.xor_self, Nat.xor_zero]
    rw [Nat.xor_assoc, e3, tab1_xor, tab1_two, e2]
    rfl
  rw [e1] at h1
  exact h1
theorem refl_start {c s x : Nat} (h : Refl c s) : Refl c (tabK 0 (s ^^^ x) ^^^ (x / 2 ^ 0)) := by
  have e : tabK 0 (s ^^^ x) ^^^ (x / 2 ^ 0) = s := by
    show (s ^^^ x) ^^^ (x / 1) = s
    rw [Nat.div_one, Nat.xor_assoc, Nat.xor_self, Nat.xor_zero]
  rw [e]; exact h
theorem refl_byte {c s x : Nat} (hx : x < 256) (h : Refl c (tabK 8 (s ^^^ x) ^^^ (x / 2 ^ 8))) : Refl c (crcStep s x) := by
  have e : x / 2 ^ 8 = 0 := by show x / 256 = 0; omega
  rw [e, Nat.xor_zero, ← crcStep_eq] at h
  exact h
theorem refl_init : Refl 4294967295 4294967295 := ⟨by decide, by decide, by decide⟩

/-- all bits turned, the lowest first -/
def flipK (c : Nat) : Nat → Nat
  | 0 => 0
  | k + 1 => flipK c k * 2 + (if c / 2 ^ k % 2 = 0 then 1 else 0)
theorem flip_lt (c k : Nat) : flipK c k < 2 ^ k := by
  induction k with
  | zero => show 0 < 1; decide
  | succ k ih =>
    show flipK c k * 2 + _ < 2 ^ (k + 1)
    rw [Nat.pow_succ]
    split <;> omega
theorem flip_bit (c k j : Nat) (h : j < k) : (flipK c k).testBit j = !c.testBit (k - 1 - j) := by
  induction k generalizing j with
  | zero => omega
  | succ k ih =>
    have e : flipK c (k + 1) = flipK c k * 2 + (if c / 2 ^ k % 2 = 0 then 1 else 0) := rfl
    rw [e]
    by_cases h0 : j = 0
    · subst h0
      have e2 : k + 1 - 1 - 0 = k := by omega
      rw [e2, Nat.testBit_zero, Nat.testBit_eq_decide_div_mod_eq]
      rcases Nat.mod_two_eq_zero_or_one (c / 2 ^ k) with ha | ha <;> simp [ha] <;> omega
    · obtain ⟨i, rfl⟩ : ∃ i, j = i + 1 := ⟨j - 1, by omega⟩
      have e2 : k + 1 - 1 - (i + 1) = k - 1 - i := by omega
      rw [Nat.testBit_succ, e2, ← ih i (by omega)]
      have e3 : (flipK c k * 2 + (if c / 2 ^ k % 2 = 0 then 1 else 0)) / 2 = flipK c k := by split <;> omega
      rw [e3]
theorem flip_refl {c s : Nat} (h : Refl c s) : flipK c 32 = s ^^^ 4294967295 := by
  obtain ⟨hc, hs, hb⟩ := h
  apply Nat.eq_of_testBit_eq
  intro j
  rw [Nat.testBit_xor]
  by_cases hj : j < 32
  · rw [flip_bit c 32 j hj]
    have e : 32 - 1 - j = 31 - j := by omega
    rw [e, hb (31 - j) (by omega)]
    have e2 : 31 - (31 - j) = j := by omega
    have e3 : (4294967295 : Nat) = 2 ^ 32 - 1 := rfl
    rw [e2, e3, Nat.testBit_two_pow_sub_one]
    simp [hj]
  · have hp : ∀ n : Nat, n < 2 ^ 32 → n.testBit j = false := fun n hn => Nat.testBit_lt_two_pow (Nat.lt_of_lt_of_le hn (Nat.pow_le_pow_right (by decide) (by omega)))
    rw [hp _ (flip_lt c 32), hp s hs, hp 4294967295 (by decide)]
    rfl
end Go.Proofs.Ytlebgbigbiaanaa
