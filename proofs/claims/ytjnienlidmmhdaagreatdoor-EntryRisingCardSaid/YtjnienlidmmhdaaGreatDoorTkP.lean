/- What a count that was taken says of the bytes' text: plain lists. -/
import Derived.Test.YtjnienlidmmhdaaGreatDoorTkL
namespace Go.Proofs.YtjnienlidmmhdaaGreatDoor.Tk
set_option linter.unusedVariables false

theorem bitsL_more (k : Nat) : ∀ n c, bitsL k (n + c * 2 ^ k) = bitsL k n := by
  induction k with
  | zero => intro n c; rfl
  | succ k ih =>
    intro n c
    have e : n + c * 2 ^ (k + 1) = n + (c * 2) * 2 ^ k := by rw [Nat.pow_succ, Nat.mul_assoc, Nat.mul_comm 2]
    have h1 : (n + (c * 2) * 2 ^ k) / 2 ^ k % 2 = n / 2 ^ k % 2 := by
      rw [Nat.add_mul_div_right _ _ (Nat.two_pow_pos k)]; omega
    simp only [bitsL]
    rw [e, h1, ih]
theorem bitsL_mod (k n : Nat) : bitsL k (n % 2 ^ k) = bitsL k n := by
  have h := bitsL_more k (n % 2 ^ k) (n / 2 ^ k)
  rw [Nat.mul_comm, Nat.mod_add_div] at h
  exact h.symm
theorem bitsL_split (m k n : Nat) : bitsL (m + k) n = bitsL m (n / 2 ^ k) ++ bitsL k n := by
  induction m with
  | zero => simp [bitsL]
  | succ m ih =>
    rw [show m + 1 + k = (m + k) + 1 by omega]
    simp only [bitsL]
    rw [ih, Nat.div_div_eq_div_mul, ← Nat.pow_add, Nat.add_comm k m]
    rfl
theorem text_val (bs : List Nat) (h : ∀ b ∈ bs, b < 256) : textL bs = bitsL (8 * bs.length) (val bs) := by
  revert h
  refine snoc_ind (P := fun bs => (∀ b ∈ bs, b < 256) → textL bs = bitsL (8 * bs.length) (val bs)) ?_ ?_ bs
  · intro _; rfl
  · intro l x ih h
    have hx : x < 256 := h x (by simp)
    rw [textL_snoc, ih (fun b hb => h b (by simp [hb])), val_snoc, List.length_append, List.length_singleton, Nat.mul_add, bitsL_split]
    have e1 : (val l * 256 + x) / 2 ^ 8 = val l := by omega
    have e2 : bitsL (8 * 1) (val l * 256 + x) = bitsL 8 x := by
      have := bitsL_more 8 x (val l)
      rw [Nat.add_comm] at this
      exact this
    rw [show 8 * 1 = 8 from rfl] at e2 ⊢
    rw [e1, e2]
/-- the bits from t to u -/
def sub (bs : List Nat) (t u : Nat) : List Bool := ((textL bs).drop t).take (u - t)
theorem sub_part {bs : List Nat} (h : ∀ b ∈ bs, b < 256) (t k : Nat) (ht : t + k ≤ 8 * bs.length) : sub bs t (t + k) = bitsL k (part bs t k) := by
  unfold sub part
  rw [text_val bs h, bitsL_mod]
  obtain ⟨r, hr⟩ : ∃ r, 8 * bs.length = t + (k + r) := ⟨8 * bs.length - t - k, by omega⟩
  rw [hr, bitsL_split t (k + r), bitsL_split k r, List.drop_append_of_le_length (by rw [bitsL_length]; omega), List.drop_of_length_le (by rw [bitsL_length]; omega), List.nil_append,
    show t + k - t = k by omega, List.take_append_of_le_length (by rw [bitsL_length]; omega), List.take_of_length_le (by rw [bitsL_length]; omega), show t + (k + r) - t - k = r by omega]
theorem sub_append (bs : List Nat) {t u v : Nat} (h1 : t ≤ u) (h2 : u ≤ v) : sub bs t v = sub bs t u ++ sub bs u v := by
  unfold sub
  rw [show v - t = (u - t) + (v - u) by omega, List.take_add, List.drop_drop, show t + (u - t) = u by omega]
theorem sub_self (bs : List Nat) (t : Nat) : sub bs t t = [] := by unfold sub; simp

theorem getF_ok {bs : List Nat} {k : Nat} {s : Nat × Int} (h : (getF bs k s).2.2 = 0) : s.2 = 0 ∧ s.1 + k ≤ 8 * bs.length ∧ getF bs k s = (part bs s.1 k, (s.1 + k, 0)) := by
  unfold getF at h ⊢
  by_cases h0 : s.2 ≠ 0
  · rw [if_pos h0] at h; exact absurd h h0
  · rw [if_neg h0] at h ⊢
    by_cases h1 : s.1 + k ≤ 8 * bs.length
    · rw [if_pos h1]; exact ⟨by simpa using h0, h1, rfl⟩
    · rw [if_neg h1] at h; simp at h
theorem getF_one_ok {bs : List Nat} {s : Nat × Int} (h : (getF bs 1 s).1 = 1) : (getF bs 1 s).2.2 = 0 := by
  unfold getF at h ⊢
  split at h
  · simp at h
  split at h
  · rename_i h0 h1
    rw [if_neg h0, if_pos h1]
  · simp at h

theorem clsF_ok {bs : List Nat} (hb : ∀ b ∈ bs, b < 256) : ∀ (n i : Nat) (s : Nat × Int), (clsF bs n i s).2.2 = 0 → i + n = 6 → s.2 = 0 → s.1 ≤ 8 * bs.length →
    ∃ k u, clsF bs n i s = (k, (u, 0)) ∧ s.1 ≤ u ∧ u ≤ 8 * bs.length ∧ i ≤ k ∧ k ≤ 6 ∧ sub bs s.1 u = List.replicate (k - i) true ++ (if k < 6 then [false] else [])
  | 0, i, s, h, h6, h0, hl => by
    refine ⟨i, s.1, ?_, Nat.le_refl _, hl, Nat.le_refl _, by omega, ?_⟩
    · obtain ⟨a, b⟩ := s; simp only at h0; subst h0; rfl
    · rw [sub_self, if_neg (by omega)]; simp
  | n + 1, i, s, h, h6, h0, hl => by
    unfold clsF at h ⊢
    by_cases hbit : bitF bs s = true
    · rw [if_pos hbit] at h ⊢
      have h1 : (getF bs 1 s).1 = 1 := by unfold bitF at hbit; simpa using hbit
      obtain ⟨_, g1, g2⟩ := getF_ok (getF_one_ok h1)
      rw [g2] at h h1 ⊢
      simp only at h h1 ⊢
      obtain ⟨k, u, e1, e2, e3, e4, e5, e6⟩ := clsF_ok hb n (i + 1) (s.1 + 1, 0) h (by omega) rfl g1
      simp only at e2 e6
      refine ⟨k, u, e1, by omega, e3, by omega, e5, ?_⟩
      rw [sub_append bs (Nat.le_succ s.1) e2, e6, Nat.succ_eq_add_one, sub_part hb _ _ g1, h1]
      rw [show k - i = (k - (i + 1)) + 1 by omega, List.replicate_succ]
      rfl
    · rw [if_neg hbit] at h ⊢
      simp only at h
      obtain ⟨_, g1, g2⟩ := getF_ok h
      have h1 : part bs s.1 1 = 0 := by
        have h2 := getF_one bs s
        unfold bitF at hbit
        rw [g2] at h2 hbit
        simp at h2 hbit
        omega
      refine ⟨i, s.1 + 1, by rw [g2], by omega, g1, Nat.le_refl _, by omega, ?_⟩
      rw [sub_part hb _ _ g1, h1, if_pos (by omega)]
      simp [bitsL]

theorem countF_ok {bs : List Nat} (hb : ∀ b ∈ bs, b < 256) {s : Nat × Int} (h : (countF bs s).2.2 = 0) (hl : s.1 ≤ 8 * bs.length) :
    s.2 = 0 ∧ ∃ u, (countF bs s).2 = (u, 0) ∧ s.1 ≤ u ∧ u ≤ 8 * bs.length ∧ sub bs s.1 u = codeL (countF bs s).1 := by
  unfold countF at h ⊢
  by_cases h0 : s.2 ≠ 0
  · rw [if_pos h0] at h; exact absurd h h0
  rw [if_neg h0] at h ⊢
  have h0' : s.2 = 0 := by simpa using h0
  by_cases h1 : (getF bs (clw (clsF bs 6 0 s).1) (clsF bs 6 0 s).2).2.2 ≠ 0
  · rw [if_pos h1] at h; exact absurd h h1
  rw [if_neg h1] at h ⊢
  have h1' := Decidable.not_not.1 h1
  obtain ⟨g0, g1, g2⟩ := getF_ok h1'
  obtain ⟨k, u, e1, e2, e3, e4, e5, e6⟩ := clsF_ok hb 6 0 s g0 rfl h0' hl
  rw [e1] at g1 g2 h ⊢
  simp only at g1 g2 h ⊢
  rw [g2] at h ⊢
  simp only at h ⊢
  by_cases hc : k ≠ cls (part bs u (clw k))
  · rw [if_pos hc] at h; simp at h
  rw [if_neg hc]
  have hc' : k = cls (part bs u (clw k)) := Decidable.not_not.1 hc
  refine ⟨h0', u + clw k, rfl, by omega, g1, ?_⟩
  simp only
  rw [sub_append bs e2 (Nat.le_add_right u (clw k)), e6, sub_part hb _ _ g1]
  unfold codeL
  rw [← hc', Nat.sub_zero]

theorem smallF_ok {bs : List Nat} (hb : ∀ b ∈ bs, b < 256) {m : Nat} {s : Nat × Int} (h : (smallF bs m s).2.2 = 0) (hl : s.1 ≤ 8 * bs.length) :
    s.2 = 0 ∧ ∃ u, (smallF bs m s).2 = (u, 0) ∧ s.1 ≤ u ∧ u ≤ 8 * bs.length ∧ sub bs s.1 u = codeL (smallF bs m s).1 := by
  unfold smallF at h ⊢
  by_cases h0 : s.2 ≠ 0
  · rw [if_pos h0] at h; exact absurd h h0
  rw [if_neg h0] at h ⊢
  by_cases h1 : (countF bs s).2.2 ≠ 0
  · rw [if_pos h1] at h; exact absurd h h1
  rw [if_neg h1] at h ⊢
  by_cases h2 : m < (countF bs s).1
  · rw [if_pos h2] at h; simp at h
  rw [if_neg h2] at h ⊢
  exact countF_ok hb h hl
end Go.Proofs.YtjnienlidmmhdaaGreatDoor.Tk
