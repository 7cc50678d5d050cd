/- The order of texts, byte by byte; labels compared. -/
import Derived.Test.YtnnfoagdgoionabLbM
namespace Go.Proofs.Ytnnfoagdgoionab
set_option linter.unusedVariables false

theorem cmp_lt : ∀ a b : List UInt8, Lib.compareBytes a b < 0 ↔ a < b
  | [], [] => by simp [Lib.compareBytes]
  | [], _ :: _ => by simp [Lib.compareBytes]
  | _ :: _, [] => by simp [Lib.compareBytes]
  | x :: a, y :: b => by
    have ih := cmp_lt a b
    rw [List.cons_lt_cons_iff]
    unfold Lib.compareBytes
    by_cases h1 : x < y
    · simp [h1]
    · by_cases h2 : y < x
      · have hne : x ≠ y := fun e => UInt8.lt_irrefl y (e ▸ h2)
        simp [h1, h2, hne]
      · have he : x = y := UInt8.le_antisymm (UInt8.not_lt.1 h2) (UInt8.not_lt.1 h1)
        subst he
        simp [h1, ih]
theorem cmp_neg : ∀ a b : List UInt8, Lib.compareBytes b a = - Lib.compareBytes a b
  | [], [] => by simp [Lib.compareBytes]
  | [], _ :: _ => by simp [Lib.compareBytes]
  | _ :: _, [] => by simp [Lib.compareBytes]
  | x :: a, y :: b => by
    have ih := cmp_neg a b
    unfold Lib.compareBytes
    by_cases h1 : x < y
    · have h2 : ¬ y < x := fun h => UInt8.lt_irrefl x (UInt8.lt_trans h1 h)
      simp [h1, h2]
    · by_cases h2 : y < x
      · simp [h1, h2]
      · simp [h1, h2, ih]
theorem cmp_zero : ∀ a b : List UInt8, Lib.compareBytes a b = 0 ↔ a = b
  | [], [] => by simp [Lib.compareBytes]
  | [], _ :: _ => by simp [Lib.compareBytes]
  | _ :: _, [] => by simp [Lib.compareBytes]
  | x :: a, y :: b => by
    have ih := cmp_zero a b
    unfold Lib.compareBytes
    by_cases h1 : x < y
    · have hne : x ≠ y := fun e => UInt8.lt_irrefl y (e ▸ h1)
      simp [h1, hne]
    · by_cases h2 : y < x
      · have hne : x ≠ y := fun e => UInt8.lt_irrefl y (e ▸ h2)
        simp [h1, h2, hne]
      · have he : x = y := UInt8.le_antisymm (UInt8.not_lt.1 h2) (UInt8.not_lt.1 h1)
        subst he
        simp [h1, ih]
theorem cmp_three (a b : List UInt8) : Lib.compareBytes a b = -1 ∨ Lib.compareBytes a b = 0 ∨ Lib.compareBytes a b = 1 := by
  induction a generalizing b with
  | nil => cases b <;> simp [Lib.compareBytes]
  | cons x a ih =>
    cases b with
    | nil => simp [Lib.compareBytes]
    | cons y b =>
      unfold Lib.compareBytes
      split
      · simp
      · split
        · simp
        · exact ih b
theorem cmp_trans {a b c : List UInt8} (h1 : a < b) (h2 : b < c) : a < c := List.lt_trans h1 h2
theorem lt_irr (a : List UInt8) : ¬ a < a := List.lt_irrefl a
theorem lt_tri (a b : List UInt8) : a < b ∨ a = b ∨ b < a := by
  rcases cmp_three a b with h | h | h
  · exact .inl ((cmp_lt a b).1 (by omega))
  · exact .inr (.inl ((cmp_zero a b).1 h))
  · exact .inr (.inr ((cmp_lt b a).1 (by rw [cmp_neg]; omega)))
theorem ltS_irr (a : ByteArray) : ¬ ltS a a := lt_irr _
theorem ltS_trans {a b c : ByteArray} (h1 : ltS a b) (h2 : ltS b c) : ltS a c := List.lt_trans h1 h2
theorem toList_inj {a b : ByteArray} (h : a.toList = b.toList) : a = b := by
  rw [Lib.toList_data, Lib.toList_data] at h
  apply ByteArray.ext
  exact Array.toList_inj.1 h
theorem ltS_tri (a b : ByteArray) : ltS a b ∨ a = b ∨ ltS b a := by
  rcases lt_tri a.toList b.toList with h | h | h
  · exact .inl h
  · exact .inr (.inl (toList_inj h))
  · exact .inr (.inr h)
/-- at most, as Go asks it -/
theorem leq_false {a b : ByteArray} (h : ltS b a) : (Op.bytesLess a.toList b.toList || a.toList == b.toList) = false := by
  rw [bytesLess_eq]
  have h1 : ¬ a.toList < b.toList := fun h' => lt_irr _ (List.lt_trans h h')
  have h2 : a.toList ≠ b.toList := fun e => by unfold ltS at h; rw [e] at h; exact lt_irr _ h
  simp [h1, h2]
theorem leq_true {a b : ByteArray} (h : ¬ ltS b a) : (Op.bytesLess a.toList b.toList || a.toList == b.toList) = true := by
  rw [bytesLess_eq]
  rcases lt_tri a.toList b.toList with h1 | h1 | h1
  · simp [h1]
  · simp [h1]
  · exact absurd h1 h
theorem less_true {a b : ByteArray} (h : ltS a b) : Op.bytesLess a.toList b.toList = true := (less_iff a b).2 h
theorem less_false {a b : ByteArray} (h : ¬ ltS a b) : Op.bytesLess a.toList b.toList = false := by
  cases hb : Op.bytesLess a.toList b.toList with
  | false => rfl
  | true => exact absurd ((less_iff a b).1 hb) h
end Go.Proofs.Ytnnfoagdgoionab
