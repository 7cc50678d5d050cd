/- A text of labels read: read and Parse. -/
import Derived.Test.YtnnfoagdgoionabLbI
namespace Go.Proofs.Ytnnfoagdgoionab
open Go.RowKit
set_option linter.unusedVariables false

theorem unqR_sub : ∀ (n : Nat) (l a b : List UInt8), l.length ≤ n → unqR l = some (a, b) → ∃ j, 1 ≤ j ∧ j ≤ l.length ∧ b = l.drop j
  | n, [], a, b, _, h => by cases h
  | 0, c :: r, a, b, hn, h => by simp at hn
  | n + 1, c :: r, a, b, hn, h => by
    rw [unqR_cons] at h
    split at h
    · injection h with h
      injection h with h1 h2
      exact ⟨1, by omega, by simp, by simp [h2]⟩
    · split at h
      · cases h
      · split at h
        · cases r with
          | nil => cases h
          | cons d r2 =>
            simp only at h
            split at h
            · cases h
            · rename_i m _
              cases hu : unqR r2 with
              | none => rw [hu] at h; cases h
              | some x =>
                obtain ⟨x1, x2⟩ := x
                rw [hu] at h
                injection h with h
                injection h with h1 h2
                obtain ⟨j, j1, j2, j3⟩ := unqR_sub n r2 x1 x2 (by simp at hn; omega) hu
                exact ⟨j + 2, by omega, by simp; omega, by rw [← h2]; simpa using j3⟩
        · cases hu : unqR r with
          | none => rw [hu] at h; cases h
          | some x =>
            obtain ⟨x1, x2⟩ := x
            rw [hu] at h
            injection h with h
            injection h with h1 h2
            obtain ⟨j, j1, j2, j3⟩ := unqR_sub n r x1 x2 (by simp at hn; omega) hu
            exact ⟨j + 1, by omega, by simp; omega, by rw [← h2]; simpa using j3⟩
theorem unqF_sub {l a b : List UInt8} (h : unqF l = some (a, b)) : ∃ j, 2 ≤ j ∧ j ≤ l.length ∧ b = l.drop j := by
  unfold unqF at h
  split at h
  · obtain ⟨j, j1, j2, j3⟩ := unqR_sub _ _ a b (Nat.le_refl _) h
    rw [List.length_drop] at j2
    exact ⟨j + 1, by omega, by omega, by rw [j3, List.drop_drop, Nat.add_comm]⟩
  · cases h
theorem oneF_sub {l a v r : List UInt8} (h : oneF l = some (a, v, r)) : ∃ j, 1 ≤ j ∧ j ≤ l.length ∧ r = l.drop j := by
  unfold oneF at h
  split at h
  · cases hu : unqF (l.drop ((ixL l).toNat + 1)) with
    | none => rw [hu] at h; cases h
    | some x =>
      obtain ⟨x1, x2⟩ := x
      rw [hu] at h
      injection h with h
      injection h with h1 h
      injection h with h2 h3
      obtain ⟨j, j1, j2, j3⟩ := unqF_sub hu
      rw [List.length_drop] at j2
      exact ⟨(ixL l).toNat + 1 + j, by omega, by omega, by rw [← h3, j3, List.drop_drop]⟩
  · cases h
abbrev LabL := List UInt8 × List UInt8
/-- labels of a text behind the first sign, n at most -/
def readN : Nat → List UInt8 → Option (List LabL)
  | 0, _ => none
  | n + 1, l => match oneF l with
    | none => none
    | some (a, v, r) => if r = [125] then some [(a, v)] else if hdB r 44 = true then (readN n (r.drop 1)).map fun x => (a, v) :: x else none
def readL (l : List UInt8) : Option (List LabL) := if hdB l 123 = true then (if l.drop 1 = [125] then some [] else readN l.length (l.drop 1)) else none
def preL (P : List LabL) (o : Option (List LabL)) : Option (List LabL) := o.map fun x => P ++ x
theorem preL_nil (o : Option (List LabL)) : preL [] o = o := by cases o <;> rfl
theorem preL_snoc (P : List LabL) (c : LabL) (o : Option (List LabL)) : preL P (o.map fun x => c :: x) = preL (P ++ [c]) o := by
  cases o <;> simp [preL]
/-- labels as Go has them -/
def labT (p : LabL) : Lab := (tx p.1, tx p.2)
theorem cut_is (s : ByteArray) (c : UInt8) (w : World) (z : Bool) (h : hdB s.data.toList c = z) : Calls Try.prog 54 #[.string s, .string ⟨#[c]⟩] w fun e w' => e = .returned (.tuple #[.string (tx (if z = true then s.data.toList.drop 1 else s.data.toList)), .bool z]) ∧ w = w' :=
  (Try.strings_CutPrefix s ⟨#[c]⟩ w).mono fun e w' ⟨he, hw⟩ => ⟨by
    have hp : Lib.hasPrefix s.data.toList [c] = z := by rw [pref_one, h]
    have ht : Lib.trimPrefix s.data.toList [c] = if z = true then s.data.toList.drop 1 else s.data.toList := by
      unfold Lib.trimPrefix
      rw [hp]
      rfl
    rw [he]
    show Ending.returned (.tuple #[.string ⟨(Lib.trimPrefix s.data.toList [c]).toArray⟩, .bool (Lib.hasPrefix s.data.toList [c])]) = _
    rw [hp, ht]; rfl, hw.symm⟩
end Go.Proofs.Ytnnfoagdgoionab
