/- The program's read and Parse. -/
import Derived.Test.YtnnfoagdgoionabLbD
namespace Go.Proofs.Ytnnfoagdgoionab
open Go.RowKit
set_option linter.unusedVariables false

theorem unqR_len : ∀ (n : Nat) (l a b : List UInt8), l.length ≤ n → unqR l = some (a, b) → a.length ≤ l.length
  | n, [], a, b, _, h => by cases h
  | 0, c :: r, a, b, hn, h => by simp at hn
  | n + 1, c :: r, a, b, hn, h => by
    rw [unqR_cons] at h
    split at h
    · injection h with h
      injection h with h1 h2
      simp [← h1]
    · split at h
      · cases h
      · split at h
        · cases r with
          | nil => cases h
          | cons d r2 =>
            simp only at h
            split at h
            · cases h
            · cases hu : unqR r2 with
              | none => rw [hu] at h; cases h
              | some x =>
                obtain ⟨x1, x2⟩ := x
                rw [hu] at h
                injection h with h
                injection h with h1 h2
                have := unqR_len n r2 x1 x2 (by simp at hn; omega) hu
                rw [← h1]; simp; omega
        · cases hu : unqR r with
          | none => rw [hu] at h; cases h
          | some x =>
            obtain ⟨x1, x2⟩ := x
            rw [hu] at h
            injection h with h
            injection h with h1 h2
            have := unqR_len n r x1 x2 (by simp at hn; omega) hu
            rw [← h1]; simp; omega
theorem oneF_len {l a v r : List UInt8} (h : oneF l = some (a, v, r)) : a.length ≤ l.length ∧ v.length ≤ l.length := by
  unfold oneF at h
  split at h
  · cases hu : unqF (l.drop ((ixL l).toNat + 1)) with
    | none => rw [hu] at h; cases h
    | some x =>
      obtain ⟨x1, x2⟩ := x
      rw [hu] at h
      injection h with h
      injection h with h1 h
      injection h with h2 h3
      unfold unqF at hu
      split at hu
      · have := unqR_len _ _ _ _ (Nat.le_refl _) hu
        simp at this
        refine ⟨by rw [← h1, List.length_take]; omega, by rw [← h2]; show x1.length ≤ _; omega⟩
      · cases hu
  · cases h
def ReadP (o : Option (List LabL)) (e : Ending) (w' : World) : Prop := match o with
  | some L => ∃ A n c, e = .returned (.tuple #[.slice A n c, .bool true]) ∧ n = L.length ∧ Lw w' A (L.map labT)
  | none => e = .returned (.tuple #[.slice none 0 0, .bool false])
def strSz (v : Value) : Nat := match v with
  | .string s => s.size
  | _ => 0
/-- what read's loop knows: the text that is left, the labels -/
def DRel (l0 : List UInt8) (O : Option (List LabL)) (w : World) (sv lv : Value) (wr : World) : Prop :=
  ∃ (m : List UInt8) (g : Nat) (P : List LabL) (A : Option Addr) (n c : Nat), sv = .string (tx m) ∧ lv = .slice A n c ∧ m <:+ l0 ∧ m.length < g ∧ P.length + m.length ≤ 4000 ∧ O = preL P (readN g m) ∧ Wl (P.map labT) ∧ wr.ownsRow w.heap.size 36 2 (.slice A n c) n (labC (P.map labT)) ∧ Below w.heap.size w wr
theorem own_nl {W w : World} {n c : Nat} {A : Option Addr} {X : List Lab} (h : w.ownsRow W.heap.size 36 2 (.slice A n c) n (labC X)) : n = X.length := by
  have := h.1
  rw [labC_length] at this
  omega
theorem own_lw {W w : World} {n c : Nat} {A : Option Addr} {X : List Lab} (h : w.ownsRow W.heap.size 36 2 (.slice A n c) n (labC X)) (hw : Wl X) (hx : X.length ≤ 1000000) : Lw w A X := ⟨by omega, hw, own_cl h⟩

theorem is_125 (r : List UInt8) (z : Bool) (h : decide (r = [125]) = z) : ((tx r).toList == [125]) = z := by
  rw [Lib.toList_data, tx_data]
  subst h
  by_cases hr : r = [125] <;> simp [hr]
end Go.Proofs.Ytnnfoagdgoionab
