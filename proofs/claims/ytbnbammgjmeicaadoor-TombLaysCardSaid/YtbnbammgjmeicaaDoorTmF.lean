/- Has a set a time: the search for it. -/
import Derived.Test.YtbnbammgjmeicaaDoorTmE
namespace Go.Proofs.YtbnbammgjmeicaaDoor.Tm
open Go.RowKit Go.Sort
set_option linter.unusedVariables false

def SrPost (X : List Rg) (t : Int) (e : Ending) : Prop := ∃ k : Nat, k ≤ X.length ∧ e = .returned (.int .i64 k) ∧ (∀ m p, m < k → X[m]? = some p → p.2 < t) ∧ (∀ m p, k ≤ m → X[m]? = some p → t ≤ p.2)
def SrRel (X : List Rg) (t : Int) (w0 : World) (vi vj : Value) (wr : World) : Prop :=
  ∃ i j : Nat, i ≤ j ∧ j ≤ X.length ∧ vi = .int .i64 i ∧ vj = .int .i64 j ∧ (∀ m p, m < i → X[m]? = some p → p.2 < t) ∧ (∀ m p, j ≤ m → X[m]? = some p → t ≤ p.2) ∧ ∃ q, wr = w0.drewN q
theorem can_at {X : List Rg} (h : Can X) {a b : Nat} {p q : Rg} (hab : a < b) (hp : X[a]? = some p) (hq : X[b]? = some q) : p.2 + 2 ≤ q.1 ∧ q.1 ≤ q.2 := by
  refine ⟨?_, (h.1 q (List.mem_of_getElem? hq)).2.1⟩
  obtain ⟨ha, rfl⟩ := List.getElem?_eq_some_iff.1 hp
  obtain ⟨hb, rfl⟩ := List.getElem?_eq_some_iff.1 hq
  exact List.pairwise_iff_getElem.1 h.2 a b ha hb hab
theorem has_at {X : List Rg} {t : Int} {k : Nat} {p : Rg} (h : Can X) (h1 : ∀ m p, m < k → X[m]? = some p → p.2 < t) (h2 : ∀ m p, k ≤ m → X[m]? = some p → t ≤ p.2) (hp : X[k]? = some p) : hasB X t = decide (p.1 ≤ t) := by
  unfold hasB
  rw [Bool.eq_iff_iff, decide_eq_true_eq, decide_eq_true_eq]
  have hpt := h2 k p (Nat.le_refl _) hp
  constructor
  · rintro ⟨r, hr, i1, i2⟩
    obtain ⟨m, hm⟩ := List.mem_iff_getElem?.1 hr
    by_cases hmk : m < k
    · have := h1 m r hmk hm; omega
    · by_cases he : m = k
      · subst he
        rw [hm] at hp
        simp at hp
        rw [← hp]; exact i1
      · have := can_at h (show k < m by omega) hp hm
        omega
  · intro h3
    exact ⟨p, List.mem_of_getElem? hp, h3, hpt⟩
theorem has_end {X : List Rg} {t : Int} (h1 : ∀ m p, m < X.length → X[m]? = some p → p.2 < t) : hasB X t = false := by
  unfold hasB
  rw [decide_eq_false_iff_not]
  rintro ⟨r, hr, i1, i2⟩
  obtain ⟨m, hm⟩ := List.mem_iff_getElem?.1 hr
  have := h1 m r (List.getElem?_eq_some_iff.1 hm).1 hm
  omega
end Go.Proofs.YtbnbammgjmeicaaDoor.Tm
