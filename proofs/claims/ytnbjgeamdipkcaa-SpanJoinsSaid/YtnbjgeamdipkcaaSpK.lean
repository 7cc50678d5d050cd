/- Sorted rows with twins left out: rising, and of the same members. Nothing of the program stands here. -/
import Derived.Test.YtnbjgeamdipkcaaSpM
import Derived.Lib.SlicesCompact
import Derived.Lib.RowBridge
namespace Go.Proofs.Ytnbjgeamdipkcaa
open Go.RowKit Go.Lib

theorem up_to (d : Array Int) (hs : ∀ i j, i < j → j < d.size → d[i]! ≤ d[j]!) : ∀ m, m ≤ d.size → Asc (compactUpTo d m) ∧ (∀ z, z ∈ compactUpTo d m ↔ ∃ j, j < m ∧ d[j]! = z) := by
  intro m
  induction m with
  | zero => intro _; exact ⟨List.Pairwise.nil, fun z => ⟨fun h => by simp [compactUpTo] at h, fun ⟨j, h, _⟩ => absurd h (Nat.not_lt_zero _)⟩⟩
  | succ k ih =>
    intro hk
    obtain ⟨h1, h2⟩ := ih (by omega)
    rw [compactUpTo_succ]
    cases hkp : keeps d k with
    | true =>
      rw [if_pos rfl]
      refine ⟨?_, fun z => ?_⟩
      · unfold Asc at h1 ⊢
        rw [List.pairwise_append]
        refine ⟨h1, by simp, fun a ha b hb => ?_⟩
        simp at hb
        subst hb
        obtain ⟨j, hj, rfl⟩ := (h2 a).1 ha
        have hlt : d[j]! ≤ d[k - 1]! := by
          by_cases e : j = k - 1
          · rw [e]; exact Int.le_refl _
          · exact hs j (k - 1) (by omega) (by omega)
        have hle := hs (k - 1) k (by omega) (by omega)
        have hne : d[k]! ≠ d[k - 1]! := by
          intro e
          rw [keeps_neg (by omega) e] at hkp
          cases hkp
        omega
      · rw [List.mem_append, h2]
        constructor
        · rintro (⟨j, hj, e⟩ | h)
          · exact ⟨j, by omega, e⟩
          · simp at h; exact ⟨k, by omega, h.symm⟩
        · rintro ⟨j, hj, e⟩
          by_cases ej : j = k
          · subst ej; exact .inr (by simp [e])
          · exact .inl ⟨j, by omega, e⟩
    | false =>
      rw [if_neg (by decide), List.append_nil]
      have h0 : 0 < k := by
        rcases Nat.eq_zero_or_pos k with e | e
        · subst e; rw [keeps_lt_one d 0 (by decide)] at hkp; cases hkp
        · exact e
      have he : d[k]! = d[k - 1]! := by
        by_cases e : d[k]! = d[k - 1]!
        · exact e
        · rw [keeps_pos e] at hkp; cases hkp
      refine ⟨h1, fun z => (h2 z).trans ⟨fun ⟨j, hj, e⟩ => ⟨j, by omega, e⟩, fun ⟨j, hj, e⟩ => ?_⟩⟩
      by_cases ej : j = k
      · subst ej; exact ⟨j - 1, by omega, by rw [← he]; exact e⟩
      · exact ⟨j, by omega, e⟩
/-- what sorting and leaving twins out makes of two rows -/
theorem uni_sorted (xs ys : List Int) : Uni xs ys (compact ((xs ++ ys).mergeSort fun x y => decide (x ≤ y))) := by
  have hp := List.mergeSort_perm (xs ++ ys) (fun x y => decide (x ≤ y))
  have hs := List.pairwise_mergeSort (le := fun x y : Int => decide (x ≤ y)) (fun a b c h1 h2 => by simp at *; omega) (fun a b => by simp; omega) (xs ++ ys)
  have hc := compact_length_le ((xs ++ ys).mergeSort fun x y => decide (x ≤ y))
  generalize (xs ++ ys).mergeSort (fun x y => decide (x ≤ y)) = Z at hp hs hc ⊢
  have hsz : Z.toArray.size = Z.length := by simp
  have hget : ∀ j, j < Z.length → Z.toArray[j]! = Z[j]! := fun j hj => by simp
  obtain ⟨a, b⟩ := up_to Z.toArray (fun i j hij hj => by
    rw [hsz] at hj
    have := (List.pairwise_iff_getElem.1 hs) i j (by omega) hj hij
    rw [getElem!_pos Z.toArray i (by simp; omega), getElem!_pos Z.toArray j (by simpa using hj)]
    simpa using this) Z.length (by simp)
  refine ⟨a, fun z => ?_, by rw [hp.length_eq] at hc; simpa using hc⟩
  show z ∈ compactUpTo Z.toArray Z.length ↔ _
  rw [b, ← List.mem_append, ← hp.mem_iff]
  constructor
  · rintro ⟨j, hj, e⟩
    rw [getElem!_pos Z.toArray j (by simpa using hj)] at e
    rw [← e]
    simp
  · intro h
    obtain ⟨j, hj, e⟩ := List.getElem_of_mem h
    exact ⟨j, hj, by rw [getElem!_pos Z.toArray j (by simpa using hj)]; simpa using e⟩
/-- the row of the indices of both -/
def uni (xs ys : List Int) : List Int := compact ((xs ++ ys).mergeSort fun x y => decide (x ≤ y))
theorem uni_uni (xs ys : List Int) : Uni xs ys (uni xs ys) := uni_sorted xs ys
end Go.Proofs.Ytnbjgeamdipkcaa
