/- Rising lists are one by what they hold. -/
import Derived.Test.YtofaciagkkipbaaHsL
import Derived.Test.YtofaciagkkipbaaHsM
namespace Go.Proofs.Ytofaciagkkipbaa
open Go.RowKit Go.Sort Go.Maps
set_option linter.unusedVariables false

theorem side_unique {f g : F3} {sc s sc' s' : Int} {X Y : List (Int × Int)} (aX : Asc X) (aY : Asc Y) (hX : Side f sc s X) (hY : Side g sc' s' Y) (h : ∀ i, I64 i → f s sc i = g s' sc' i) : X = Y := by
  refine asc_unique aX aY fun ⟨i, n⟩ => ?_
  constructor
  · intro hm
    have hi := hX.2.1 _ hm
    rw [hY.2.2 i n hi, ← h i hi]
    exact (hX.2.2 i n hi).1 hm
  · intro hm
    have hi := hY.2.1 _ hm
    rw [hX.2.2 i n hi, h i hi]
    exact (hY.2.2 i n hi).1 hm
/-- a rising list without empty buckets is the side of itself -/
theorem side_self {sc : Int} {P Q : List (Int × Int)} (hP : Asc P) (hw : ∀ p ∈ P, Wb p) (h0 : ∀ p ∈ P, p.2 ≠ 0) (k : Nat) (hk : k = 0) : Side (gF sc P Q) sc 1 P := by
  refine ⟨?_, fun p hp => ⟨(hw p hp).1, (hw p hp).2.1⟩, fun i n hi => ?_⟩
  · rw [List.Nodup, List.pairwise_map]
    exact hP.imp (fun h => by omega)
  · simp only [gF, if_true]
    constructor
    · intro hm
      exact ⟨(atI_asc hP hm).symm, h0 _ hm⟩
    · rintro ⟨e, hn⟩
      by_cases h : ∃ p ∈ P, p.1 = i
      · obtain ⟨p, hp, rfl⟩ := h
        have := atI_asc hP (i := p.1) (n := p.2) hp
        rw [e, this]
        exact hp
      · rw [atI_none (fun p hp e => h ⟨p, hp, e⟩)] at e
        exact absurd e hn
theorem side_self2 {sc : Int} {P Q : List (Int × Int)} (hP : Asc Q) (hw : ∀ p ∈ Q, Wb p) (h0 : ∀ p ∈ Q, p.2 ≠ 0) : Side (gF sc P Q) sc (-1) Q := by
  have h := side_self (sc := sc) (Q := []) hP hw h0 0 rfl
  refine ⟨h.1, h.2.1, fun i n hi => ?_⟩
  rw [h.2.2 i n hi]
  simp [gF]

theorem wbL {l : List (Int × Int)} (h : l.all (fun p => decide (-9223372036854775808 ≤ p.1) && decide (p.1 ≤ 9223372036854775807) && decide (0 ≤ p.2) && decide (p.2 ≤ 18446744073709551615)) = true) : ∀ p ∈ l, Wb p := by
  intro p hp
  have := List.all_eq_true.1 h p hp
  simp at this
  exact ⟨this.1.1.1, this.1.1.2, this.1.2, this.2⟩
end Go.Proofs.Ytofaciagkkipbaa
