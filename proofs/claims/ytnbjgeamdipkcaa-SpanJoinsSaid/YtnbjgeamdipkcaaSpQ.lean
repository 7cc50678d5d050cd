/- Slices of numbers that came in, read as lists. -/
import Derived.Test.YtnbjgeamdipkcaaSpA
namespace Go.Proofs.Ytnbjgeamdipkcaa
open Go.RowKit Go.Sort
set_option linter.unusedVariables false

/-- what is told of a slice of numbers that came in -/
def RowIn (k : IntKind) (w : World) (a : Option Addr) (len cap : Nat) (zs : List Int) : Prop :=
  (a = none ∧ len = 0 ∧ cap = 0 ∧ zs = []) ∨
  ∃ x, a = some x ∧ len ≤ cap ∧ cap ≤ maxLen ∧ zs.length = cap ∧ (∀ i, i < zs.length → w.cell? (x.add i) = some (.int k (zs.getD i 0))) ∧ ∀ n ∈ zs, (Lit.int k n).wf = true
theorem cl_of_row {k : IntKind} {w : World} {a : Option Addr} {len cap : Nat} {zs : List Int} (h : RowIn k w a len cap zs) :
    ∃ l : List Int, l.length = len ∧ Cl w a (intsC k l) ∧ (∀ n ∈ l, (Lit.int k n).wf = true) ∧ len ≤ cap ∧ cap ≤ 9223372036854775807 := by
  rcases h with ⟨rfl, rfl, rfl, rfl⟩ | ⟨x, rfl, hl, hm, hz, hc, hw⟩
  · exact ⟨[], rfl, Cl.nil _ _, by simp, Nat.le_refl _, by omega⟩
  · refine ⟨zs.take len, by simp; omega, ?_, fun n hn => hw n (List.mem_of_mem_take hn), hl, by unfold maxLen at hm; omega⟩
    by_cases h0 : len = 0
    · subst h0; exact .inl rfl
    · obtain ⟨b, off, spot⟩ := x
      have hc0 := hc 0 (by omega)
      have hs : spot = none := by simpa [Addr.add] using World.cell?_spot hc0
      subst hs
      refine .inr ⟨b, off, rfl, fun j v hj => ?_⟩
      unfold intsC at hj
      rw [List.getElem?_map] at hj
      obtain ⟨z, hzj, rfl⟩ := Option.map_eq_some_iff.mp hj
      rw [List.getElem?_take] at hzj
      split at hzj
      · rename_i hjl
        have := hc j (by omega)
        rw [addr_at] at this
        have e : zs.getD j 0 = z := by rw [List.getD_eq_getElem?_getD, hzj]; rfl
        rw [this, e]
      · cases hzj
end Go.Proofs.Ytnbjgeamdipkcaa
