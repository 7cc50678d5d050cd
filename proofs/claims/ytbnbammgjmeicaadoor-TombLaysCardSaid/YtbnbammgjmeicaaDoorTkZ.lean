/- The law SpanTakes over the slice that comes in as it lies. -/
import Derived.Test.YtbnbammgjmeicaaDoorTkK
namespace Go.Proofs.YtbnbammgjmeicaaDoor.Tk
open Go.RowKit Go.Sort
set_option linter.unusedVariables false

def RowIn (k : IntKind) (w : World) (a : Option Addr) (len cap : Nat) (zs : List Int) : Prop :=
  (a = none ∧ len = 0 ∧ cap = 0 ∧ zs = []) ∨
  ∃ x, a = some x ∧ len ≤ cap ∧ cap ≤ maxLen ∧ zs.length = cap ∧ (∀ i, i < zs.length → w.cell? (x.add i) = some (.int k (zs.getD i 0))) ∧ ∀ n ∈ zs, (Lit.int k n).wf = true
theorem sl_of_row {w : World} {a : Option Addr} {len cap : Nat} {zs : List Int} (h : RowIn .u8 w a len cap zs) : ∃ bs : List Nat, bs.length = len ∧ Sl w a cap bs := by
  rcases h with ⟨rfl, rfl, rfl, rfl⟩ | ⟨x, rfl, hl, hm, hz, hc, hw⟩
  · exact ⟨[], rfl, Sl.nil w⟩
  · have h8 : ∀ x ∈ zs, 0 ≤ x ∧ x ≤ 255 := fun x hx => bounds_u8 (hw x hx)
    refine ⟨(zs.take len).map Int.toNat, by simp; omega, by simp; omega, by unfold maxLen at hm; omega, fun e => by simp at e, fun y hy => ?_, by simp; unfold maxLen at hm; omega, ?_⟩
    · obtain ⟨z, hzm, rfl⟩ := List.mem_map.1 hy
      have := h8 z (List.mem_of_mem_take hzm)
      omega
    · by_cases h0 : len = 0
      · exact .inl (by simp; omega)
      · obtain ⟨b, off, spot⟩ := x
        have hc0 := hc 0 (by omega)
        have hs : spot = none := by simpa [Addr.add] using World.cell?_spot hc0
        subst hs
        refine .inr ⟨b, off, rfl, fun j y hj => ?_⟩
        rw [List.getElem?_map] at hj
        obtain ⟨z, hzj, rfl⟩ := Option.map_eq_some_iff.mp hj
        rw [List.getElem?_take] at hzj
        split at hzj
        · rename_i hjl
          have := hc j (by omega)
          rw [addr_add] at this
          have e : zs.getD j 0 = z := by rw [List.getD_eq_getElem?_getD, hzj]; rfl
          have hz8 := h8 z (List.mem_of_getElem? hzj)
          rw [this, e]
          congr 2
          omega
        · cases hzj

end Go.Proofs.YtbnbammgjmeicaaDoor.Tk
