/- A box of eight cells, in every later world. -/
import Derived.Test.YtofaciagkkipbaaHsK
namespace Go.Proofs.Ytofaciagkkipbaa
open Go.RowKit Go.Sort Go.Maps
set_option linter.unusedVariables false

theorem box8b {w0 : World} {g : Nat} {t : TypeId} {v0 v1 v2 v3 v4 v5 v6 v7 : Value} (h : w0.heap[g]? = some (.cells #[v0, v1, v2, v3, v4, v5, v6, v7] t (0, 0))) (W : World) (hb : RowKit.Below w0.heap.size w0 W) :
    W.cell? ⟨g, 0, none⟩ = some v0 ∧ W.cell? ⟨g, 1, none⟩ = some v1 ∧ W.cell? ⟨g, 2, none⟩ = some v2 ∧ W.cell? ⟨g, 3, none⟩ = some v3 ∧ W.cell? ⟨g, 4, none⟩ = some v4 ∧ W.cell? ⟨g, 5, none⟩ = some v5 ∧ W.cell? ⟨g, 6, none⟩ = some v6 ∧ W.cell? ⟨g, 7, none⟩ = some v7 := by
  have hg : g < w0.heap.size := (Array.getElem?_eq_some_iff.1 h).1
  obtain ⟨a, b, c, d, e, f, g', i, _⟩ := box8 ((hb.block g hg).trans h)
  exact ⟨a, b, c, d, e, f, g', i⟩
end Go.Proofs.Ytofaciagkkipbaa
