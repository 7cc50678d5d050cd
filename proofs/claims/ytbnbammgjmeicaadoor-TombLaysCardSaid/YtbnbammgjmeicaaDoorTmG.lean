/- Sets together: And; a set but for a range: Without. -/
import Derived.Test.YtbnbammgjmeicaaDoorTmF
namespace Go.Proofs.YtbnbammgjmeicaaDoor.Tm
open Go.RowKit Go.Sort
set_option linter.unusedVariables false

theorem grows (w : World) (o : Obj) : Below w.heap.size w (w.alloc o) := (Below.refl _ _).alloc (Nat.le_refl _) _
theorem two_rows {w W : World} {g : Nat} {u v : Value} {t : TypeId} (hg : w.heap.size = g) (hW : w.alloc (.cells #[u, v] t) = W) : W.cell? ⟨g, 0, none⟩ = some u ∧ W.cell? ⟨g, 1, none⟩ = some v := by
  subst hg hW
  have h := heap_alloc_new w (.cells #[u, v] t)
  exact ⟨by rw [cell_of_row _ _ _ _ _ _ h]; rfl, by rw [cell_of_row _ _ _ _ _ _ h]; rfl⟩
/-- a store into a box that holds no number leaves ranges -/
theorem cl_box {w : World} {A : Option Addr} {Z : List Rg} {g : Nat} {t : TypeId} {v : Value} (h : Cl w A (twoC .i64 Z)) (hx : w.heap[g]? = some (.cells #[v] t (0, 0))) (hv : ∀ n, v ≠ .int .i64 n) (u : Value) : Cl (w.setCell ⟨g, 0, none⟩ u) A (twoC .i64 Z) := by
  by_cases hZ : Z = []
  · subst hZ; exact Cl.nil _ _
  · have h0 : 0 < Z.length := List.length_pos_iff.2 hZ
    obtain ⟨b, off, rfl, hc⟩ := h.twos h0
    refine h.set (p := ⟨g, 0, none⟩) (fun a ha => ?_) u
    injection ha with ha
    subst ha
    intro e
    have e' : b = g := e
    obtain ⟨q0, _⟩ := hc 0 Z[0] (List.getElem?_eq_getElem h0)
    rw [e', cell_of_row _ _ _ _ _ _ hx] at q0
    by_cases ho : off + 0 * 2 = 0
    · rw [ho] at q0
      simp at q0
      exact hv _ q0
    · rw [Array.getElem?_eq_none (by simp; omega)] at q0
      cases q0
end Go.Proofs.YtbnbammgjmeicaaDoor.Tm
