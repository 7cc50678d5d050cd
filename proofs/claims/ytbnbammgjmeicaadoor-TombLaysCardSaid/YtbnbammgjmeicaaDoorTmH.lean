/- A set but for a range that may be: Without. -/
import Derived.Test.YtbnbammgjmeicaaDoorTmG
namespace Go.Proofs.YtbnbammgjmeicaaDoor.Tm
open Go.RowKit Go.Sort
set_option linter.unusedVariables false

theorem cutL_snoc (r : Rg) (l : List Rg) (x : Rg) : cutL r (l ++ [x]) = cutL r l ++ cutE r x := by simp [cutL]
/-- a set but for a range is made -/
def LessP (w : World) (r : Rg) (X : List Rg) (e : Ending) (w' : World) : Prop := ∃ v Z, e = .returned v ∧ Can Z ∧ (∀ t, HasP Z t ↔ HasP X t ∧ ¬ InR r t) ∧ Z.length ≤ 2 * X.length ∧ St w' v Z ∧ Below w.heap.size w w'
end Go.Proofs.YtbnbammgjmeicaaDoor.Tm
