/- The contracts of slices.Equal at runs, and of Same. -/
import Derived.Test.YtnbjgeamdipkcaaDoorSpI
import Derived.Laws.StructEq
namespace Go.Proofs.YtnbjgeamdipkcaaDoor
open Go.RowKit Go.Sort
set_option linter.unusedVariables false

theorem eqlS (a b c d : Int) (w : World) : (binOp .eql 44 (.agg #[.int .i64 a, .int .i64 b]) (.agg #[.int .i64 c, .int .i64 d])).run Tryd.prog w = .ok (.bool (a == c && b == d)) w := by
  have u3 := Tryd.underlying3
  have a3 := Tryd.isAgg3
  have z3 := Tryd.sizeOf3
  have hS : Tryd.prog.underlying 44 = some (.struct (Tryd.prog.fieldsOf 44)) := by kernel_rfl
  have hp : Tryd.prog.stoodInHeld 44 = false := by kernel_rfl
  rw [run_eql_struct, show (10000 : Nat) = 9999 + 1 from rfl, run_equalIn_agg w 9999 44 _ _ hS hp]
  simp only [Program.fieldsOf, Tryd.underlying44]
  go_simp
  by_cases h1 : a = c <;> by_cases h2 : b = d <;> simp [h1, h2]
theorem neqS (a b c d : Int) (w : World) : (binOp .neq 44 (.agg #[.int .i64 a, .int .i64 b]) (.agg #[.int .i64 c, .int .i64 d])).run Tryd.prog w = .ok (.bool (!(a == c && b == d))) w := by
  have u3 := Tryd.underlying3
  have a3 := Tryd.isAgg3
  have z3 := Tryd.sizeOf3
  have hS : Tryd.prog.underlying 44 = some (.struct (Tryd.prog.fieldsOf 44)) := by kernel_rfl
  have hp : Tryd.prog.stoodInHeld 44 = false := by kernel_rfl
  rw [run_neq_struct, show (10000 : Nat) = 9999 + 1 from rfl, run_equalIn_agg w 9999 44 _ _ hS hp]
  simp only [Program.fieldsOf, Tryd.underlying44]
  go_simp
  by_cases h1 : a = c <;> by_cases h2 : b = d <;> simp [h1, h2]
theorem guardS (op : BinOp) (x y : Operand) (xs ys : Array Value) (w : World) : (eqGuard op 44 x y (.agg xs) (.agg ys)).run Tryd.prog w = .ok () w := run_eqGuard_agg w op _ x y xs ys (by kernel_rfl)
def eqL (P Q : List (Int × Int)) : Bool := decide (P = Q)
theorem eqL_len {P Q : List (Int × Int)} (h : P.length ≠ Q.length) : eqL P Q = false := by
  unfold eqL
  rw [decide_eq_false_iff_not]
  intro e
  exact h (by rw [e])
theorem eqL_at {P Q : List (Int × Int)} {k : Nat} {p q : Int × Int} (hp : P[k]? = some p) (hq : Q[k]? = some q) (h : p ≠ q) : eqL P Q = false := by
  unfold eqL
  rw [decide_eq_false_iff_not]
  intro e
  rw [e, hq] at hp
  exact h (by simpa using hp.symm)
theorem take_both {P Q : List (Int × Int)} {k : Nat} {p : Int × Int} (hp : P[k]? = some p) (hq : Q[k]? = some p) (h : P.take k = Q.take k) : P.take (k + 1) = Q.take (k + 1) := by
  rw [take_snoc P k p hp, take_snoc Q k p hq, h]
end Go.Proofs.YtnbjgeamdipkcaaDoor
