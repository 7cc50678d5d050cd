/- The document's Lay: what text it returns. -/
import Derived.Test.YtjkoomeffckbhaaGreatDoorTkV
namespace Go.Proofs.YtjkoomeffckbhaaGreatDoor.Tk
open Go.RowKit
set_option linter.unusedVariables false

/-- the bits of runs, from the i-th on -/
def restL : Nat → List (Int × Int) → List Bool
  | _, [] => []
  | i, p :: t => ((if 0 < i then codeL (p.1 - 1).toNat else []) ++ codeL (p.2 - 1).toNat) ++ restL (i + 1) t
theorem restL_snoc (L : List (Int × Int)) (p : Int × Int) : ∀ i, restL i (L ++ [p]) = restL i L ++ ((if 0 < i + L.length then codeL (p.1 - 1).toNat else []) ++ codeL (p.2 - 1).toNat) := by
  induction L with
  | nil => intro i; simp [restL]
  | cons q t ih =>
    intro i
    have e : i + 1 + t.length = i + (q :: t).length := by simp; omega
    simp only [List.cons_append, restL, ih, e, List.append_assoc]
theorem restL_length (L : List (Int × Int)) : ∀ i, (restL i L).length ≤ 142 * L.length := by
  induction L with
  | nil => intro i; simp [restL]
  | cons q t ih =>
    intro i
    have h1 := codeL_length (q.1 - 1).toNat
    have h2 := codeL_length (q.2 - 1).toNat
    have h3 := ih (i + 1)
    simp only [restL, List.length_append, List.length_cons]
    generalize codeL (q.1 - 1).toNat = x at *
    generalize codeL (q.2 - 1).toNat = y at *
    split
    · omega
    · simp only [List.length_nil]; omega
/-- a layout's bits -/
def layL (f : Int) (L : List (Int × Int)) : List Bool := if L = [] then codeL 0 else (codeL L.length ++ codeL (zigv f).toNat) ++ restL 0 L
/-- runs that can be laid -/
def Lb (L : List (Int × Int)) : Prop := ∀ (i : Nat) (p : Int × Int), L[i]? = some p → (i = 0 ∨ (1 ≤ p.1 ∧ p.1 ≤ 1000000)) ∧ 1 ≤ p.2 ∧ p.2 ≤ 1000000

def LayRel (f : Int) (L : List (Int × Int)) (w : World) (i s : Value) (wr : World) : Prop :=
  ∃ j : Nat, j ≤ L.length ∧ i = .int .i64 (j : Int) ∧ s = .string (T ((codeL L.length ++ codeL (zigv f).toNat) ++ restL 0 (L.take j))) ∧ Below w.heap.size w wr

end Go.Proofs.YtjkoomeffckbhaaGreatDoor.Tk
