/-
  No cell of these rows narrows 'for every input' (looked for: loops, veiled, ifaces, maps, wideKeys, modest, calm, conditions, laid).
  DERIVED. THE GIVEN ROWS OF THIS SEAT. 4 by the template 'for every input the law returns true; each argument reads behind the call as it read before'; 0 by the template 'total and deterministic' (their statements: YtoombgjjdkocjaaTotals.lean).
  GIVEN WITH THE SEED: the statements are not yours to turn. If you find one false, say at which input.
  Laid BY PROGRAM, IN A SANDBOX (cutbox-rows.mjs): the forced cells as the released guide's own fill.sh prints them over the translation 91c3e158801d731a… (all of the seat's roots in one cut). By AI agents, Wed Nov 11 2026. No macro, syntax, notation, axiom, sorry.
-/
import Derived.Test.YtoombgjjdkocjaaChecked
import GoSem.Claim
import GoSem.ClaimJoined
import GoSem.ClaimMapViews
import Derived.JoinedTies
import Derived.KernelRfl
namespace Go.Proofs.Ytoombgjjdkocjaa
/- THE CELL 'sum', in the pinned program and in every row, IS THE sha256 OF THE DUMP (.gsa) THAT YtoombgjjdkocjaaProg.lean LOADS. Nothing in Lean hashes anything: it is a label: what it is worth is what the hold of that sum in a sandbox is worth. -/
noncomputable def Try.pinned : Pinned := { name := "ytoombgjjdkocjaa", sum := "91c3e158801d731a3b1784121e94867f0ade0475b631be3c5b9d20c088bdee4c", checked := Try.checked }
namespace Rows
def none {H : Type} : Left H := { results := [], args := [] }

/-- 'pluviallaw05.HistCells': WHATEVER THE INPUT: true; the input reads as it did. -/
def histCellsSpec : ChangeSpec := { name := "histCells", fn := fun _ => fun
  | [d1, d2, d3] => { results := [.lit (.bool true)], args := [d1, d2, d3] }
  | _ => none }
def histCellsRow : OpenClaim := { program := "ytoombgjjdkocjaa", sum := "91c3e158801d731a3b1784121e94867f0ade0475b631be3c5b9d20c088bdee4c", func := "pluvial/pluviallaw05.HistCells", spec := "histCells", unfollowed := true, recurses := true, plainKeys := false, apart := false }
def HistCellsSaid : Prop := histCellsRow.holds Try.pinned (OpenSpec.ofChange histCellsSpec)

/-- ITS FALSE NEIGHBOUR: 'it returns false'. Refute it at one input. -/
def histCellsWrong : ChangeSpec := { name := "histCells", fn := fun _ => fun
  | [d1, d2, d3] => { results := [.lit (.bool false)], args := [d1, d2, d3] }
  | _ => none }
def HistCellsWrongFalsely : Prop := histCellsRow.holds Try.pinned (OpenSpec.ofChange histCellsWrong)

/-- 'pluviallaw05.HistSame': WHATEVER THE INPUT: true; the input reads as it did. -/
def histSameSpec : ChangeSpec := { name := "histSame", fn := fun _ => fun
  | [d1, d2] => { results := [.lit (.bool true)], args := [d1, d2] }
  | _ => none }
def histSameRow : OpenClaim := { program := "ytoombgjjdkocjaa", sum := "91c3e158801d731a3b1784121e94867f0ade0475b631be3c5b9d20c088bdee4c", func := "pluvial/pluviallaw05.HistSame", spec := "histSame", unfollowed := true, recurses := true, plainKeys := false, apart := false }
def HistSameSaid : Prop := histSameRow.holds Try.pinned (OpenSpec.ofChange histSameSpec)

/-- ITS FALSE NEIGHBOUR: 'it returns false'. Refute it at one input. -/
def histSameWrong : ChangeSpec := { name := "histSame", fn := fun _ => fun
  | [d1, d2] => { results := [.lit (.bool false)], args := [d1, d2] }
  | _ => none }
def HistSameWrongFalsely : Prop := histSameRow.holds Try.pinned (OpenSpec.ofChange histSameWrong)

/-- 'pluviallaw05.HistMakes': WHATEVER THE INPUT: true; the input reads as it did. -/
def histMakesSpec : ChangeSpec := { name := "histMakes", fn := fun _ => fun
  | [d1, d2, d3, d4] => { results := [.lit (.bool true)], args := [d1, d2, d3, d4] }
  | _ => none }
def histMakesRow : OpenClaim := { program := "ytoombgjjdkocjaa", sum := "91c3e158801d731a3b1784121e94867f0ade0475b631be3c5b9d20c088bdee4c", func := "pluvial/pluviallaw05.HistMakes", spec := "histMakes", unfollowed := true, recurses := true, plainKeys := false, apart := false }
def HistMakesSaid : Prop := histMakesRow.holds Try.pinned (OpenSpec.ofChange histMakesSpec)

/-- ITS FALSE NEIGHBOUR: 'it returns false'. Refute it at one input. -/
def histMakesWrong : ChangeSpec := { name := "histMakes", fn := fun _ => fun
  | [d1, d2, d3, d4] => { results := [.lit (.bool false)], args := [d1, d2, d3, d4] }
  | _ => none }
def HistMakesWrongFalsely : Prop := histMakesRow.holds Try.pinned (OpenSpec.ofChange histMakesWrong)

/-- 'pluviallaw05.HistAdds': WHATEVER THE INPUT: true; the input reads as it did. -/
def histAddsSpec : ChangeSpec := { name := "histAdds", fn := fun _ => fun
  | [d1, d2] => { results := [.lit (.bool true)], args := [d1, d2] }
  | _ => none }
def histAddsRow : OpenClaim := { program := "ytoombgjjdkocjaa", sum := "91c3e158801d731a3b1784121e94867f0ade0475b631be3c5b9d20c088bdee4c", func := "pluvial/pluviallaw05.HistAdds", spec := "histAdds", unfollowed := true, recurses := true, plainKeys := false, apart := false }
def HistAddsSaid : Prop := histAddsRow.holds Try.pinned (OpenSpec.ofChange histAddsSpec)

/-- ITS FALSE NEIGHBOUR: 'it returns false'. Refute it at one input. -/
def histAddsWrong : ChangeSpec := { name := "histAdds", fn := fun _ => fun
  | [d1, d2] => { results := [.lit (.bool false)], args := [d1, d2] }
  | _ => none }
def HistAddsWrongFalsely : Prop := histAddsRow.holds Try.pinned (OpenSpec.ofChange histAddsWrong)

/- THE SECOND FORM. 'bulk': how many values and letters a reading holds, each counted each time it is reached (what is shared counts as often as it is met; a slice's spare places count too). A statement '..UptoSaid' is the law's where the arguments, and the package variables that the reading takes, are together of bulk at most 1048576: NARROWER than '..Said'. Prove '..Said' where nothing that the law and all that it calls make is longer than what came in: it says more and counts as full. Else prove '..UptoSaid'. A law counts once. -/
mutual
def uptoBulk {H : Type} : DataW H → Nat
  | .lit (.string bytes) => bytes.length + 1
  | .lit _ => 1
  | .nil => 1
  | .ptr d => uptoBulk d + 1
  | .slice elems spare => uptoBulkAll elems + uptoBulkAll spare + 1
  | .agg parts => uptoBulkAll parts + 1
  | .iface _ d => uptoBulk d + 1
  | .map entries => uptoBulkEntries entries + 1
  | .held _ => 1
def uptoBulkAll {H : Type} : List (DataW H) → Nat
  | [] => 0
  | d :: r => uptoBulk d + uptoBulkAll r
def uptoBulkEntries {H : Type} : List (Lit × DataW H) → Nat
  | [] => 0
  | x :: r => uptoBulkEntry x + uptoBulkEntries r
def uptoBulkEntry {H : Type} : Lit × DataW H → Nat
  | (.string bytes, d) => bytes.length + uptoBulk d + 1
  | (_, d) => uptoBulk d + 1
 end
def uptoSmall : (H : Type) → List (DataW H) → Bool := fun _ ds => decide (uptoBulkAll ds ≤ 1048576)
def OpenSpec.upto (s : _root_.Go.ChangeSpec) : _root_.Go.OpenSpec := { _root_.Go.OpenSpec.ofChange s with cond := some uptoSmall }

/-- 'pluviallaw05.HistCells', WHERE WHAT IT READS IS OF BULK AT MOST 1048576: true; the input reads as it did. -/
def histCellsUptoRow : OpenClaim := { program := "ytoombgjjdkocjaa", sum := "91c3e158801d731a3b1784121e94867f0ade0475b631be3c5b9d20c088bdee4c", func := "pluvial/pluviallaw05.HistCells", spec := "histCells", unfollowed := true, recurses := true, plainKeys := false, apart := false, narrowed := true }
def HistCellsUptoSaid : Prop := histCellsUptoRow.holds Try.pinned (OpenSpec.upto histCellsSpec)

/-- 'pluviallaw05.HistSame', WHERE WHAT IT READS IS OF BULK AT MOST 1048576: true; the input reads as it did. -/
def histSameUptoRow : OpenClaim := { program := "ytoombgjjdkocjaa", sum := "91c3e158801d731a3b1784121e94867f0ade0475b631be3c5b9d20c088bdee4c", func := "pluvial/pluviallaw05.HistSame", spec := "histSame", unfollowed := true, recurses := true, plainKeys := false, apart := false, narrowed := true }
def HistSameUptoSaid : Prop := histSameUptoRow.holds Try.pinned (OpenSpec.upto histSameSpec)

/-- 'pluviallaw05.HistMakes', WHERE WHAT IT READS IS OF BULK AT MOST 1048576: true; the input reads as it did. -/
def histMakesUptoRow : OpenClaim := { program := "ytoombgjjdkocjaa", sum := "91c3e158801d731a3b1784121e94867f0ade0475b631be3c5b9d20c088bdee4c", func := "pluvial/pluviallaw05.HistMakes", spec := "histMakes", unfollowed := true, recurses := true, plainKeys := false, apart := false, narrowed := true }
def HistMakesUptoSaid : Prop := histMakesUptoRow.holds Try.pinned (OpenSpec.upto histMakesSpec)

/-- 'pluviallaw05.HistAdds', WHERE WHAT IT READS IS OF BULK AT MOST 1048576: true; the input reads as it did. -/
def histAddsUptoRow : OpenClaim := { program := "ytoombgjjdkocjaa", sum := "91c3e158801d731a3b1784121e94867f0ade0475b631be3c5b9d20c088bdee4c", func := "pluvial/pluviallaw05.HistAdds", spec := "histAdds", unfollowed := true, recurses := true, plainKeys := false, apart := false, narrowed := true }
def HistAddsUptoSaid : Prop := histAddsUptoRow.holds Try.pinned (OpenSpec.upto histAddsSpec)

end Rows
end Go.Proofs.Ytoombgjjdkocjaa
