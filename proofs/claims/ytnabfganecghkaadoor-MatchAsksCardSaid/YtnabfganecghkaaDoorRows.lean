/-
  NARROWER THAN 'FOR EVERY INPUT', by the rows' own cells (each row's printed sentence says how): MatchAsks: laid · MatchReads: laid.
  DERIVED. THE GIVEN ROWS OF THIS SEAT. 2 by the template 'for every input the law returns true; each argument reads behind the call as it read before'; 0 by the template 'total and deterministic' (their statements: YtnabfganecghkaaDoorTotals.lean).
  GIVEN WITH THE SEED: the statements are not yours to turn. If you find one false, say at which input.
  Laid BY PROGRAM, IN A SANDBOX (cutbox-rows.mjs): the forced cells as the released guide's own fill.sh prints them over the translation d09229657f5c69c2… (all of the seat's roots in one cut). By AI agents, Wed Nov 11 2026. No macro, syntax, notation, axiom, sorry.
-/
import Derived.Test.YtnabfganecghkaaDoorChecked
import GoSem.Claim
import GoSem.ClaimJoined
import GoSem.ClaimMapViews
import Derived.JoinedTies
import Derived.KernelRfl
namespace Go.Proofs.YtnabfganecghkaaDoor
/- THE CELL 'sum', in the pinned program and in every row, IS THE sha256 OF THE DUMP (.gsa) THAT YtnabfganecghkaaDoorProg.lean LOADS. Nothing in Lean hashes anything: it is a label: what it is worth is what the hold of that sum in a sandbox is worth. -/
noncomputable def Tryd.pinned : Pinned := { name := "ytnabfganecghkaadoor", sum := "d09229657f5c69c26e7369705749e6a91c77ed119fa71457a42fb0c15d35bc70", checked := Tryd.checked }
namespace Rows
def none {H : Type} : Left H := { results := [], args := [] }

/- WHAT THE LISTED PACKAGE-LEVEL VARIABLES READ AS WHEN THE CALL BEGINS. Each datum BY PROGRAM (the guide's laid-datum.mjs) off the statement by which the dump's own 'gosem.cut.vars' lays the variable. In a bare row this is a premise. The card (YtnabfganecghkaaDoorCards.lean) ties it to the program's text. -/
def laid_pluvial_match_ways {H : Type} : DataW H := .agg [.agg [.lit (.string [61]), .lit (.bool false), .lit (.bool false)], .agg [.lit (.string [33, 61]), .lit (.bool false), .lit (.bool true)], .agg [.lit (.string [61, 126]), .lit (.bool true), .lit (.bool false)], .agg [.lit (.string [33, 126]), .lit (.bool true), .lit (.bool true)]]

/-- 'pluviallaw12.MatchAsks': WHATEVER THE INPUT: true; the input reads as it did. -/
def matchAsksSpec : ChangeSpec := { name := "matchAsks", fn := fun _ => fun
  | [d1, d2] => { results := [.lit (.bool true)], args := [d1, d2] }
  | _ => none }
def matchAsksRow : OpenClaim := { program := "ytnabfganecghkaadoor", sum := "d09229657f5c69c26e7369705749e6a91c77ed119fa71457a42fb0c15d35bc70", func := "pluvial/pluviallaw12.MatchAsks", spec := "matchAsks", inPlace := ["internal/bytealg.IndexByteString", "internal/bytealg.IndexString", "internal/abi.NoEscape", "internal/bytealg.MakeNoZero"], unfollowed := true, recurses := true, named := ["pluvial/match.ways", "internal/bytealg.MaxLen"], apart := false, laid := [("pluvial/match.ways", laid_pluvial_match_ways)] }
def MatchAsksSaid : Prop := matchAsksRow.holds Tryd.pinned (OpenSpec.ofChange matchAsksSpec)

/-- ITS FALSE NEIGHBOUR: 'it returns false'. Refute it at one input. -/
def matchAsksWrong : ChangeSpec := { name := "matchAsks", fn := fun _ => fun
  | [d1, d2] => { results := [.lit (.bool false)], args := [d1, d2] }
  | _ => none }
def MatchAsksWrongFalsely : Prop := matchAsksRow.holds Tryd.pinned (OpenSpec.ofChange matchAsksWrong)

/-- 'pluviallaw12.MatchReads': WHATEVER THE INPUT: true; the input reads as it did. -/
def matchReadsSpec : ChangeSpec := { name := "matchReads", fn := fun _ => fun
  | [d] => { results := [.lit (.bool true)], args := [d] }
  | _ => none }
def matchReadsRow : OpenClaim := { program := "ytnabfganecghkaadoor", sum := "d09229657f5c69c26e7369705749e6a91c77ed119fa71457a42fb0c15d35bc70", func := "pluvial/pluviallaw12.MatchReads", spec := "matchReads", inPlace := ["internal/bytealg.IndexByteString", "internal/bytealg.IndexString"], unfollowed := true, recurses := true, named := ["pluvial/match.ways", "internal/bytealg.MaxLen"], apart := false, laid := [("pluvial/match.ways", laid_pluvial_match_ways)] }
def MatchReadsSaid : Prop := matchReadsRow.holds Tryd.pinned (OpenSpec.ofChange matchReadsSpec)

/-- ITS FALSE NEIGHBOUR: 'it returns false'. Refute it at one input. -/
def matchReadsWrong : ChangeSpec := { name := "matchReads", fn := fun _ => fun
  | [d] => { results := [.lit (.bool false)], args := [d] }
  | _ => none }
def MatchReadsWrongFalsely : Prop := matchReadsRow.holds Tryd.pinned (OpenSpec.ofChange matchReadsWrong)

/- THE SECOND FORM. 'bulk': how many values and letters a reading holds, each counted each time it is reached (what is shared counts as often as it is met; a slice's spare places count too). A statement '..UptoSaid' is the law's where the arguments, and the package variables that the reading takes, are together of bulk at most 1048576: NARROWER than '..Said'. Prove '..Said' where nothing that the law and all that it calls make is longer than what came in: it says more and counts as full. Else prove '..UptoSaid'. A law counts once. -/
mutual
def uptoBulk {H : Type} : DataW H → Nat
  | .lit (.string bytes) => bytes.length + 1
  | .lit _ => 1
  | .nil => 1
  | .ptr d => uptoBulk d + 1
  | .slice elems spare => uptoBulkAll elems + uptoBulkAll spare + 1
  | .agg parts => uptoBulkAll parts + 1
  | .iface _ d => uptoBulk d + 1
  | .map entries => uptoBulkEntries entries + 1
  | .held _ => 1
def uptoBulkAll {H : Type} : List (DataW H) → Nat
  | [] => 0
  | d :: r => uptoBulk d + uptoBulkAll r
def uptoBulkEntries {H : Type} : List (Lit × DataW H) → Nat
  | [] => 0
  | x :: r => uptoBulkEntry x + uptoBulkEntries r
def uptoBulkEntry {H : Type} : Lit × DataW H → Nat
  | (.string bytes, d) => bytes.length + uptoBulk d + 1
  | (_, d) => uptoBulk d + 1
 end
def uptoSmall : (H : Type) → List (DataW H) → Bool := fun _ ds => decide (uptoBulkAll ds ≤ 1048576)
def OpenSpec.upto (s : _root_.Go.ChangeSpec) : _root_.Go.OpenSpec := { _root_.Go.OpenSpec.ofChange s with cond := some uptoSmall }

/-- 'pluviallaw12.MatchAsks', WHERE WHAT IT READS IS OF BULK AT MOST 1048576: true; the input reads as it did. -/
def matchAsksUptoRow : OpenClaim := { program := "ytnabfganecghkaadoor", sum := "d09229657f5c69c26e7369705749e6a91c77ed119fa71457a42fb0c15d35bc70", func := "pluvial/pluviallaw12.MatchAsks", spec := "matchAsks", inPlace := ["internal/bytealg.IndexByteString", "internal/bytealg.IndexString", "internal/abi.NoEscape", "internal/bytealg.MakeNoZero"], unfollowed := true, recurses := true, named := ["pluvial/match.ways", "internal/bytealg.MaxLen"], apart := false, laid := [("pluvial/match.ways", laid_pluvial_match_ways)], narrowed := true }
def MatchAsksUptoSaid : Prop := matchAsksUptoRow.holds Tryd.pinned (OpenSpec.upto matchAsksSpec)

/-- 'pluviallaw12.MatchReads', WHERE WHAT IT READS IS OF BULK AT MOST 1048576: true; the input reads as it did. -/
def matchReadsUptoRow : OpenClaim := { program := "ytnabfganecghkaadoor", sum := "d09229657f5c69c26e7369705749e6a91c77ed119fa71457a42fb0c15d35bc70", func := "pluvial/pluviallaw12.MatchReads", spec := "matchReads", inPlace := ["internal/bytealg.IndexByteString", "internal/bytealg.IndexString"], unfollowed := true, recurses := true, named := ["pluvial/match.ways", "internal/bytealg.MaxLen"], apart := false, laid := [("pluvial/match.ways", laid_pluvial_match_ways)], narrowed := true }
def MatchReadsUptoSaid : Prop := matchReadsUptoRow.holds Tryd.pinned (OpenSpec.upto matchReadsSpec)

end Rows
end Go.Proofs.YtnabfganecghkaaDoor
