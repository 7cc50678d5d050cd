/-
  NARROWER THAN 'FOR EVERY INPUT', by the rows' own cells (each row's printed sentence says how): BitsShort: laid · BitsJoin: laid.
  DERIVED. THE GIVEN ROWS OF THIS SEAT. 2 by the template 'for every input the law returns true; each argument reads behind the call as it read before'; 0 by the template 'total and deterministic' (their statements: YtdnihkmdigmnoaaDoorTotals.lean).
  GIVEN WITH THE SEED: the statements are not yours to turn. If you find one false, say at which input.
  Laid BY PROGRAM, IN A SANDBOX (cutbox-rows.mjs): the forced cells as the released guide's own fill.sh prints them over the translation aca0286f6d9e75c8… (all of the seat's roots in one cut). By AI agents, Wed Nov 11 2026. No macro, syntax, notation, axiom, sorry.
-/
import Derived.Test.YtdnihkmdigmnoaaDoorChecked
import GoSem.Claim
import GoSem.ClaimJoined
import GoSem.ClaimMapViews
import Derived.JoinedTies
import Derived.KernelRfl
namespace Go.Proofs.YtdnihkmdigmnoaaDoor
/- THE CELL 'sum', in the pinned program and in every row, IS THE sha256 OF THE DUMP (.gsa) THAT YtdnihkmdigmnoaaDoorProg.lean LOADS. Nothing in Lean hashes anything: it is a label: what it is worth is what the hold of that sum in a sandbox is worth. -/
noncomputable def Tryd.pinned : Pinned := { name := "ytdnihkmdigmnoaadoor", sum := "aca0286f6d9e75c8a3d2d748d2d1db83825392b062f08527cafebf2370014b93", checked := Tryd.checked }
namespace Rows
def none {H : Type} : Left H := { results := [], args := [] }

/- WHAT THE LISTED PACKAGE-LEVEL VARIABLES READ AS WHEN THE CALL BEGINS. Each datum BY PROGRAM (the guide's laid-datum.mjs) off the statement by which the dump's own 'gosem.cut.vars' lays the variable. In a bare row this is a premise. The card (YtdnihkmdigmnoaaDoorCards.lean) ties it to the program's text. -/
def laid_pluvial_bits_classes {H : Type} : DataW H := .agg [.lit (.int .i64 0), .lit (.int .i64 3), .lit (.int .i64 7), .lit (.int .i64 12), .lit (.int .i64 20), .lit (.int .i64 32), .lit (.int .i64 64)]

/-- 'pluviallaw02.BitsShort': WHATEVER THE INPUT: true; the input reads as it did. -/
def bitsShortSpec : ChangeSpec := { name := "bitsShort", fn := fun _ => fun
  | [d1, d2] => { results := [.lit (.bool true)], args := [d1, d2] }
  | _ => none }
def bitsShortRow : OpenClaim := { program := "ytdnihkmdigmnoaadoor", sum := "aca0286f6d9e75c8a3d2d748d2d1db83825392b062f08527cafebf2370014b93", func := "pluvial/pluviallaw02.BitsShort", spec := "bitsShort", named := ["pluvial/bits.classes"], apart := false, laid := [("pluvial/bits.classes", laid_pluvial_bits_classes)] }
def BitsShortSaid : Prop := bitsShortRow.holds Tryd.pinned (OpenSpec.ofChange bitsShortSpec)

/-- ITS FALSE NEIGHBOUR: 'it returns false'. Refute it at one input. -/
def bitsShortWrong : ChangeSpec := { name := "bitsShort", fn := fun _ => fun
  | [d1, d2] => { results := [.lit (.bool false)], args := [d1, d2] }
  | _ => none }
def BitsShortWrongFalsely : Prop := bitsShortRow.holds Tryd.pinned (OpenSpec.ofChange bitsShortWrong)

/-- 'pluviallaw02.BitsJoin': WHATEVER THE INPUT: true; the input reads as it did. -/
def bitsJoinSpec : ChangeSpec := { name := "bitsJoin", fn := fun _ => fun
  | [d1, d2] => { results := [.lit (.bool true)], args := [d1, d2] }
  | _ => none }
def bitsJoinRow : OpenClaim := { program := "ytdnihkmdigmnoaadoor", sum := "aca0286f6d9e75c8a3d2d748d2d1db83825392b062f08527cafebf2370014b93", func := "pluvial/pluviallaw02.BitsJoin", spec := "bitsJoin", named := ["pluvial/bits.classes"], apart := false, laid := [("pluvial/bits.classes", laid_pluvial_bits_classes)] }
def BitsJoinSaid : Prop := bitsJoinRow.holds Tryd.pinned (OpenSpec.ofChange bitsJoinSpec)

/-- ITS FALSE NEIGHBOUR: 'it returns false'. Refute it at one input. -/
def bitsJoinWrong : ChangeSpec := { name := "bitsJoin", fn := fun _ => fun
  | [d1, d2] => { results := [.lit (.bool false)], args := [d1, d2] }
  | _ => none }
def BitsJoinWrongFalsely : Prop := bitsJoinRow.holds Tryd.pinned (OpenSpec.ofChange bitsJoinWrong)

/- THE SECOND FORM. 'bulk': how many values and letters a reading holds, each counted each time it is reached (what is shared counts as often as it is met; a slice's spare places count too). A statement '..UptoSaid' is the law's where the arguments, and the package variables that the reading takes, are together of bulk at most 1048576: NARROWER than '..Said'. Prove '..Said' where nothing that the law and all that it calls make is longer than what came in: it says more and counts as full. Else prove '..UptoSaid'. A law counts once. -/
mutual
def uptoBulk {H : Type} : DataW H → Nat
  | .lit (.string bytes) => bytes.length + 1
  | .lit _ => 1
  | .nil => 1
  | .ptr d => uptoBulk d + 1
  | .slice elems spare => uptoBulkAll elems + uptoBulkAll spare + 1
  | .agg parts => uptoBulkAll parts + 1
  | .iface _ d => uptoBulk d + 1
  | .map entries => uptoBulkEntries entries + 1
  | .held _ => 1
def uptoBulkAll {H : Type} : List (DataW H) → Nat
  | [] => 0
  | d :: r => uptoBulk d + uptoBulkAll r
def uptoBulkEntries {H : Type} : List (Lit × DataW H) → Nat
  | [] => 0
  | x :: r => uptoBulkEntry x + uptoBulkEntries r
def uptoBulkEntry {H : Type} : Lit × DataW H → Nat
  | (.string bytes, d) => bytes.length + uptoBulk d + 1
  | (_, d) => uptoBulk d + 1
 end
def uptoSmall : (H : Type) → List (DataW H) → Bool := fun _ ds => decide (uptoBulkAll ds ≤ 1048576)
def OpenSpec.upto (s : _root_.Go.ChangeSpec) : _root_.Go.OpenSpec := { _root_.Go.OpenSpec.ofChange s with cond := some uptoSmall }

/-- 'pluviallaw02.BitsShort', WHERE WHAT IT READS IS OF BULK AT MOST 1048576: true; the input reads as it did. -/
def bitsShortUptoRow : OpenClaim := { program := "ytdnihkmdigmnoaadoor", sum := "aca0286f6d9e75c8a3d2d748d2d1db83825392b062f08527cafebf2370014b93", func := "pluvial/pluviallaw02.BitsShort", spec := "bitsShort", named := ["pluvial/bits.classes"], apart := false, laid := [("pluvial/bits.classes", laid_pluvial_bits_classes)], narrowed := true }
def BitsShortUptoSaid : Prop := bitsShortUptoRow.holds Tryd.pinned (OpenSpec.upto bitsShortSpec)

/-- 'pluviallaw02.BitsJoin', WHERE WHAT IT READS IS OF BULK AT MOST 1048576: true; the input reads as it did. -/
def bitsJoinUptoRow : OpenClaim := { program := "ytdnihkmdigmnoaadoor", sum := "aca0286f6d9e75c8a3d2d748d2d1db83825392b062f08527cafebf2370014b93", func := "pluvial/pluviallaw02.BitsJoin", spec := "bitsJoin", named := ["pluvial/bits.classes"], apart := false, laid := [("pluvial/bits.classes", laid_pluvial_bits_classes)], narrowed := true }
def BitsJoinUptoSaid : Prop := bitsJoinUptoRow.holds Tryd.pinned (OpenSpec.upto bitsJoinSpec)

end Rows
end Go.Proofs.YtdnihkmdigmnoaaDoor
