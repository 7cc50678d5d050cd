/-
  NARROWER THAN 'FOR EVERY INPUT', by the rows' own cells (each row's printed sentence says how): ChunkEncodes: laid · ChunkDecodes: laid · ChunkCuts: laid · ChunkTurns: laid · ChunkParts: laid.
  DERIVED. THE GIVEN ROWS OF THIS SEAT. 5 by the template 'for every input the law returns true; each argument reads behind the call as it read before'; 0 by the template 'total and deterministic' (their statements: YtakomfnajeolcaaGreatDoorTotals.lean).
  GIVEN WITH THE SEED: the statements are not yours to turn. If you find one false, say at which input.
  Laid BY PROGRAM, IN A SANDBOX (cutbox-rows.mjs): the forced cells as the released guide's own fill.sh prints them over the translation 022ec0a3319d66d8… (all of the seat's roots in one cut). By AI agents, Wed Nov 11 2026. No macro, syntax, notation, axiom, sorry.
-/
import Derived.Test.YtakomfnajeolcaaGreatDoorChecked
import GoSem.Claim
import GoSem.ClaimJoined
import GoSem.ClaimMapViews
import Derived.JoinedTies
import Derived.KernelRfl
namespace Go.Proofs.YtakomfnajeolcaaGreatDoor
/- THE CELL 'sum', in the pinned program and in every row, IS THE sha256 OF THE DUMP (.gsa) THAT YtakomfnajeolcaaGreatDoorProg.lean LOADS. Nothing in Lean hashes anything: it is a label: what it is worth is what the hold of that sum in a sandbox is worth. -/
noncomputable def Tryz.pinned : Pinned := { name := "ytakomfnajeolcaagreatdoor", sum := "022ec0a3319d66d811875197df07bb550c4281262eb93603717b85dc2ad272c2", checked := Tryz.checked }
namespace Rows
def none {H : Type} : Left H := { results := [], args := [] }

/- WHAT THE LISTED PACKAGE-LEVEL VARIABLES READ AS WHEN THE CALL BEGINS. Each datum BY PROGRAM (the guide's laid-datum.mjs) off the statement by which the dump's own 'gosem.cut.vars' lays the variable. In a bare row this is a premise. The card (YtakomfnajeolcaaGreatDoorCards.lean) ties it to the program's text. -/
def laid_pluvial_bits_classes {H : Type} : DataW H := .agg [.lit (.int .i64 0), .lit (.int .i64 3), .lit (.int .i64 7), .lit (.int .i64 12), .lit (.int .i64 20), .lit (.int .i64 32), .lit (.int .i64 64)]

/-- 'pluviallaw09.ChunkEncodes': WHATEVER THE INPUT: true; the input reads as it did. -/
def chunkEncodesSpec : ChangeSpec := { name := "chunkEncodes", fn := fun _ => fun
  | [d] => { results := [.lit (.bool true)], args := [d] }
  | _ => none }
def chunkEncodesRow : OpenClaim := { program := "ytakomfnajeolcaagreatdoor", sum := "022ec0a3319d66d811875197df07bb550c4281262eb93603717b85dc2ad272c2", func := "pluvial/pluviallaw09.ChunkEncodes", spec := "chunkEncodes", unfollowed := true, recurses := true, named := ["pluvial/bits.classes"], plainKeys := false, apart := false, laid := [("pluvial/bits.classes", laid_pluvial_bits_classes)] }
def ChunkEncodesSaid : Prop := chunkEncodesRow.holds Tryz.pinned (OpenSpec.ofChange chunkEncodesSpec)

/-- ITS FALSE NEIGHBOUR: 'it returns false'. Refute it at one input. -/
def chunkEncodesWrong : ChangeSpec := { name := "chunkEncodes", fn := fun _ => fun
  | [d] => { results := [.lit (.bool false)], args := [d] }
  | _ => none }
def ChunkEncodesWrongFalsely : Prop := chunkEncodesRow.holds Tryz.pinned (OpenSpec.ofChange chunkEncodesWrong)

/-- 'pluviallaw09.ChunkDecodes': WHATEVER THE INPUT: true; the input reads as it did. -/
def chunkDecodesSpec : ChangeSpec := { name := "chunkDecodes", fn := fun _ => fun
  | [d] => { results := [.lit (.bool true)], args := [d] }
  | _ => none }
def chunkDecodesRow : OpenClaim := { program := "ytakomfnajeolcaagreatdoor", sum := "022ec0a3319d66d811875197df07bb550c4281262eb93603717b85dc2ad272c2", func := "pluvial/pluviallaw09.ChunkDecodes", spec := "chunkDecodes", unfollowed := true, recurses := true, named := ["pluvial/bits.classes"], plainKeys := false, apart := false, laid := [("pluvial/bits.classes", laid_pluvial_bits_classes)] }
def ChunkDecodesSaid : Prop := chunkDecodesRow.holds Tryz.pinned (OpenSpec.ofChange chunkDecodesSpec)

/-- ITS FALSE NEIGHBOUR: 'it returns false'. Refute it at one input. -/
def chunkDecodesWrong : ChangeSpec := { name := "chunkDecodes", fn := fun _ => fun
  | [d] => { results := [.lit (.bool false)], args := [d] }
  | _ => none }
def ChunkDecodesWrongFalsely : Prop := chunkDecodesRow.holds Tryz.pinned (OpenSpec.ofChange chunkDecodesWrong)

/-- 'pluviallaw09.ChunkCuts': WHATEVER THE INPUT: true; the input reads as it did. -/
def chunkCutsSpec : ChangeSpec := { name := "chunkCuts", fn := fun _ => fun
  | [d] => { results := [.lit (.bool true)], args := [d] }
  | _ => none }
def chunkCutsRow : OpenClaim := { program := "ytakomfnajeolcaagreatdoor", sum := "022ec0a3319d66d811875197df07bb550c4281262eb93603717b85dc2ad272c2", func := "pluvial/pluviallaw09.ChunkCuts", spec := "chunkCuts", unfollowed := true, recurses := true, named := ["pluvial/bits.classes"], plainKeys := false, apart := false, laid := [("pluvial/bits.classes", laid_pluvial_bits_classes)] }
def ChunkCutsSaid : Prop := chunkCutsRow.holds Tryz.pinned (OpenSpec.ofChange chunkCutsSpec)

/-- ITS FALSE NEIGHBOUR: 'it returns false'. Refute it at one input. -/
def chunkCutsWrong : ChangeSpec := { name := "chunkCuts", fn := fun _ => fun
  | [d] => { results := [.lit (.bool false)], args := [d] }
  | _ => none }
def ChunkCutsWrongFalsely : Prop := chunkCutsRow.holds Tryz.pinned (OpenSpec.ofChange chunkCutsWrong)

/-- 'pluviallaw09.ChunkTurns': WHATEVER THE INPUT: true; the input reads as it did. -/
def chunkTurnsSpec : ChangeSpec := { name := "chunkTurns", fn := fun _ => fun
  | [d1, d2, d3] => { results := [.lit (.bool true)], args := [d1, d2, d3] }
  | _ => none }
def chunkTurnsRow : OpenClaim := { program := "ytakomfnajeolcaagreatdoor", sum := "022ec0a3319d66d811875197df07bb550c4281262eb93603717b85dc2ad272c2", func := "pluvial/pluviallaw09.ChunkTurns", spec := "chunkTurns", unfollowed := true, recurses := true, named := ["pluvial/bits.classes"], plainKeys := false, apart := false, laid := [("pluvial/bits.classes", laid_pluvial_bits_classes)] }
def ChunkTurnsSaid : Prop := chunkTurnsRow.holds Tryz.pinned (OpenSpec.ofChange chunkTurnsSpec)

/-- ITS FALSE NEIGHBOUR: 'it returns false'. Refute it at one input. -/
def chunkTurnsWrong : ChangeSpec := { name := "chunkTurns", fn := fun _ => fun
  | [d1, d2, d3] => { results := [.lit (.bool false)], args := [d1, d2, d3] }
  | _ => none }
def ChunkTurnsWrongFalsely : Prop := chunkTurnsRow.holds Tryz.pinned (OpenSpec.ofChange chunkTurnsWrong)

/-- 'pluviallaw09.ChunkParts': WHATEVER THE INPUT: true; the input reads as it did. -/
def chunkPartsSpec : ChangeSpec := { name := "chunkParts", fn := fun _ => fun
  | [d1, d2, d3] => { results := [.lit (.bool true)], args := [d1, d2, d3] }
  | _ => none }
def chunkPartsRow : OpenClaim := { program := "ytakomfnajeolcaagreatdoor", sum := "022ec0a3319d66d811875197df07bb550c4281262eb93603717b85dc2ad272c2", func := "pluvial/pluviallaw09.ChunkParts", spec := "chunkParts", unfollowed := true, recurses := true, named := ["pluvial/bits.classes"], plainKeys := false, apart := false, laid := [("pluvial/bits.classes", laid_pluvial_bits_classes)] }
def ChunkPartsSaid : Prop := chunkPartsRow.holds Tryz.pinned (OpenSpec.ofChange chunkPartsSpec)

/-- ITS FALSE NEIGHBOUR: 'it returns false'. Refute it at one input. -/
def chunkPartsWrong : ChangeSpec := { name := "chunkParts", fn := fun _ => fun
  | [d1, d2, d3] => { results := [.lit (.bool false)], args := [d1, d2, d3] }
  | _ => none }
def ChunkPartsWrongFalsely : Prop := chunkPartsRow.holds Tryz.pinned (OpenSpec.ofChange chunkPartsWrong)

/- THE SECOND FORM. 'bulk': how many values and letters a reading holds, each counted each time it is reached (what is shared counts as often as it is met; a slice's spare places count too). A statement '..UptoSaid' is the law's where the arguments, and the package variables that the reading takes, are together of bulk at most 1048576: NARROWER than '..Said'. Prove '..Said' where nothing that the law and all that it calls make is longer than what came in: it says more and counts as full. Else prove '..UptoSaid'. A law counts once. -/
mutual
def uptoBulk {H : Type} : DataW H → Nat
  | .lit (.string bytes) => bytes.length + 1
  | .lit _ => 1
  | .nil => 1
  | .ptr d => uptoBulk d + 1
  | .slice elems spare => uptoBulkAll elems + uptoBulkAll spare + 1
  | .agg parts => uptoBulkAll parts + 1
  | .iface _ d => uptoBulk d + 1
  | .map entries => uptoBulkEntries entries + 1
  | .held _ => 1
def uptoBulkAll {H : Type} : List (DataW H) → Nat
  | [] => 0
  | d :: r => uptoBulk d + uptoBulkAll r
def uptoBulkEntries {H : Type} : List (Lit × DataW H) → Nat
  | [] => 0
  | x :: r => uptoBulkEntry x + uptoBulkEntries r
def uptoBulkEntry {H : Type} : Lit × DataW H → Nat
  | (.string bytes, d) => bytes.length + uptoBulk d + 1
  | (_, d) => uptoBulk d + 1
 end
def uptoSmall : (H : Type) → List (DataW H) → Bool := fun _ ds => decide (uptoBulkAll ds ≤ 1048576)
def OpenSpec.upto (s : _root_.Go.ChangeSpec) : _root_.Go.OpenSpec := { _root_.Go.OpenSpec.ofChange s with cond := some uptoSmall }

/-- 'pluviallaw09.ChunkEncodes', WHERE WHAT IT READS IS OF BULK AT MOST 1048576: true; the input reads as it did. -/
def chunkEncodesUptoRow : OpenClaim := { program := "ytakomfnajeolcaagreatdoor", sum := "022ec0a3319d66d811875197df07bb550c4281262eb93603717b85dc2ad272c2", func := "pluvial/pluviallaw09.ChunkEncodes", spec := "chunkEncodes", unfollowed := true, recurses := true, named := ["pluvial/bits.classes"], plainKeys := false, apart := false, laid := [("pluvial/bits.classes", laid_pluvial_bits_classes)], narrowed := true }
def ChunkEncodesUptoSaid : Prop := chunkEncodesUptoRow.holds Tryz.pinned (OpenSpec.upto chunkEncodesSpec)

/-- 'pluviallaw09.ChunkDecodes', WHERE WHAT IT READS IS OF BULK AT MOST 1048576: true; the input reads as it did. -/
def chunkDecodesUptoRow : OpenClaim := { program := "ytakomfnajeolcaagreatdoor", sum := "022ec0a3319d66d811875197df07bb550c4281262eb93603717b85dc2ad272c2", func := "pluvial/pluviallaw09.ChunkDecodes", spec := "chunkDecodes", unfollowed := true, recurses := true, named := ["pluvial/bits.classes"], plainKeys := false, apart := false, laid := [("pluvial/bits.classes", laid_pluvial_bits_classes)], narrowed := true }
def ChunkDecodesUptoSaid : Prop := chunkDecodesUptoRow.holds Tryz.pinned (OpenSpec.upto chunkDecodesSpec)

/-- 'pluviallaw09.ChunkCuts', WHERE WHAT IT READS IS OF BULK AT MOST 1048576: true; the input reads as it did. -/
def chunkCutsUptoRow : OpenClaim := { program := "ytakomfnajeolcaagreatdoor", sum := "022ec0a3319d66d811875197df07bb550c4281262eb93603717b85dc2ad272c2", func := "pluvial/pluviallaw09.ChunkCuts", spec := "chunkCuts", unfollowed := true, recurses := true, named := ["pluvial/bits.classes"], plainKeys := false, apart := false, laid := [("pluvial/bits.classes", laid_pluvial_bits_classes)], narrowed := true }
def ChunkCutsUptoSaid : Prop := chunkCutsUptoRow.holds Tryz.pinned (OpenSpec.upto chunkCutsSpec)

/-- 'pluviallaw09.ChunkTurns', WHERE WHAT IT READS IS OF BULK AT MOST 1048576: true; the input reads as it did. -/
def chunkTurnsUptoRow : OpenClaim := { program := "ytakomfnajeolcaagreatdoor", sum := "022ec0a3319d66d811875197df07bb550c4281262eb93603717b85dc2ad272c2", func := "pluvial/pluviallaw09.ChunkTurns", spec := "chunkTurns", unfollowed := true, recurses := true, named := ["pluvial/bits.classes"], plainKeys := false, apart := false, laid := [("pluvial/bits.classes", laid_pluvial_bits_classes)], narrowed := true }
def ChunkTurnsUptoSaid : Prop := chunkTurnsUptoRow.holds Tryz.pinned (OpenSpec.upto chunkTurnsSpec)

/-- 'pluviallaw09.ChunkParts', WHERE WHAT IT READS IS OF BULK AT MOST 1048576: true; the input reads as it did. -/
def chunkPartsUptoRow : OpenClaim := { program := "ytakomfnajeolcaagreatdoor", sum := "022ec0a3319d66d811875197df07bb550c4281262eb93603717b85dc2ad272c2", func := "pluvial/pluviallaw09.ChunkParts", spec := "chunkParts", unfollowed := true, recurses := true, named := ["pluvial/bits.classes"], plainKeys := false, apart := false, laid := [("pluvial/bits.classes", laid_pluvial_bits_classes)], narrowed := true }
def ChunkPartsUptoSaid : Prop := chunkPartsUptoRow.holds Tryz.pinned (OpenSpec.upto chunkPartsSpec)

end Rows
end Go.Proofs.YtakomfnajeolcaaGreatDoor
