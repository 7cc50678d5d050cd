/-
  NARROWER THAN 'FOR EVERY INPUT', by the rows' own cells (each row's printed sentence says how): ChunkEncodes: laid · ChunkDecodes: laid · ChunkCuts: laid · ChunkTurns: laid · ChunkParts: laid · EntryChanges: laid · EntryImages: laid · EntryReads: laid · EntryApart: laid · EntryRising: laid.
  DERIVED. THE GIVEN ROWS OF THIS SEAT. 10 by the template 'for every input the law returns true; each argument reads behind the call as it read before'; 0 by the template 'total and deterministic' (their statements: YtjnienlidmmhdaaGreatDoorTotals.lean).
  GIVEN WITH THE SEED: the statements are not yours to turn. If you find one false, say at which input.
  Laid BY PROGRAM, IN A SANDBOX (cutbox-rows.mjs): the forced cells as the released guide's own fill.sh prints them over the translation 968e3035203db52f… (all of the seat's roots in one cut). By AI agents, Wed Nov 11 2026. No macro, syntax, notation, axiom, sorry.
-/
import Derived.Test.YtjnienlidmmhdaaGreatDoorChecked
import GoSem.Claim
import GoSem.ClaimJoined
import GoSem.ClaimMapViews
import Derived.JoinedTies
import Derived.KernelRfl
namespace Go.Proofs.YtjnienlidmmhdaaGreatDoor
/- THE CELL 'sum', in the pinned program and in every row, IS THE sha256 OF THE DUMP (.gsa) THAT YtjnienlidmmhdaaGreatDoorProg.lean LOADS. Nothing in Lean hashes anything: it is a label: what it is worth is what the hold of that sum in a sandbox is worth. -/
noncomputable def Tryz.pinned : Pinned := { name := "ytjnienlidmmhdaagreatdoor", sum := "968e3035203db52fa0084ffd92ccf2d5b809fee11eb919b91bb71a48f5d15576", checked := Tryz.checked }
namespace Rows
def none {H : Type} : Left H := { results := [], args := [] }

/- WHAT THE LISTED PACKAGE-LEVEL VARIABLES READ AS WHEN THE CALL BEGINS. Each datum BY PROGRAM (the guide's laid-datum.mjs) off the statement by which the dump's own 'gosem.cut.vars' lays the variable. In a bare row this is a premise. The card (YtjnienlidmmhdaaGreatDoorCards.lean) ties it to the program's text. -/
def laid_pluvial_bits_classes {H : Type} : DataW H := .agg [.lit (.int .i64 0), .lit (.int .i64 3), .lit (.int .i64 7), .lit (.int .i64 12), .lit (.int .i64 20), .lit (.int .i64 32), .lit (.int .i64 64)]

/-- 'pluviallaw09.ChunkEncodes': WHATEVER THE INPUT: true; the input reads as it did. -/
def chunkEncodesSpec : ChangeSpec := { name := "chunkEncodes", fn := fun _ => fun
  | [d] => { results := [.lit (.bool true)], args := [d] }
  | _ => none }
def chunkEncodesRow : OpenClaim := { program := "ytjnienlidmmhdaagreatdoor", sum := "968e3035203db52fa0084ffd92ccf2d5b809fee11eb919b91bb71a48f5d15576", func := "pluvial/pluviallaw09.ChunkEncodes", spec := "chunkEncodes", unfollowed := true, recurses := true, named := ["pluvial/bits.classes"], plainKeys := false, apart := false, laid := [("pluvial/bits.classes", laid_pluvial_bits_classes)] }
def ChunkEncodesSaid : Prop := chunkEncodesRow.holds Tryz.pinned (OpenSpec.ofChange chunkEncodesSpec)

/-- ITS FALSE NEIGHBOUR: 'it returns false'. Refute it at one input. -/
def chunkEncodesWrong : ChangeSpec := { name := "chunkEncodes", fn := fun _ => fun
  | [d] => { results := [.lit (.bool false)], args := [d] }
  | _ => none }
def ChunkEncodesWrongFalsely : Prop := chunkEncodesRow.holds Tryz.pinned (OpenSpec.ofChange chunkEncodesWrong)

/-- 'pluviallaw09.ChunkDecodes': WHATEVER THE INPUT: true; the input reads as it did. -/
def chunkDecodesSpec : ChangeSpec := { name := "chunkDecodes", fn := fun _ => fun
  | [d] => { results := [.lit (.bool true)], args := [d] }
  | _ => none }
def chunkDecodesRow : OpenClaim := { program := "ytjnienlidmmhdaagreatdoor", sum := "968e3035203db52fa0084ffd92ccf2d5b809fee11eb919b91bb71a48f5d15576", func := "pluvial/pluviallaw09.ChunkDecodes", spec := "chunkDecodes", unfollowed := true, recurses := true, named := ["pluvial/bits.classes"], plainKeys := false, apart := false, laid := [("pluvial/bits.classes", laid_pluvial_bits_classes)] }
def ChunkDecodesSaid : Prop := chunkDecodesRow.holds Tryz.pinned (OpenSpec.ofChange chunkDecodesSpec)

/-- ITS FALSE NEIGHBOUR: 'it returns false'. Refute it at one input. -/
def chunkDecodesWrong : ChangeSpec := { name := "chunkDecodes", fn := fun _ => fun
  | [d] => { results := [.lit (.bool false)], args := [d] }
  | _ => none }
def ChunkDecodesWrongFalsely : Prop := chunkDecodesRow.holds Tryz.pinned (OpenSpec.ofChange chunkDecodesWrong)

/-- 'pluviallaw09.ChunkCuts': WHATEVER THE INPUT: true; the input reads as it did. -/
def chunkCutsSpec : ChangeSpec := { name := "chunkCuts", fn := fun _ => fun
  | [d] => { results := [.lit (.bool true)], args := [d] }
  | _ => none }
def chunkCutsRow : OpenClaim := { program := "ytjnienlidmmhdaagreatdoor", sum := "968e3035203db52fa0084ffd92ccf2d5b809fee11eb919b91bb71a48f5d15576", func := "pluvial/pluviallaw09.ChunkCuts", spec := "chunkCuts", unfollowed := true, recurses := true, named := ["pluvial/bits.classes"], plainKeys := false, apart := false, laid := [("pluvial/bits.classes", laid_pluvial_bits_classes)] }
def ChunkCutsSaid : Prop := chunkCutsRow.holds Tryz.pinned (OpenSpec.ofChange chunkCutsSpec)

/-- ITS FALSE NEIGHBOUR: 'it returns false'. Refute it at one input. -/
def chunkCutsWrong : ChangeSpec := { name := "chunkCuts", fn := fun _ => fun
  | [d] => { results := [.lit (.bool false)], args := [d] }
  | _ => none }
def ChunkCutsWrongFalsely : Prop := chunkCutsRow.holds Tryz.pinned (OpenSpec.ofChange chunkCutsWrong)

/-- 'pluviallaw09.ChunkTurns': WHATEVER THE INPUT: true; the input reads as it did. -/
def chunkTurnsSpec : ChangeSpec := { name := "chunkTurns", fn := fun _ => fun
  | [d1, d2, d3] => { results := [.lit (.bool true)], args := [d1, d2, d3] }
  | _ => none }
def chunkTurnsRow : OpenClaim := { program := "ytjnienlidmmhdaagreatdoor", sum := "968e3035203db52fa0084ffd92ccf2d5b809fee11eb919b91bb71a48f5d15576", func := "pluvial/pluviallaw09.ChunkTurns", spec := "chunkTurns", unfollowed := true, recurses := true, named := ["pluvial/bits.classes"], plainKeys := false, apart := false, laid := [("pluvial/bits.classes", laid_pluvial_bits_classes)] }
def ChunkTurnsSaid : Prop := chunkTurnsRow.holds Tryz.pinned (OpenSpec.ofChange chunkTurnsSpec)

/-- ITS FALSE NEIGHBOUR: 'it returns false'. Refute it at one input. -/
def chunkTurnsWrong : ChangeSpec := { name := "chunkTurns", fn := fun _ => fun
  | [d1, d2, d3] => { results := [.lit (.bool false)], args := [d1, d2, d3] }
  | _ => none }
def ChunkTurnsWrongFalsely : Prop := chunkTurnsRow.holds Tryz.pinned (OpenSpec.ofChange chunkTurnsWrong)

/-- 'pluviallaw09.ChunkParts': WHATEVER THE INPUT: true; the input reads as it did. -/
def chunkPartsSpec : ChangeSpec := { name := "chunkParts", fn := fun _ => fun
  | [d1, d2, d3] => { results := [.lit (.bool true)], args := [d1, d2, d3] }
  | _ => none }
def chunkPartsRow : OpenClaim := { program := "ytjnienlidmmhdaagreatdoor", sum := "968e3035203db52fa0084ffd92ccf2d5b809fee11eb919b91bb71a48f5d15576", func := "pluvial/pluviallaw09.ChunkParts", spec := "chunkParts", unfollowed := true, recurses := true, named := ["pluvial/bits.classes"], plainKeys := false, apart := false, laid := [("pluvial/bits.classes", laid_pluvial_bits_classes)] }
def ChunkPartsSaid : Prop := chunkPartsRow.holds Tryz.pinned (OpenSpec.ofChange chunkPartsSpec)

/-- ITS FALSE NEIGHBOUR: 'it returns false'. Refute it at one input. -/
def chunkPartsWrong : ChangeSpec := { name := "chunkParts", fn := fun _ => fun
  | [d1, d2, d3] => { results := [.lit (.bool false)], args := [d1, d2, d3] }
  | _ => none }
def ChunkPartsWrongFalsely : Prop := chunkPartsRow.holds Tryz.pinned (OpenSpec.ofChange chunkPartsWrong)

/-- 'pluviallaw15.EntryChanges': WHATEVER THE INPUT: true; the input reads as it did. -/
def entryChangesSpec : ChangeSpec := { name := "entryChanges", fn := fun _ => fun
  | [d] => { results := [.lit (.bool true)], args := [d] }
  | _ => none }
def entryChangesRow : OpenClaim := { program := "ytjnienlidmmhdaagreatdoor", sum := "968e3035203db52fa0084ffd92ccf2d5b809fee11eb919b91bb71a48f5d15576", func := "pluvial/pluviallaw15.EntryChanges", spec := "entryChanges", unfollowed := true, recurses := true, named := ["pluvial/bits.classes"], plainKeys := false, apart := false, laid := [("pluvial/bits.classes", laid_pluvial_bits_classes)] }
def EntryChangesSaid : Prop := entryChangesRow.holds Tryz.pinned (OpenSpec.ofChange entryChangesSpec)

/-- ITS FALSE NEIGHBOUR: 'it returns false'. Refute it at one input. -/
def entryChangesWrong : ChangeSpec := { name := "entryChanges", fn := fun _ => fun
  | [d] => { results := [.lit (.bool false)], args := [d] }
  | _ => none }
def EntryChangesWrongFalsely : Prop := entryChangesRow.holds Tryz.pinned (OpenSpec.ofChange entryChangesWrong)

/-- 'pluviallaw15.EntryImages': WHATEVER THE INPUT: true; the input reads as it did. -/
def entryImagesSpec : ChangeSpec := { name := "entryImages", fn := fun _ => fun
  | [d] => { results := [.lit (.bool true)], args := [d] }
  | _ => none }
def entryImagesRow : OpenClaim := { program := "ytjnienlidmmhdaagreatdoor", sum := "968e3035203db52fa0084ffd92ccf2d5b809fee11eb919b91bb71a48f5d15576", func := "pluvial/pluviallaw15.EntryImages", spec := "entryImages", unfollowed := true, recurses := true, named := ["pluvial/bits.classes"], plainKeys := false, apart := false, laid := [("pluvial/bits.classes", laid_pluvial_bits_classes)] }
def EntryImagesSaid : Prop := entryImagesRow.holds Tryz.pinned (OpenSpec.ofChange entryImagesSpec)

/-- ITS FALSE NEIGHBOUR: 'it returns false'. Refute it at one input. -/
def entryImagesWrong : ChangeSpec := { name := "entryImages", fn := fun _ => fun
  | [d] => { results := [.lit (.bool false)], args := [d] }
  | _ => none }
def EntryImagesWrongFalsely : Prop := entryImagesRow.holds Tryz.pinned (OpenSpec.ofChange entryImagesWrong)

/-- 'pluviallaw15.EntryReads': WHATEVER THE INPUT: true; the input reads as it did. -/
def entryReadsSpec : ChangeSpec := { name := "entryReads", fn := fun _ => fun
  | [d] => { results := [.lit (.bool true)], args := [d] }
  | _ => none }
def entryReadsRow : OpenClaim := { program := "ytjnienlidmmhdaagreatdoor", sum := "968e3035203db52fa0084ffd92ccf2d5b809fee11eb919b91bb71a48f5d15576", func := "pluvial/pluviallaw15.EntryReads", spec := "entryReads", unfollowed := true, recurses := true, named := ["pluvial/bits.classes"], plainKeys := false, apart := false, laid := [("pluvial/bits.classes", laid_pluvial_bits_classes)] }
def EntryReadsSaid : Prop := entryReadsRow.holds Tryz.pinned (OpenSpec.ofChange entryReadsSpec)

/-- ITS FALSE NEIGHBOUR: 'it returns false'. Refute it at one input. -/
def entryReadsWrong : ChangeSpec := { name := "entryReads", fn := fun _ => fun
  | [d] => { results := [.lit (.bool false)], args := [d] }
  | _ => none }
def EntryReadsWrongFalsely : Prop := entryReadsRow.holds Tryz.pinned (OpenSpec.ofChange entryReadsWrong)

/-- 'pluviallaw15.EntryApart': WHATEVER THE INPUT: true; the input reads as it did. -/
def entryApartSpec : ChangeSpec := { name := "entryApart", fn := fun _ => fun
  | [d1, d2, d3] => { results := [.lit (.bool true)], args := [d1, d2, d3] }
  | _ => none }
def entryApartRow : OpenClaim := { program := "ytjnienlidmmhdaagreatdoor", sum := "968e3035203db52fa0084ffd92ccf2d5b809fee11eb919b91bb71a48f5d15576", func := "pluvial/pluviallaw15.EntryApart", spec := "entryApart", unfollowed := true, recurses := true, named := ["pluvial/bits.classes"], plainKeys := false, apart := false, laid := [("pluvial/bits.classes", laid_pluvial_bits_classes)] }
def EntryApartSaid : Prop := entryApartRow.holds Tryz.pinned (OpenSpec.ofChange entryApartSpec)

/-- ITS FALSE NEIGHBOUR: 'it returns false'. Refute it at one input. -/
def entryApartWrong : ChangeSpec := { name := "entryApart", fn := fun _ => fun
  | [d1, d2, d3] => { results := [.lit (.bool false)], args := [d1, d2, d3] }
  | _ => none }
def EntryApartWrongFalsely : Prop := entryApartRow.holds Tryz.pinned (OpenSpec.ofChange entryApartWrong)

/-- 'pluviallaw15.EntryRising': WHATEVER THE INPUT: true; the input reads as it did. -/
def entryRisingSpec : ChangeSpec := { name := "entryRising", fn := fun _ => fun
  | [d1, d2] => { results := [.lit (.bool true)], args := [d1, d2] }
  | _ => none }
def entryRisingRow : OpenClaim := { program := "ytjnienlidmmhdaagreatdoor", sum := "968e3035203db52fa0084ffd92ccf2d5b809fee11eb919b91bb71a48f5d15576", func := "pluvial/pluviallaw15.EntryRising", spec := "entryRising", unfollowed := true, recurses := true, named := ["pluvial/bits.classes"], plainKeys := false, apart := false, laid := [("pluvial/bits.classes", laid_pluvial_bits_classes)] }
def EntryRisingSaid : Prop := entryRisingRow.holds Tryz.pinned (OpenSpec.ofChange entryRisingSpec)

/-- ITS FALSE NEIGHBOUR: 'it returns false'. Refute it at one input. -/
def entryRisingWrong : ChangeSpec := { name := "entryRising", fn := fun _ => fun
  | [d1, d2] => { results := [.lit (.bool false)], args := [d1, d2] }
  | _ => none }
def EntryRisingWrongFalsely : Prop := entryRisingRow.holds Tryz.pinned (OpenSpec.ofChange entryRisingWrong)

/- THE SECOND FORM. 'bulk': how many values and letters a reading holds, each counted each time it is reached (what is shared counts as often as it is met; a slice's spare places count too). A statement '..UptoSaid' is the law's where the arguments, and the package variables that the reading takes, are together of bulk at most 1048576: NARROWER than '..Said'. Prove '..Said' where nothing that the law and all that it calls make is longer than what came in: it says more and counts as full. Else prove '..UptoSaid'. A law counts once. -/
mutual
def uptoBulk {H : Type} : DataW H → Nat
  | .lit (.string bytes) => bytes.length + 1
  | .lit _ => 1
  | .nil => 1
  | .ptr d => uptoBulk d + 1
  | .slice elems spare => uptoBulkAll elems + uptoBulkAll spare + 1
  | .agg parts => uptoBulkAll parts + 1
  | .iface _ d => uptoBulk d + 1
  | .map entries => uptoBulkEntries entries + 1
  | .held _ => 1
def uptoBulkAll {H : Type} : List (DataW H) → Nat
  | [] => 0
  | d :: r => uptoBulk d + uptoBulkAll r
def uptoBulkEntries {H : Type} : List (Lit × DataW H) → Nat
  | [] => 0
  | x :: r => uptoBulkEntry x + uptoBulkEntries r
def uptoBulkEntry {H : Type} : Lit × DataW H → Nat
  | (.string bytes, d) => bytes.length + uptoBulk d + 1
  | (_, d) => uptoBulk d + 1
 end
def uptoSmall : (H : Type) → List (DataW H) → Bool := fun _ ds => decide (uptoBulkAll ds ≤ 1048576)
def OpenSpec.upto (s : _root_.Go.ChangeSpec) : _root_.Go.OpenSpec := { _root_.Go.OpenSpec.ofChange s with cond := some uptoSmall }

/-- 'pluviallaw09.ChunkEncodes', WHERE WHAT IT READS IS OF BULK AT MOST 1048576: true; the input reads as it did. -/
def chunkEncodesUptoRow : OpenClaim := { program := "ytjnienlidmmhdaagreatdoor", sum := "968e3035203db52fa0084ffd92ccf2d5b809fee11eb919b91bb71a48f5d15576", func := "pluvial/pluviallaw09.ChunkEncodes", spec := "chunkEncodes", unfollowed := true, recurses := true, named := ["pluvial/bits.classes"], plainKeys := false, apart := false, laid := [("pluvial/bits.classes", laid_pluvial_bits_classes)], narrowed := true }
def ChunkEncodesUptoSaid : Prop := chunkEncodesUptoRow.holds Tryz.pinned (OpenSpec.upto chunkEncodesSpec)

/-- 'pluviallaw09.ChunkDecodes', WHERE WHAT IT READS IS OF BULK AT MOST 1048576: true; the input reads as it did. -/
def chunkDecodesUptoRow : OpenClaim := { program := "ytjnienlidmmhdaagreatdoor", sum := "968e3035203db52fa0084ffd92ccf2d5b809fee11eb919b91bb71a48f5d15576", func := "pluvial/pluviallaw09.ChunkDecodes", spec := "chunkDecodes", unfollowed := true, recurses := true, named := ["pluvial/bits.classes"], plainKeys := false, apart := false, laid := [("pluvial/bits.classes", laid_pluvial_bits_classes)], narrowed := true }
def ChunkDecodesUptoSaid : Prop := chunkDecodesUptoRow.holds Tryz.pinned (OpenSpec.upto chunkDecodesSpec)

/-- 'pluviallaw09.ChunkCuts', WHERE WHAT IT READS IS OF BULK AT MOST 1048576: true; the input reads as it did. -/
def chunkCutsUptoRow : OpenClaim := { program := "ytjnienlidmmhdaagreatdoor", sum := "968e3035203db52fa0084ffd92ccf2d5b809fee11eb919b91bb71a48f5d15576", func := "pluvial/pluviallaw09.ChunkCuts", spec := "chunkCuts", unfollowed := true, recurses := true, named := ["pluvial/bits.classes"], plainKeys := false, apart := false, laid := [("pluvial/bits.classes", laid_pluvial_bits_classes)], narrowed := true }
def ChunkCutsUptoSaid : Prop := chunkCutsUptoRow.holds Tryz.pinned (OpenSpec.upto chunkCutsSpec)

/-- 'pluviallaw09.ChunkTurns', WHERE WHAT IT READS IS OF BULK AT MOST 1048576: true; the input reads as it did. -/
def chunkTurnsUptoRow : OpenClaim := { program := "ytjnienlidmmhdaagreatdoor", sum := "968e3035203db52fa0084ffd92ccf2d5b809fee11eb919b91bb71a48f5d15576", func := "pluvial/pluviallaw09.ChunkTurns", spec := "chunkTurns", unfollowed := true, recurses := true, named := ["pluvial/bits.classes"], plainKeys := false, apart := false, laid := [("pluvial/bits.classes", laid_pluvial_bits_classes)], narrowed := true }
def ChunkTurnsUptoSaid : Prop := chunkTurnsUptoRow.holds Tryz.pinned (OpenSpec.upto chunkTurnsSpec)

/-- 'pluviallaw09.ChunkParts', WHERE WHAT IT READS IS OF BULK AT MOST 1048576: true; the input reads as it did. -/
def chunkPartsUptoRow : OpenClaim := { program := "ytjnienlidmmhdaagreatdoor", sum := "968e3035203db52fa0084ffd92ccf2d5b809fee11eb919b91bb71a48f5d15576", func := "pluvial/pluviallaw09.ChunkParts", spec := "chunkParts", unfollowed := true, recurses := true, named := ["pluvial/bits.classes"], plainKeys := false, apart := false, laid := [("pluvial/bits.classes", laid_pluvial_bits_classes)], narrowed := true }
def ChunkPartsUptoSaid : Prop := chunkPartsUptoRow.holds Tryz.pinned (OpenSpec.upto chunkPartsSpec)

/-- 'pluviallaw15.EntryChanges', WHERE WHAT IT READS IS OF BULK AT MOST 1048576: true; the input reads as it did. -/
def entryChangesUptoRow : OpenClaim := { program := "ytjnienlidmmhdaagreatdoor", sum := "968e3035203db52fa0084ffd92ccf2d5b809fee11eb919b91bb71a48f5d15576", func := "pluvial/pluviallaw15.EntryChanges", spec := "entryChanges", unfollowed := true, recurses := true, named := ["pluvial/bits.classes"], plainKeys := false, apart := false, laid := [("pluvial/bits.classes", laid_pluvial_bits_classes)], narrowed := true }
def EntryChangesUptoSaid : Prop := entryChangesUptoRow.holds Tryz.pinned (OpenSpec.upto entryChangesSpec)

/-- 'pluviallaw15.EntryImages', WHERE WHAT IT READS IS OF BULK AT MOST 1048576: true; the input reads as it did. -/
def entryImagesUptoRow : OpenClaim := { program := "ytjnienlidmmhdaagreatdoor", sum := "968e3035203db52fa0084ffd92ccf2d5b809fee11eb919b91bb71a48f5d15576", func := "pluvial/pluviallaw15.EntryImages", spec := "entryImages", unfollowed := true, recurses := true, named := ["pluvial/bits.classes"], plainKeys := false, apart := false, laid := [("pluvial/bits.classes", laid_pluvial_bits_classes)], narrowed := true }
def EntryImagesUptoSaid : Prop := entryImagesUptoRow.holds Tryz.pinned (OpenSpec.upto entryImagesSpec)

/-- 'pluviallaw15.EntryReads', WHERE WHAT IT READS IS OF BULK AT MOST 1048576: true; the input reads as it did. -/
def entryReadsUptoRow : OpenClaim := { program := "ytjnienlidmmhdaagreatdoor", sum := "968e3035203db52fa0084ffd92ccf2d5b809fee11eb919b91bb71a48f5d15576", func := "pluvial/pluviallaw15.EntryReads", spec := "entryReads", unfollowed := true, recurses := true, named := ["pluvial/bits.classes"], plainKeys := false, apart := false, laid := [("pluvial/bits.classes", laid_pluvial_bits_classes)], narrowed := true }
def EntryReadsUptoSaid : Prop := entryReadsUptoRow.holds Tryz.pinned (OpenSpec.upto entryReadsSpec)

/-- 'pluviallaw15.EntryApart', WHERE WHAT IT READS IS OF BULK AT MOST 1048576: true; the input reads as it did. -/
def entryApartUptoRow : OpenClaim := { program := "ytjnienlidmmhdaagreatdoor", sum := "968e3035203db52fa0084ffd92ccf2d5b809fee11eb919b91bb71a48f5d15576", func := "pluvial/pluviallaw15.EntryApart", spec := "entryApart", unfollowed := true, recurses := true, named := ["pluvial/bits.classes"], plainKeys := false, apart := false, laid := [("pluvial/bits.classes", laid_pluvial_bits_classes)], narrowed := true }
def EntryApartUptoSaid : Prop := entryApartUptoRow.holds Tryz.pinned (OpenSpec.upto entryApartSpec)

/-- 'pluviallaw15.EntryRising', WHERE WHAT IT READS IS OF BULK AT MOST 1048576: true; the input reads as it did. -/
def entryRisingUptoRow : OpenClaim := { program := "ytjnienlidmmhdaagreatdoor", sum := "968e3035203db52fa0084ffd92ccf2d5b809fee11eb919b91bb71a48f5d15576", func := "pluvial/pluviallaw15.EntryRising", spec := "entryRising", unfollowed := true, recurses := true, named := ["pluvial/bits.classes"], plainKeys := false, apart := false, laid := [("pluvial/bits.classes", laid_pluvial_bits_classes)], narrowed := true }
def EntryRisingUptoSaid : Prop := entryRisingUptoRow.holds Tryz.pinned (OpenSpec.upto entryRisingSpec)

end Rows
end Go.Proofs.YtjnienlidmmhdaaGreatDoor
