/-
  No cell of these rows narrows 'for every input' (looked for: loops, veiled, ifaces, maps, wideKeys, modest, calm, conditions, laid).
  DERIVED. THE GIVEN ROWS OF THIS SEAT. 3 by the template 'for every input the law returns true; each argument reads behind the call as it read before'; 0 by the template 'total and deterministic' (their statements: YtdmlogpmojmikaaTotals.lean).
  GIVEN WITH THE SEED: the statements are not yours to turn. If you find one false, say at which input.
  Laid BY PROGRAM, IN A SANDBOX (cutbox-rows.mjs): the forced cells as the released guide's own fill.sh prints them over the translation d79465479d15656f… (all of the seat's roots in one cut). By AI agents, Wed Nov 11 2026. No macro, syntax, notation, axiom, sorry.
-/
import Derived.Test.YtdmlogpmojmikaaChecked
import GoSem.Claim
import GoSem.ClaimJoined
import GoSem.ClaimMapViews
import Derived.JoinedTies
import Derived.KernelRfl
namespace Go.Proofs.Ytdmlogpmojmikaa
/- THE CELL 'sum', in the pinned program and in every row, IS THE sha256 OF THE DUMP (.gsa) THAT YtdmlogpmojmikaaProg.lean LOADS. Nothing in Lean hashes anything: it is a label: what it is worth is what the hold of that sum in a sandbox is worth. -/
noncomputable def Try.pinned : Pinned := { name := "ytdmlogpmojmikaa", sum := "d79465479d15656f56218e7a534d24c1b37c2e8ba9f02c7d3730bc506544d731", checked := Try.checked }
namespace Rows
def none {H : Type} : Left H := { results := [], args := [] }

/-- 'pluviallaw14.TombHas': WHATEVER THE INPUT: true; the input reads as it did. -/
def tombHasSpec : ChangeSpec := { name := "tombHas", fn := fun _ => fun
  | [d1, d2, d3, d4] => { results := [.lit (.bool true)], args := [d1, d2, d3, d4] }
  | _ => none }
def tombHasRow : OpenClaim := { program := "ytdmlogpmojmikaa", sum := "d79465479d15656f56218e7a534d24c1b37c2e8ba9f02c7d3730bc506544d731", func := "pluvial/pluviallaw14.TombHas", spec := "tombHas", unfollowed := true, recurses := true, apart := false }
def TombHasSaid : Prop := tombHasRow.holds Try.pinned (OpenSpec.ofChange tombHasSpec)

/-- ITS FALSE NEIGHBOUR: 'it returns false'. Refute it at one input. -/
def tombHasWrong : ChangeSpec := { name := "tombHas", fn := fun _ => fun
  | [d1, d2, d3, d4] => { results := [.lit (.bool false)], args := [d1, d2, d3, d4] }
  | _ => none }
def TombHasWrongFalsely : Prop := tombHasRow.holds Try.pinned (OpenSpec.ofChange tombHasWrong)

/-- 'pluviallaw14.TombTurns': WHATEVER THE INPUT: true; the input reads as it did. -/
def tombTurnsSpec : ChangeSpec := { name := "tombTurns", fn := fun _ => fun
  | [d1, d2, d3] => { results := [.lit (.bool true)], args := [d1, d2, d3] }
  | _ => none }
def tombTurnsRow : OpenClaim := { program := "ytdmlogpmojmikaa", sum := "d79465479d15656f56218e7a534d24c1b37c2e8ba9f02c7d3730bc506544d731", func := "pluvial/pluviallaw14.TombTurns", spec := "tombTurns", unfollowed := true, recurses := true, apart := false }
def TombTurnsSaid : Prop := tombTurnsRow.holds Try.pinned (OpenSpec.ofChange tombTurnsSpec)

/-- ITS FALSE NEIGHBOUR: 'it returns false'. Refute it at one input. -/
def tombTurnsWrong : ChangeSpec := { name := "tombTurns", fn := fun _ => fun
  | [d1, d2, d3] => { results := [.lit (.bool false)], args := [d1, d2, d3] }
  | _ => none }
def TombTurnsWrongFalsely : Prop := tombTurnsRow.holds Try.pinned (OpenSpec.ofChange tombTurnsWrong)

/-- 'pluviallaw14.TombKeeps': WHATEVER THE INPUT: true; the input reads as it did. -/
def tombKeepsSpec : ChangeSpec := { name := "tombKeeps", fn := fun _ => fun
  | [d1, d2] => { results := [.lit (.bool true)], args := [d1, d2] }
  | _ => none }
def tombKeepsRow : OpenClaim := { program := "ytdmlogpmojmikaa", sum := "d79465479d15656f56218e7a534d24c1b37c2e8ba9f02c7d3730bc506544d731", func := "pluvial/pluviallaw14.TombKeeps", spec := "tombKeeps", unfollowed := true, recurses := true, apart := false }
def TombKeepsSaid : Prop := tombKeepsRow.holds Try.pinned (OpenSpec.ofChange tombKeepsSpec)

/-- ITS FALSE NEIGHBOUR: 'it returns false'. Refute it at one input. -/
def tombKeepsWrong : ChangeSpec := { name := "tombKeeps", fn := fun _ => fun
  | [d1, d2] => { results := [.lit (.bool false)], args := [d1, d2] }
  | _ => none }
def TombKeepsWrongFalsely : Prop := tombKeepsRow.holds Try.pinned (OpenSpec.ofChange tombKeepsWrong)

/- THE SECOND FORM. 'bulk': how many values and letters a reading holds, each counted each time it is reached (what is shared counts as often as it is met; a slice's spare places count too). A statement '..UptoSaid' is the law's where the arguments, and the package variables that the reading takes, are together of bulk at most 1048576: NARROWER than '..Said'. Prove '..Said' where nothing that the law and all that it calls make is longer than what came in: it says more and counts as full. Else prove '..UptoSaid'. A law counts once. -/
mutual
def uptoBulk {H : Type} : DataW H → Nat
  | .lit (.string bytes) => bytes.length + 1
  | .lit _ => 1
  | .nil => 1
  | .ptr d => uptoBulk d + 1
  | .slice elems spare => uptoBulkAll elems + uptoBulkAll spare + 1
  | .agg parts => uptoBulkAll parts + 1
  | .iface _ d => uptoBulk d + 1
  | .map entries => uptoBulkEntries entries + 1
  | .held _ => 1
def uptoBulkAll {H : Type} : List (DataW H) → Nat
  | [] => 0
  | d :: r => uptoBulk d + uptoBulkAll r
def uptoBulkEntries {H : Type} : List (Lit × DataW H) → Nat
  | [] => 0
  | x :: r => uptoBulkEntry x + uptoBulkEntries r
def uptoBulkEntry {H : Type} : Lit × DataW H → Nat
  | (.string bytes, d) => bytes.length + uptoBulk d + 1
  | (_, d) => uptoBulk d + 1
 end
def uptoSmall : (H : Type) → List (DataW H) → Bool := fun _ ds => decide (uptoBulkAll ds ≤ 1048576)
def OpenSpec.upto (s : _root_.Go.ChangeSpec) : _root_.Go.OpenSpec := { _root_.Go.OpenSpec.ofChange s with cond := some uptoSmall }

/-- 'pluviallaw14.TombHas', WHERE WHAT IT READS IS OF BULK AT MOST 1048576: true; the input reads as it did. -/
def tombHasUptoRow : OpenClaim := { program := "ytdmlogpmojmikaa", sum := "d79465479d15656f56218e7a534d24c1b37c2e8ba9f02c7d3730bc506544d731", func := "pluvial/pluviallaw14.TombHas", spec := "tombHas", unfollowed := true, recurses := true, apart := false, narrowed := true }
def TombHasUptoSaid : Prop := tombHasUptoRow.holds Try.pinned (OpenSpec.upto tombHasSpec)

/-- 'pluviallaw14.TombTurns', WHERE WHAT IT READS IS OF BULK AT MOST 1048576: true; the input reads as it did. -/
def tombTurnsUptoRow : OpenClaim := { program := "ytdmlogpmojmikaa", sum := "d79465479d15656f56218e7a534d24c1b37c2e8ba9f02c7d3730bc506544d731", func := "pluvial/pluviallaw14.TombTurns", spec := "tombTurns", unfollowed := true, recurses := true, apart := false, narrowed := true }
def TombTurnsUptoSaid : Prop := tombTurnsUptoRow.holds Try.pinned (OpenSpec.upto tombTurnsSpec)

/-- 'pluviallaw14.TombKeeps', WHERE WHAT IT READS IS OF BULK AT MOST 1048576: true; the input reads as it did. -/
def tombKeepsUptoRow : OpenClaim := { program := "ytdmlogpmojmikaa", sum := "d79465479d15656f56218e7a534d24c1b37c2e8ba9f02c7d3730bc506544d731", func := "pluvial/pluviallaw14.TombKeeps", spec := "tombKeeps", unfollowed := true, recurses := true, apart := false, narrowed := true }
def TombKeepsUptoSaid : Prop := tombKeepsUptoRow.holds Try.pinned (OpenSpec.upto tombKeepsSpec)

end Rows
end Go.Proofs.Ytdmlogpmojmikaa
