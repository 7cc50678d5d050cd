/-
  DERIVED. GIVEN WITH THE SEED: THE CARDS: each row of YtnabfganecghkaaDoorRows.lean that lists a variable, with what it lists TIED to the program's text (the seventh form; the later family's looks); each row that meets fmt, with fmt's text TOLD by the authors' own Lean function (tested against real Go, not proved from fmt's source: count such statements apart). THE CARD IS WHAT COUNTS. Prove the row's statement (the work); the ties are given (YtnabfganecghkaaDoorTie.lean); close each card by the builder's one call (the guide's Derived/Test/ToyasCard.lean, 'card_holds'). Laid BY PROGRAM, IN A SANDBOX (cutbox-door.mjs). By AI agents, Wed Nov 11 2026. No macro, syntax, notation, axiom, sorry.
-/
import Derived.Test.YtnabfganecghkaaDoorRows
import GoSem.ClaimSeven
namespace Go.Proofs.YtnabfganecghkaaDoor
namespace Rows

/-- THE TIED CARD OF 'pluviallaw12.MatchAsks'. -/
def matchAsksCard : Claim7 := { stood := { row := matchAsksRow, standIns := [], harness := (true, "c1fda028cb872e2ae6fc804e6cec95ffdcd69904e8a75d20f6d4c4c2d97d9436"), looks := false }, kinds := [], alts := [], laidByText := true, laidKinds := [.data], laidTests := true, laidLooks := .later }
def MatchAsksCardSaid : Prop := Claim7.holds Tryd.pinned (.plain (OpenSpec.ofChange matchAsksSpec)) matchAsksCard

/-- THE TIED CARD OF 'pluviallaw12.MatchReads'. -/
def matchReadsCard : Claim7 := { stood := { row := matchReadsRow, standIns := [], harness := (true, "c1fda028cb872e2ae6fc804e6cec95ffdcd69904e8a75d20f6d4c4c2d97d9436"), looks := false }, kinds := [], alts := [], laidByText := true, laidKinds := [.data], laidTests := true, laidLooks := .later }
def MatchReadsCardSaid : Prop := Claim7.holds Tryd.pinned (.plain (OpenSpec.ofChange matchReadsSpec)) matchReadsCard

/-- THE SECOND FORM's CARD OF 'pluviallaw12.MatchAsks'. -/
def matchAsksUptoCard : Claim7 := { stood := { row := matchAsksUptoRow, standIns := [], harness := (true, "c1fda028cb872e2ae6fc804e6cec95ffdcd69904e8a75d20f6d4c4c2d97d9436"), looks := false }, kinds := [], alts := [], laidByText := true, laidKinds := [.data], laidTests := true, laidLooks := .later }
def MatchAsksUptoCardSaid : Prop := Claim7.holds Tryd.pinned (.plain (OpenSpec.upto matchAsksSpec)) matchAsksUptoCard

/-- THE SECOND FORM's CARD OF 'pluviallaw12.MatchReads'. -/
def matchReadsUptoCard : Claim7 := { stood := { row := matchReadsUptoRow, standIns := [], harness := (true, "c1fda028cb872e2ae6fc804e6cec95ffdcd69904e8a75d20f6d4c4c2d97d9436"), looks := false }, kinds := [], alts := [], laidByText := true, laidKinds := [.data], laidTests := true, laidLooks := .later }
def MatchReadsUptoCardSaid : Prop := Claim7.holds Tryd.pinned (.plain (OpenSpec.upto matchReadsSpec)) matchReadsUptoCard
end Rows
end Go.Proofs.YtnabfganecghkaaDoor
