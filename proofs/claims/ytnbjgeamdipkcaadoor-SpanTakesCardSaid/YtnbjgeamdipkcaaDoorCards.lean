/-
  DERIVED. GIVEN WITH THE SEED: THE CARDS: each row of YtnbjgeamdipkcaaDoorRows.lean that lists a variable, with what it lists TIED to the program's text (the seventh form; the later family's looks); each row that meets fmt, with fmt's text TOLD by the authors' own Lean function (tested against real Go, not proved from fmt's source: count such statements apart). THE CARD IS WHAT COUNTS. Prove the row's statement (the work); the ties are given (YtnbjgeamdipkcaaDoorTie.lean); close each card by the builder's one call (the guide's Derived/Test/ToyasCard.lean, 'card_holds'). Laid BY PROGRAM, IN A SANDBOX (cutbox-door.mjs). By AI agents, Wed Nov 11 2026. No macro, syntax, notation, axiom, sorry.
-/
import Derived.Test.YtnbjgeamdipkcaaDoorRows
import GoSem.ClaimSeven
namespace Go.Proofs.YtnbjgeamdipkcaaDoor
namespace Rows

/-- THE TIED CARD OF 'pluviallaw06.SpanTakes'. -/
def spanTakesCard : Claim7 := { stood := { row := spanTakesRow, standIns := [], harness := (true, "1c71c3fc8118c8ee853caa6fcf43524df440425f5b836b981d2ab2a00d240fd1"), looks := false }, kinds := [], alts := [], laidByText := true, laidKinds := [.data], laidTests := true, laidLooks := .later }
def SpanTakesCardSaid : Prop := Claim7.holds Tryd.pinned (.plain (OpenSpec.ofChange spanTakesSpec)) spanTakesCard

/-- THE SECOND FORM's CARD OF 'pluviallaw06.SpanTakes'. -/
def spanTakesUptoCard : Claim7 := { stood := { row := spanTakesUptoRow, standIns := [], harness := (true, "1c71c3fc8118c8ee853caa6fcf43524df440425f5b836b981d2ab2a00d240fd1"), looks := false }, kinds := [], alts := [], laidByText := true, laidKinds := [.data], laidTests := true, laidLooks := .later }
def SpanTakesUptoCardSaid : Prop := Claim7.holds Tryd.pinned (.plain (OpenSpec.upto spanTakesSpec)) spanTakesUptoCard
end Rows
end Go.Proofs.YtnbjgeamdipkcaaDoor
