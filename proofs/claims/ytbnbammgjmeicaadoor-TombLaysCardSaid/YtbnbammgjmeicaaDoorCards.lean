/-
  DERIVED. GIVEN WITH THE SEED: THE CARDS: each row of YtbnbammgjmeicaaDoorRows.lean that lists a variable, with what it lists TIED to the program's text (the seventh form; the later family's looks); each row that meets fmt, with fmt's text TOLD by the authors' own Lean function (tested against real Go, not proved from fmt's source: count such statements apart). THE CARD IS WHAT COUNTS. Prove the row's statement (the work); the ties are given (YtbnbammgjmeicaaDoorTie.lean); close each card by the builder's one call (the guide's Derived/Test/ToyasCard.lean, 'card_holds'). Laid BY PROGRAM, IN A SANDBOX (cutbox-door.mjs). By AI agents, Wed Nov 11 2026. No macro, syntax, notation, axiom, sorry.
-/
import Derived.Test.YtbnbammgjmeicaaDoorRows
import GoSem.ClaimSeven
namespace Go.Proofs.YtbnbammgjmeicaaDoor
namespace Rows

/-- THE TIED CARD OF 'pluviallaw14.TombLays'. -/
def tombLaysCard : Claim7 := { stood := { row := tombLaysRow, standIns := [], harness := (true, "4d6707a20676b7b5e0058b94404f2c0438ce52c9beddb97af5d94140637ce04c"), looks := false }, kinds := [], alts := [], laidByText := true, laidKinds := [.data], laidTests := true, laidLooks := .later }
def TombLaysCardSaid : Prop := Claim7.holds Tryd.pinned (.plain (OpenSpec.ofChange tombLaysSpec)) tombLaysCard

/-- THE SECOND FORM's CARD OF 'pluviallaw14.TombLays'. -/
def tombLaysUptoCard : Claim7 := { stood := { row := tombLaysUptoRow, standIns := [], harness := (true, "4d6707a20676b7b5e0058b94404f2c0438ce52c9beddb97af5d94140637ce04c"), looks := false }, kinds := [], alts := [], laidByText := true, laidKinds := [.data], laidTests := true, laidLooks := .later }
def TombLaysUptoCardSaid : Prop := Claim7.holds Tryd.pinned (.plain (OpenSpec.upto tombLaysSpec)) tombLaysUptoCard
end Rows
end Go.Proofs.YtbnbammgjmeicaaDoor
