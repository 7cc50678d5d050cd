/-
  DERIVED. GIVEN WITH THE SEED: THE CARDS: each row of YtdnihkmdigmnoaaDoorRows.lean that lists a variable, with what it lists TIED to the program's text (the seventh form; the later family's looks); each row that meets fmt, with fmt's text TOLD by the authors' own Lean function (tested against real Go, not proved from fmt's source: count such statements apart). THE CARD IS WHAT COUNTS. Prove the row's statement (the work); the ties are given (YtdnihkmdigmnoaaDoorTie.lean); close each card by the builder's one call (the guide's Derived/Test/ToyasCard.lean, 'card_holds'). Laid BY PROGRAM, IN A SANDBOX (cutbox-door.mjs). By AI agents, Wed Nov 11 2026. No macro, syntax, notation, axiom, sorry.
-/
import Derived.Test.YtdnihkmdigmnoaaDoorRows
import GoSem.ClaimSeven
namespace Go.Proofs.YtdnihkmdigmnoaaDoor
namespace Rows

/-- THE TIED CARD OF 'pluviallaw02.BitsShort'. -/
def bitsShortCard : Claim7 := { stood := { row := bitsShortRow, standIns := [], harness := (true, "8443d1668c9d92104910eb80dd7a91a387c2b9753d8d53436fa4613da8f8b9a5"), looks := false }, kinds := [], alts := [], laidByText := true, laidKinds := [.data], laidTests := true, laidLooks := .later }
def BitsShortCardSaid : Prop := Claim7.holds Tryd.pinned (.plain (OpenSpec.ofChange bitsShortSpec)) bitsShortCard

/-- THE TIED CARD OF 'pluviallaw02.BitsJoin'. -/
def bitsJoinCard : Claim7 := { stood := { row := bitsJoinRow, standIns := [], harness := (true, "8443d1668c9d92104910eb80dd7a91a387c2b9753d8d53436fa4613da8f8b9a5"), looks := false }, kinds := [], alts := [], laidByText := true, laidKinds := [.data], laidTests := true, laidLooks := .later }
def BitsJoinCardSaid : Prop := Claim7.holds Tryd.pinned (.plain (OpenSpec.ofChange bitsJoinSpec)) bitsJoinCard

/-- THE SECOND FORM's CARD OF 'pluviallaw02.BitsShort'. -/
def bitsShortUptoCard : Claim7 := { stood := { row := bitsShortUptoRow, standIns := [], harness := (true, "8443d1668c9d92104910eb80dd7a91a387c2b9753d8d53436fa4613da8f8b9a5"), looks := false }, kinds := [], alts := [], laidByText := true, laidKinds := [.data], laidTests := true, laidLooks := .later }
def BitsShortUptoCardSaid : Prop := Claim7.holds Tryd.pinned (.plain (OpenSpec.upto bitsShortSpec)) bitsShortUptoCard

/-- THE SECOND FORM's CARD OF 'pluviallaw02.BitsJoin'. -/
def bitsJoinUptoCard : Claim7 := { stood := { row := bitsJoinUptoRow, standIns := [], harness := (true, "8443d1668c9d92104910eb80dd7a91a387c2b9753d8d53436fa4613da8f8b9a5"), looks := false }, kinds := [], alts := [], laidByText := true, laidKinds := [.data], laidTests := true, laidLooks := .later }
def BitsJoinUptoCardSaid : Prop := Claim7.holds Tryd.pinned (.plain (OpenSpec.upto bitsJoinSpec)) bitsJoinUptoCard
end Rows
end Go.Proofs.YtdnihkmdigmnoaaDoor
