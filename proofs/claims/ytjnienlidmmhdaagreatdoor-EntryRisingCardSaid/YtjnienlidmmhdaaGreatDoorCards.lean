/-
  DERIVED. GIVEN WITH THE SEED: THE CARDS: each row of YtjnienlidmmhdaaGreatDoorRows.lean that lists a variable, with what it lists TIED to the program's text (the seventh form; the later family's looks); each row that meets fmt, with fmt's text TOLD by the authors' own Lean function (tested against real Go, not proved from fmt's source: count such statements apart). THE CARD IS WHAT COUNTS. Prove the row's statement (the work); the ties are given (YtjnienlidmmhdaaGreatDoorTie.lean); close each card by the builder's one call (the guide's Derived/Test/ToyasCard.lean, 'card_holds'). Laid BY PROGRAM, IN A SANDBOX (cutbox-door.mjs). By AI agents, Wed Nov 11 2026. No macro, syntax, notation, axiom, sorry.
-/
import Derived.Test.YtjnienlidmmhdaaGreatDoorRows
import GoSem.ClaimSeven
namespace Go.Proofs.YtjnienlidmmhdaaGreatDoor
namespace Rows

/-- THE TIED CARD OF 'pluviallaw09.ChunkEncodes'. -/
def chunkEncodesCard : Claim7 := { stood := { row := chunkEncodesRow, standIns := [], harness := (true, "b716431ac11b8f93304d12b5d1669fc23431a983902afa8be007a8e285375ba7"), looks := false }, kinds := [], alts := [], laidByText := true, laidKinds := [.data], laidTests := true, laidLooks := .later }
def ChunkEncodesCardSaid : Prop := Claim7.holds Tryz.pinned (.plain (OpenSpec.ofChange chunkEncodesSpec)) chunkEncodesCard

/-- THE TIED CARD OF 'pluviallaw09.ChunkDecodes'. -/
def chunkDecodesCard : Claim7 := { stood := { row := chunkDecodesRow, standIns := [], harness := (true, "b716431ac11b8f93304d12b5d1669fc23431a983902afa8be007a8e285375ba7"), looks := false }, kinds := [], alts := [], laidByText := true, laidKinds := [.data], laidTests := true, laidLooks := .later }
def ChunkDecodesCardSaid : Prop := Claim7.holds Tryz.pinned (.plain (OpenSpec.ofChange chunkDecodesSpec)) chunkDecodesCard

/-- THE TIED CARD OF 'pluviallaw09.ChunkCuts'. -/
def chunkCutsCard : Claim7 := { stood := { row := chunkCutsRow, standIns := [], harness := (true, "b716431ac11b8f93304d12b5d1669fc23431a983902afa8be007a8e285375ba7"), looks := false }, kinds := [], alts := [], laidByText := true, laidKinds := [.data], laidTests := true, laidLooks := .later }
def ChunkCutsCardSaid : Prop := Claim7.holds Tryz.pinned (.plain (OpenSpec.ofChange chunkCutsSpec)) chunkCutsCard

/-- THE TIED CARD OF 'pluviallaw09.ChunkTurns'. -/
def chunkTurnsCard : Claim7 := { stood := { row := chunkTurnsRow, standIns := [], harness := (true, "b716431ac11b8f93304d12b5d1669fc23431a983902afa8be007a8e285375ba7"), looks := false }, kinds := [], alts := [], laidByText := true, laidKinds := [.data], laidTests := true, laidLooks := .later }
def ChunkTurnsCardSaid : Prop := Claim7.holds Tryz.pinned (.plain (OpenSpec.ofChange chunkTurnsSpec)) chunkTurnsCard

/-- THE TIED CARD OF 'pluviallaw09.ChunkParts'. -/
def chunkPartsCard : Claim7 := { stood := { row := chunkPartsRow, standIns := [], harness := (true, "b716431ac11b8f93304d12b5d1669fc23431a983902afa8be007a8e285375ba7"), looks := false }, kinds := [], alts := [], laidByText := true, laidKinds := [.data], laidTests := true, laidLooks := .later }
def ChunkPartsCardSaid : Prop := Claim7.holds Tryz.pinned (.plain (OpenSpec.ofChange chunkPartsSpec)) chunkPartsCard

/-- THE TIED CARD OF 'pluviallaw15.EntryChanges'. -/
def entryChangesCard : Claim7 := { stood := { row := entryChangesRow, standIns := [], harness := (true, "b716431ac11b8f93304d12b5d1669fc23431a983902afa8be007a8e285375ba7"), looks := false }, kinds := [], alts := [], laidByText := true, laidKinds := [.data], laidTests := true, laidLooks := .later }
def EntryChangesCardSaid : Prop := Claim7.holds Tryz.pinned (.plain (OpenSpec.ofChange entryChangesSpec)) entryChangesCard

/-- THE TIED CARD OF 'pluviallaw15.EntryImages'. -/
def entryImagesCard : Claim7 := { stood := { row := entryImagesRow, standIns := [], harness := (true, "b716431ac11b8f93304d12b5d1669fc23431a983902afa8be007a8e285375ba7"), looks := false }, kinds := [], alts := [], laidByText := true, laidKinds := [.data], laidTests := true, laidLooks := .later }
def EntryImagesCardSaid : Prop := Claim7.holds Tryz.pinned (.plain (OpenSpec.ofChange entryImagesSpec)) entryImagesCard

/-- THE TIED CARD OF 'pluviallaw15.EntryReads'. -/
def entryReadsCard : Claim7 := { stood := { row := entryReadsRow, standIns := [], harness := (true, "b716431ac11b8f93304d12b5d1669fc23431a983902afa8be007a8e285375ba7"), looks := false }, kinds := [], alts := [], laidByText := true, laidKinds := [.data], laidTests := true, laidLooks := .later }
def EntryReadsCardSaid : Prop := Claim7.holds Tryz.pinned (.plain (OpenSpec.ofChange entryReadsSpec)) entryReadsCard

/-- THE TIED CARD OF 'pluviallaw15.EntryApart'. -/
def entryApartCard : Claim7 := { stood := { row := entryApartRow, standIns := [], harness := (true, "b716431ac11b8f93304d12b5d1669fc23431a983902afa8be007a8e285375ba7"), looks := false }, kinds := [], alts := [], laidByText := true, laidKinds := [.data], laidTests := true, laidLooks := .later }
def EntryApartCardSaid : Prop := Claim7.holds Tryz.pinned (.plain (OpenSpec.ofChange entryApartSpec)) entryApartCard

/-- THE TIED CARD OF 'pluviallaw15.EntryRising'. -/
def entryRisingCard : Claim7 := { stood := { row := entryRisingRow, standIns := [], harness := (true, "b716431ac11b8f93304d12b5d1669fc23431a983902afa8be007a8e285375ba7"), looks := false }, kinds := [], alts := [], laidByText := true, laidKinds := [.data], laidTests := true, laidLooks := .later }
def EntryRisingCardSaid : Prop := Claim7.holds Tryz.pinned (.plain (OpenSpec.ofChange entryRisingSpec)) entryRisingCard

/-- THE SECOND FORM's CARD OF 'pluviallaw09.ChunkEncodes'. -/
def chunkEncodesUptoCard : Claim7 := { stood := { row := chunkEncodesUptoRow, standIns := [], harness := (true, "b716431ac11b8f93304d12b5d1669fc23431a983902afa8be007a8e285375ba7"), looks := false }, kinds := [], alts := [], laidByText := true, laidKinds := [.data], laidTests := true, laidLooks := .later }
def ChunkEncodesUptoCardSaid : Prop := Claim7.holds Tryz.pinned (.plain (OpenSpec.upto chunkEncodesSpec)) chunkEncodesUptoCard

/-- THE SECOND FORM's CARD OF 'pluviallaw09.ChunkDecodes'. -/
def chunkDecodesUptoCard : Claim7 := { stood := { row := chunkDecodesUptoRow, standIns := [], harness := (true, "b716431ac11b8f93304d12b5d1669fc23431a983902afa8be007a8e285375ba7"), looks := false }, kinds := [], alts := [], laidByText := true, laidKinds := [.data], laidTests := true, laidLooks := .later }
def ChunkDecodesUptoCardSaid : Prop := Claim7.holds Tryz.pinned (.plain (OpenSpec.upto chunkDecodesSpec)) chunkDecodesUptoCard

/-- THE SECOND FORM's CARD OF 'pluviallaw09.ChunkCuts'. -/
def chunkCutsUptoCard : Claim7 := { stood := { row := chunkCutsUptoRow, standIns := [], harness := (true, "b716431ac11b8f93304d12b5d1669fc23431a983902afa8be007a8e285375ba7"), looks := false }, kinds := [], alts := [], laidByText := true, laidKinds := [.data], laidTests := true, laidLooks := .later }
def ChunkCutsUptoCardSaid : Prop := Claim7.holds Tryz.pinned (.plain (OpenSpec.upto chunkCutsSpec)) chunkCutsUptoCard

/-- THE SECOND FORM's CARD OF 'pluviallaw09.ChunkTurns'. -/
def chunkTurnsUptoCard : Claim7 := { stood := { row := chunkTurnsUptoRow, standIns := [], harness := (true, "b716431ac11b8f93304d12b5d1669fc23431a983902afa8be007a8e285375ba7"), looks := false }, kinds := [], alts := [], laidByText := true, laidKinds := [.data], laidTests := true, laidLooks := .later }
def ChunkTurnsUptoCardSaid : Prop := Claim7.holds Tryz.pinned (.plain (OpenSpec.upto chunkTurnsSpec)) chunkTurnsUptoCard

/-- THE SECOND FORM's CARD OF 'pluviallaw09.ChunkParts'. -/
def chunkPartsUptoCard : Claim7 := { stood := { row := chunkPartsUptoRow, standIns := [], harness := (true, "b716431ac11b8f93304d12b5d1669fc23431a983902afa8be007a8e285375ba7"), looks := false }, kinds := [], alts := [], laidByText := true, laidKinds := [.data], laidTests := true, laidLooks := .later }
def ChunkPartsUptoCardSaid : Prop := Claim7.holds Tryz.pinned (.plain (OpenSpec.upto chunkPartsSpec)) chunkPartsUptoCard

/-- THE SECOND FORM's CARD OF 'pluviallaw15.EntryChanges'. -/
def entryChangesUptoCard : Claim7 := { stood := { row := entryChangesUptoRow, standIns := [], harness := (true, "b716431ac11b8f93304d12b5d1669fc23431a983902afa8be007a8e285375ba7"), looks := false }, kinds := [], alts := [], laidByText := true, laidKinds := [.data], laidTests := true, laidLooks := .later }
def EntryChangesUptoCardSaid : Prop := Claim7.holds Tryz.pinned (.plain (OpenSpec.upto entryChangesSpec)) entryChangesUptoCard

/-- THE SECOND FORM's CARD OF 'pluviallaw15.EntryImages'. -/
def entryImagesUptoCard : Claim7 := { stood := { row := entryImagesUptoRow, standIns := [], harness := (true, "b716431ac11b8f93304d12b5d1669fc23431a983902afa8be007a8e285375ba7"), looks := false }, kinds := [], alts := [], laidByText := true, laidKinds := [.data], laidTests := true, laidLooks := .later }
def EntryImagesUptoCardSaid : Prop := Claim7.holds Tryz.pinned (.plain (OpenSpec.upto entryImagesSpec)) entryImagesUptoCard

/-- THE SECOND FORM's CARD OF 'pluviallaw15.EntryReads'. -/
def entryReadsUptoCard : Claim7 := { stood := { row := entryReadsUptoRow, standIns := [], harness := (true, "b716431ac11b8f93304d12b5d1669fc23431a983902afa8be007a8e285375ba7"), looks := false }, kinds := [], alts := [], laidByText := true, laidKinds := [.data], laidTests := true, laidLooks := .later }
def EntryReadsUptoCardSaid : Prop := Claim7.holds Tryz.pinned (.plain (OpenSpec.upto entryReadsSpec)) entryReadsUptoCard

/-- THE SECOND FORM's CARD OF 'pluviallaw15.EntryApart'. -/
def entryApartUptoCard : Claim7 := { stood := { row := entryApartUptoRow, standIns := [], harness := (true, "b716431ac11b8f93304d12b5d1669fc23431a983902afa8be007a8e285375ba7"), looks := false }, kinds := [], alts := [], laidByText := true, laidKinds := [.data], laidTests := true, laidLooks := .later }
def EntryApartUptoCardSaid : Prop := Claim7.holds Tryz.pinned (.plain (OpenSpec.upto entryApartSpec)) entryApartUptoCard

/-- THE SECOND FORM's CARD OF 'pluviallaw15.EntryRising'. -/
def entryRisingUptoCard : Claim7 := { stood := { row := entryRisingUptoRow, standIns := [], harness := (true, "b716431ac11b8f93304d12b5d1669fc23431a983902afa8be007a8e285375ba7"), looks := false }, kinds := [], alts := [], laidByText := true, laidKinds := [.data], laidTests := true, laidLooks := .later }
def EntryRisingUptoCardSaid : Prop := Claim7.holds Tryz.pinned (.plain (OpenSpec.upto entryRisingSpec)) entryRisingUptoCard
end Rows
end Go.Proofs.YtjnienlidmmhdaaGreatDoor
