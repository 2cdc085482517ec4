/-
  DERIVED. GIVEN WITH THE SEED: THE CARDS: each row of YtepelpmkmhhokaaGreatDoorRows.lean that lists a variable, with what it lists TIED to the program's text (the seventh form; the later family's looks); each row that meets fmt, with fmt's text TOLD by the authors' own Lean function (tested against real Go, not proved from fmt's source: count such statements apart). THE CARD IS WHAT COUNTS. Prove the row's statement (the work); the ties are given (YtepelpmkmhhokaaGreatDoorTie.lean); close each card by the builder's one call (the guide's Derived/Test/ToyasCard.lean, 'card_holds'). Laid BY PROGRAM, IN A SANDBOX (cutbox-door.mjs). By AI agents, Wed Nov 11 2026. No macro, syntax, notation, axiom, sorry.
-/
import Derived.Test.YtepelpmkmhhokaaGreatDoorRows
import GoSem.ClaimSeven
namespace Go.Proofs.YtepelpmkmhhokaaGreatDoor
namespace Rows

/-- THE TIED CARD OF 'sigillarylaw09.IsoTells'. -/
def isoTellsCard : Claim7 := { stood := { row := isoTellsRow, standIns := [], harness := (true, "5a9ec9fb7c888cfb5ff9226508477bb359902a80eafb0ef87e2a572d3d3c9b4d"), looks := true }, kinds := [], alts := [], laidByText := true, laidKinds := [.data, .handle, .sentinel, .sentinel, .sentinel, .pinned], laidTests := true, laidLooks := .later }
def IsoTellsCardSaid : Prop := Claim7.holds Tryz.pinned (.plain (OpenSpec.ofChange isoTellsSpec)) isoTellsCard

/-- THE TIED CARD OF 'sigillarylaw09.IsoTidy'. -/
def isoTidyCard : Claim7 := { stood := { row := isoTidyRow, standIns := [], harness := (true, "5a9ec9fb7c888cfb5ff9226508477bb359902a80eafb0ef87e2a572d3d3c9b4d"), looks := true }, kinds := [], alts := [], laidByText := true, laidKinds := [.data, .handle, .sentinel, .sentinel, .sentinel, .pinned], laidTests := true, laidLooks := .later }
def IsoTidyCardSaid : Prop := Claim7.holds Tryz.pinned (.plain (OpenSpec.ofChange isoTidySpec)) isoTidyCard

/-- THE TIED CARD OF 'sigillarylaw09.IsoOrder'. -/
def isoOrderCard : Claim7 := { stood := { row := isoOrderRow, standIns := [], harness := (true, "5a9ec9fb7c888cfb5ff9226508477bb359902a80eafb0ef87e2a572d3d3c9b4d"), looks := true }, kinds := [], alts := [], laidByText := true, laidKinds := [.data, .handle, .sentinel, .sentinel, .sentinel, .pinned], laidTests := true, laidLooks := .later }
def IsoOrderCardSaid : Prop := Claim7.holds Tryz.pinned (.plain (OpenSpec.ofChange isoOrderSpec)) isoOrderCard

/-- THE TIED CARD OF 'sigillarylaw09.IsoPairs'. -/
def isoPairsCard : Claim7 := { stood := { row := isoPairsRow, standIns := [], harness := (true, "5a9ec9fb7c888cfb5ff9226508477bb359902a80eafb0ef87e2a572d3d3c9b4d"), looks := true }, kinds := [], alts := [], laidByText := true, laidKinds := [.data, .handle, .sentinel, .sentinel, .sentinel, .pinned], laidTests := true, laidLooks := .later }
def IsoPairsCardSaid : Prop := Claim7.holds Tryz.pinned (.plain (OpenSpec.ofChange isoPairsSpec)) isoPairsCard

/-- THE TIED CARD OF 'sigillarylaw09.IsoPaths'. -/
def isoPathsCard : Claim7 := { stood := { row := isoPathsRow, standIns := [], harness := (true, "5a9ec9fb7c888cfb5ff9226508477bb359902a80eafb0ef87e2a572d3d3c9b4d"), looks := true }, kinds := [], alts := [], laidByText := true, laidKinds := [.data, .handle, .sentinel, .sentinel, .sentinel, .pinned], laidTests := true, laidLooks := .later }
def IsoPathsCardSaid : Prop := Claim7.holds Tryz.pinned (.plain (OpenSpec.ofChange isoPathsSpec)) isoPathsCard

/-- THE TIED CARD OF 'sigillarylaw09.IsoSubs'. -/
def isoSubsCard : Claim7 := { stood := { row := isoSubsRow, standIns := [], harness := (true, "5a9ec9fb7c888cfb5ff9226508477bb359902a80eafb0ef87e2a572d3d3c9b4d"), looks := true }, kinds := [], alts := [], laidByText := true, laidKinds := [.data, .handle, .sentinel, .sentinel, .sentinel, .pinned], laidTests := true, laidLooks := .later }
def IsoSubsCardSaid : Prop := Claim7.holds Tryz.pinned (.plain (OpenSpec.ofChange isoSubsSpec)) isoSubsCard

/-- THE TIED CARD OF 'sigillarylaw09.IsoCounts'. -/
def isoCountsCard : Claim7 := { stood := { row := isoCountsRow, standIns := [], harness := (true, "5a9ec9fb7c888cfb5ff9226508477bb359902a80eafb0ef87e2a572d3d3c9b4d"), looks := true }, kinds := [], alts := [], laidByText := true, laidKinds := [.data, .handle, .sentinel, .sentinel, .sentinel, .pinned], laidTests := true, laidLooks := .later }
def IsoCountsCardSaid : Prop := Claim7.holds Tryz.pinned (.plain (OpenSpec.ofChange isoCountsSpec)) isoCountsCard

/-- THE SECOND FORM's CARD OF 'sigillarylaw09.IsoTells'. -/
def isoTellsUptoCard : Claim7 := { stood := { row := isoTellsUptoRow, standIns := [], harness := (true, "5a9ec9fb7c888cfb5ff9226508477bb359902a80eafb0ef87e2a572d3d3c9b4d"), looks := true }, kinds := [], alts := [], laidByText := true, laidKinds := [.data, .handle, .sentinel, .sentinel, .sentinel, .pinned], laidTests := true, laidLooks := .later }
def IsoTellsUptoCardSaid : Prop := Claim7.holds Tryz.pinned (.plain (OpenSpec.upto isoTellsSpec)) isoTellsUptoCard

/-- THE SECOND FORM's CARD OF 'sigillarylaw09.IsoTidy'. -/
def isoTidyUptoCard : Claim7 := { stood := { row := isoTidyUptoRow, standIns := [], harness := (true, "5a9ec9fb7c888cfb5ff9226508477bb359902a80eafb0ef87e2a572d3d3c9b4d"), looks := true }, kinds := [], alts := [], laidByText := true, laidKinds := [.data, .handle, .sentinel, .sentinel, .sentinel, .pinned], laidTests := true, laidLooks := .later }
def IsoTidyUptoCardSaid : Prop := Claim7.holds Tryz.pinned (.plain (OpenSpec.upto isoTidySpec)) isoTidyUptoCard

/-- THE SECOND FORM's CARD OF 'sigillarylaw09.IsoOrder'. -/
def isoOrderUptoCard : Claim7 := { stood := { row := isoOrderUptoRow, standIns := [], harness := (true, "5a9ec9fb7c888cfb5ff9226508477bb359902a80eafb0ef87e2a572d3d3c9b4d"), looks := true }, kinds := [], alts := [], laidByText := true, laidKinds := [.data, .handle, .sentinel, .sentinel, .sentinel, .pinned], laidTests := true, laidLooks := .later }
def IsoOrderUptoCardSaid : Prop := Claim7.holds Tryz.pinned (.plain (OpenSpec.upto isoOrderSpec)) isoOrderUptoCard

/-- THE SECOND FORM's CARD OF 'sigillarylaw09.IsoPairs'. -/
def isoPairsUptoCard : Claim7 := { stood := { row := isoPairsUptoRow, standIns := [], harness := (true, "5a9ec9fb7c888cfb5ff9226508477bb359902a80eafb0ef87e2a572d3d3c9b4d"), looks := true }, kinds := [], alts := [], laidByText := true, laidKinds := [.data, .handle, .sentinel, .sentinel, .sentinel, .pinned], laidTests := true, laidLooks := .later }
def IsoPairsUptoCardSaid : Prop := Claim7.holds Tryz.pinned (.plain (OpenSpec.upto isoPairsSpec)) isoPairsUptoCard

/-- THE SECOND FORM's CARD OF 'sigillarylaw09.IsoPaths'. -/
def isoPathsUptoCard : Claim7 := { stood := { row := isoPathsUptoRow, standIns := [], harness := (true, "5a9ec9fb7c888cfb5ff9226508477bb359902a80eafb0ef87e2a572d3d3c9b4d"), looks := true }, kinds := [], alts := [], laidByText := true, laidKinds := [.data, .handle, .sentinel, .sentinel, .sentinel, .pinned], laidTests := true, laidLooks := .later }
def IsoPathsUptoCardSaid : Prop := Claim7.holds Tryz.pinned (.plain (OpenSpec.upto isoPathsSpec)) isoPathsUptoCard

/-- THE SECOND FORM's CARD OF 'sigillarylaw09.IsoSubs'. -/
def isoSubsUptoCard : Claim7 := { stood := { row := isoSubsUptoRow, standIns := [], harness := (true, "5a9ec9fb7c888cfb5ff9226508477bb359902a80eafb0ef87e2a572d3d3c9b4d"), looks := true }, kinds := [], alts := [], laidByText := true, laidKinds := [.data, .handle, .sentinel, .sentinel, .sentinel, .pinned], laidTests := true, laidLooks := .later }
def IsoSubsUptoCardSaid : Prop := Claim7.holds Tryz.pinned (.plain (OpenSpec.upto isoSubsSpec)) isoSubsUptoCard

/-- THE SECOND FORM's CARD OF 'sigillarylaw09.IsoCounts'. -/
def isoCountsUptoCard : Claim7 := { stood := { row := isoCountsUptoRow, standIns := [], harness := (true, "5a9ec9fb7c888cfb5ff9226508477bb359902a80eafb0ef87e2a572d3d3c9b4d"), looks := true }, kinds := [], alts := [], laidByText := true, laidKinds := [.data, .handle, .sentinel, .sentinel, .sentinel, .pinned], laidTests := true, laidLooks := .later }
def IsoCountsUptoCardSaid : Prop := Claim7.holds Tryz.pinned (.plain (OpenSpec.upto isoCountsSpec)) isoCountsUptoCard
end Rows
end Go.Proofs.YtepelpmkmhhokaaGreatDoor
