/-
  DERIVED. GIVEN WITH THE SEED: THE CARDS: each row of YthojdcmkajmdjaaDoorRows.lean that lists a variable, with what it lists TIED to the program's text (the seventh form; the later family's looks); each row that meets fmt, with fmt's text TOLD by the authors' own Lean function (tested against real Go, not proved from fmt's source: count such statements apart). THE CARD IS WHAT COUNTS. Prove the row's statement (the work); the ties are given (YthojdcmkajmdjaaDoorTie.lean); close each card by the builder's one call (the guide's Derived/Test/ToyasCard.lean, 'card_holds'). Laid BY PROGRAM, IN A SANDBOX (cutbox-door.mjs). By AI agents, Wed Nov 11 2026. No macro, syntax, notation, axiom, sorry.
-/
import Derived.Test.YthojdcmkajmdjaaDoorRows
import GoSem.ClaimSeven
namespace Go.Proofs.YthojdcmkajmdjaaDoor
namespace Rows

/-- THE TIED CARD OF 'sigillarylaw03.TagTells'. -/
def tagTellsCard : Claim7 := { stood := { row := tagTellsRow, standIns := [], harness := (true, "89ddad88e66e51f11cd17b23c48bc8b8824f8a0bc7498d370eb93fe21ad71202"), looks := true }, kinds := [], alts := [], laidByText := true, laidKinds := [.data, .handle, .data, .sentinel, .sentinel, .sentinel, .sentinel], laidTests := true, laidLooks := .later }
def TagTellsCardSaid : Prop := Claim7.holds Tryd.pinned (.plain (OpenSpec.ofChange tagTellsSpec)) tagTellsCard

/-- THE TIED CARD OF 'sigillarylaw03.TagKeys'. -/
def tagKeysCard : Claim7 := { stood := { row := tagKeysRow, standIns := [], harness := (true, "89ddad88e66e51f11cd17b23c48bc8b8824f8a0bc7498d370eb93fe21ad71202"), looks := true }, kinds := [], alts := [], laidByText := true, laidKinds := [.handle, .data, .sentinel, .sentinel, .sentinel, .sentinel], laidTests := true, laidLooks := .later }
def TagKeysCardSaid : Prop := Claim7.holds Tryd.pinned (.plain (OpenSpec.ofChange tagKeysSpec)) tagKeysCard

/-- THE TIED CARD OF 'sigillarylaw03.TagBack'. -/
def tagBackCard : Claim7 := { stood := { row := tagBackRow, standIns := [], harness := (true, "89ddad88e66e51f11cd17b23c48bc8b8824f8a0bc7498d370eb93fe21ad71202"), looks := true }, kinds := [], alts := [], laidByText := true, laidKinds := [.handle, .data, .sentinel, .sentinel, .sentinel, .sentinel], laidTests := true, laidLooks := .later }
def TagBackCardSaid : Prop := Claim7.holds Tryd.pinned (.plain (OpenSpec.ofChange tagBackSpec)) tagBackCard

/-- THE TIED CARD OF 'sigillarylaw03.TagEnds'. -/
def tagEndsCard : Claim7 := { stood := { row := tagEndsRow, standIns := [], harness := (true, "89ddad88e66e51f11cd17b23c48bc8b8824f8a0bc7498d370eb93fe21ad71202"), looks := true }, kinds := [], alts := [], laidByText := true, laidKinds := [.handle, .data, .sentinel, .sentinel, .sentinel, .sentinel], laidTests := true, laidLooks := .later }
def TagEndsCardSaid : Prop := Claim7.holds Tryd.pinned (.plain (OpenSpec.ofChange tagEndsSpec)) tagEndsCard

/-- THE TIED CARD OF 'sigillarylaw03.TagParts'. -/
def tagPartsCard : Claim7 := { stood := { row := tagPartsRow, standIns := [], harness := (true, "89ddad88e66e51f11cd17b23c48bc8b8824f8a0bc7498d370eb93fe21ad71202"), looks := true }, kinds := [], alts := [], laidByText := true, laidKinds := [.handle, .data, .sentinel, .sentinel, .sentinel, .sentinel], laidTests := true, laidLooks := .later }
def TagPartsCardSaid : Prop := Claim7.holds Tryd.pinned (.plain (OpenSpec.ofChange tagPartsSpec)) tagPartsCard

/-- THE TIED CARD OF 'sigillarylaw03.TagJoins'. -/
def tagJoinsCard : Claim7 := { stood := { row := tagJoinsRow, standIns := [], harness := (true, "89ddad88e66e51f11cd17b23c48bc8b8824f8a0bc7498d370eb93fe21ad71202"), looks := true }, kinds := [], alts := [], laidByText := true, laidKinds := [.handle, .data, .sentinel, .sentinel, .sentinel, .sentinel], laidTests := true, laidLooks := .later }
def TagJoinsCardSaid : Prop := Claim7.holds Tryd.pinned (.plain (OpenSpec.ofChange tagJoinsSpec)) tagJoinsCard

/-- THE TIED CARD OF 'sigillarylaw03.TagEqual'. -/
def tagEqualCard : Claim7 := { stood := { row := tagEqualRow, standIns := [], harness := (true, "89ddad88e66e51f11cd17b23c48bc8b8824f8a0bc7498d370eb93fe21ad71202"), looks := true }, kinds := [], alts := [], laidByText := true, laidKinds := [.handle, .data, .sentinel, .sentinel, .sentinel, .sentinel], laidTests := true, laidLooks := .later }
def TagEqualCardSaid : Prop := Claim7.holds Tryd.pinned (.plain (OpenSpec.ofChange tagEqualSpec)) tagEqualCard

/-- THE SECOND FORM's CARD OF 'sigillarylaw03.TagTells'. -/
def tagTellsUptoCard : Claim7 := { stood := { row := tagTellsUptoRow, standIns := [], harness := (true, "89ddad88e66e51f11cd17b23c48bc8b8824f8a0bc7498d370eb93fe21ad71202"), looks := true }, kinds := [], alts := [], laidByText := true, laidKinds := [.data, .handle, .data, .sentinel, .sentinel, .sentinel, .sentinel], laidTests := true, laidLooks := .later }
def TagTellsUptoCardSaid : Prop := Claim7.holds Tryd.pinned (.plain (OpenSpec.upto tagTellsSpec)) tagTellsUptoCard

/-- THE SECOND FORM's CARD OF 'sigillarylaw03.TagKeys'. -/
def tagKeysUptoCard : Claim7 := { stood := { row := tagKeysUptoRow, standIns := [], harness := (true, "89ddad88e66e51f11cd17b23c48bc8b8824f8a0bc7498d370eb93fe21ad71202"), looks := true }, kinds := [], alts := [], laidByText := true, laidKinds := [.handle, .data, .sentinel, .sentinel, .sentinel, .sentinel], laidTests := true, laidLooks := .later }
def TagKeysUptoCardSaid : Prop := Claim7.holds Tryd.pinned (.plain (OpenSpec.upto tagKeysSpec)) tagKeysUptoCard

/-- THE SECOND FORM's CARD OF 'sigillarylaw03.TagBack'. -/
def tagBackUptoCard : Claim7 := { stood := { row := tagBackUptoRow, standIns := [], harness := (true, "89ddad88e66e51f11cd17b23c48bc8b8824f8a0bc7498d370eb93fe21ad71202"), looks := true }, kinds := [], alts := [], laidByText := true, laidKinds := [.handle, .data, .sentinel, .sentinel, .sentinel, .sentinel], laidTests := true, laidLooks := .later }
def TagBackUptoCardSaid : Prop := Claim7.holds Tryd.pinned (.plain (OpenSpec.upto tagBackSpec)) tagBackUptoCard

/-- THE SECOND FORM's CARD OF 'sigillarylaw03.TagEnds'. -/
def tagEndsUptoCard : Claim7 := { stood := { row := tagEndsUptoRow, standIns := [], harness := (true, "89ddad88e66e51f11cd17b23c48bc8b8824f8a0bc7498d370eb93fe21ad71202"), looks := true }, kinds := [], alts := [], laidByText := true, laidKinds := [.handle, .data, .sentinel, .sentinel, .sentinel, .sentinel], laidTests := true, laidLooks := .later }
def TagEndsUptoCardSaid : Prop := Claim7.holds Tryd.pinned (.plain (OpenSpec.upto tagEndsSpec)) tagEndsUptoCard

/-- THE SECOND FORM's CARD OF 'sigillarylaw03.TagParts'. -/
def tagPartsUptoCard : Claim7 := { stood := { row := tagPartsUptoRow, standIns := [], harness := (true, "89ddad88e66e51f11cd17b23c48bc8b8824f8a0bc7498d370eb93fe21ad71202"), looks := true }, kinds := [], alts := [], laidByText := true, laidKinds := [.handle, .data, .sentinel, .sentinel, .sentinel, .sentinel], laidTests := true, laidLooks := .later }
def TagPartsUptoCardSaid : Prop := Claim7.holds Tryd.pinned (.plain (OpenSpec.upto tagPartsSpec)) tagPartsUptoCard

/-- THE SECOND FORM's CARD OF 'sigillarylaw03.TagJoins'. -/
def tagJoinsUptoCard : Claim7 := { stood := { row := tagJoinsUptoRow, standIns := [], harness := (true, "89ddad88e66e51f11cd17b23c48bc8b8824f8a0bc7498d370eb93fe21ad71202"), looks := true }, kinds := [], alts := [], laidByText := true, laidKinds := [.handle, .data, .sentinel, .sentinel, .sentinel, .sentinel], laidTests := true, laidLooks := .later }
def TagJoinsUptoCardSaid : Prop := Claim7.holds Tryd.pinned (.plain (OpenSpec.upto tagJoinsSpec)) tagJoinsUptoCard

/-- THE SECOND FORM's CARD OF 'sigillarylaw03.TagEqual'. -/
def tagEqualUptoCard : Claim7 := { stood := { row := tagEqualUptoRow, standIns := [], harness := (true, "89ddad88e66e51f11cd17b23c48bc8b8824f8a0bc7498d370eb93fe21ad71202"), looks := true }, kinds := [], alts := [], laidByText := true, laidKinds := [.handle, .data, .sentinel, .sentinel, .sentinel, .sentinel], laidTests := true, laidLooks := .later }
def TagEqualUptoCardSaid : Prop := Claim7.holds Tryd.pinned (.plain (OpenSpec.upto tagEqualSpec)) tagEqualUptoCard
end Rows
end Go.Proofs.YthojdcmkajmdjaaDoor
