/-
  DERIVED. GIVEN WITH THE SEED: THE CARDS: each row of YtohekmioeifpfaaDoorRows.lean that lists a variable, with what it lists TIED to the program's text (the seventh form; the later family's looks); each row that meets fmt, with fmt's text TOLD by the authors' own Lean function (tested against real Go, not proved from fmt's source: count such statements apart). THE CARD IS WHAT COUNTS. Prove the row's statement (the work); the ties are given (YtohekmioeifpfaaDoorTie.lean); close each card by the builder's one call (the guide's Derived/Test/ToyasCard.lean, 'card_holds'). Laid BY PROGRAM, IN A SANDBOX (cutbox-door.mjs). By AI agents, Wed Nov 11 2026. No macro, syntax, notation, axiom, sorry.
-/
import Derived.Test.YtohekmioeifpfaaDoorRows
import GoSem.ClaimSeven
namespace Go.Proofs.YtohekmioeifpfaaDoor
namespace Rows

/-- THE TIED CARD OF 'sigillarylaw01.RoundsTells'. -/
def roundsTellsCard : Claim7 := { stood := { row := roundsTellsRow, standIns := [], harness := (true, "25806d9851b4bbeecd05531a02d8fe6605b0ab63ce0b97e39bce72cfa1ff340b"), looks := true }, kinds := [], alts := [], laidByText := true, laidKinds := [.data, .data, .sentinel, .sentinel], laidTests := true, laidLooks := .later }
def RoundsTellsCardSaid : Prop := Claim7.holds Tryd.pinned (.plain (OpenSpec.ofChange roundsTellsSpec)) roundsTellsCard

/-- THE TIED CARD OF 'sigillarylaw01.RoundsParts'. -/
def roundsPartsCard : Claim7 := { stood := { row := roundsPartsRow, standIns := [], harness := (true, "25806d9851b4bbeecd05531a02d8fe6605b0ab63ce0b97e39bce72cfa1ff340b"), looks := true }, kinds := [], alts := [], laidByText := true, laidKinds := [.data, .sentinel, .sentinel], laidTests := true, laidLooks := .later }
def RoundsPartsCardSaid : Prop := Claim7.holds Tryd.pinned (.plain (OpenSpec.ofChange roundsPartsSpec)) roundsPartsCard

/-- THE TIED CARD OF 'sigillarylaw01.RoundsWords'. -/
def roundsWordsCard : Claim7 := { stood := { row := roundsWordsRow, standIns := [], harness := (true, "25806d9851b4bbeecd05531a02d8fe6605b0ab63ce0b97e39bce72cfa1ff340b"), looks := true }, kinds := [], alts := [], laidByText := true, laidKinds := [.data, .sentinel, .sentinel], laidTests := true, laidLooks := .later }
def RoundsWordsCardSaid : Prop := Claim7.holds Tryd.pinned (.plain (OpenSpec.ofChange roundsWordsSpec)) roundsWordsCard

/-- THE TIED CARD OF 'sigillarylaw01.RoundsBack'. -/
def roundsBackCard : Claim7 := { stood := { row := roundsBackRow, standIns := [], harness := (true, "25806d9851b4bbeecd05531a02d8fe6605b0ab63ce0b97e39bce72cfa1ff340b"), looks := true }, kinds := [], alts := [], laidByText := true, laidKinds := [.data, .sentinel, .sentinel], laidTests := true, laidLooks := .later }
def RoundsBackCardSaid : Prop := Claim7.holds Tryd.pinned (.plain (OpenSpec.ofChange roundsBackSpec)) roundsBackCard

/-- THE TIED CARD OF 'sigillarylaw01.RoundsWhole'. -/
def roundsWholeCard : Claim7 := { stood := { row := roundsWholeRow, standIns := [], harness := (true, "25806d9851b4bbeecd05531a02d8fe6605b0ab63ce0b97e39bce72cfa1ff340b"), looks := true }, kinds := [], alts := [], laidByText := true, laidKinds := [.data, .sentinel, .sentinel], laidTests := true, laidLooks := .later }
def RoundsWholeCardSaid : Prop := Claim7.holds Tryd.pinned (.plain (OpenSpec.ofChange roundsWholeSpec)) roundsWholeCard

/-- THE TIED CARD OF 'sigillarylaw01.RoundsApart'. -/
def roundsApartCard : Claim7 := { stood := { row := roundsApartRow, standIns := [], harness := (true, "25806d9851b4bbeecd05531a02d8fe6605b0ab63ce0b97e39bce72cfa1ff340b"), looks := true }, kinds := [], alts := [], laidByText := true, laidKinds := [.data, .sentinel, .sentinel], laidTests := true, laidLooks := .later }
def RoundsApartCardSaid : Prop := Claim7.holds Tryd.pinned (.plain (OpenSpec.ofChange roundsApartSpec)) roundsApartCard

/-- THE SECOND FORM's CARD OF 'sigillarylaw01.RoundsTells'. -/
def roundsTellsUptoCard : Claim7 := { stood := { row := roundsTellsUptoRow, standIns := [], harness := (true, "25806d9851b4bbeecd05531a02d8fe6605b0ab63ce0b97e39bce72cfa1ff340b"), looks := true }, kinds := [], alts := [], laidByText := true, laidKinds := [.data, .data, .sentinel, .sentinel], laidTests := true, laidLooks := .later }
def RoundsTellsUptoCardSaid : Prop := Claim7.holds Tryd.pinned (.plain (OpenSpec.upto roundsTellsSpec)) roundsTellsUptoCard

/-- THE SECOND FORM's CARD OF 'sigillarylaw01.RoundsParts'. -/
def roundsPartsUptoCard : Claim7 := { stood := { row := roundsPartsUptoRow, standIns := [], harness := (true, "25806d9851b4bbeecd05531a02d8fe6605b0ab63ce0b97e39bce72cfa1ff340b"), looks := true }, kinds := [], alts := [], laidByText := true, laidKinds := [.data, .sentinel, .sentinel], laidTests := true, laidLooks := .later }
def RoundsPartsUptoCardSaid : Prop := Claim7.holds Tryd.pinned (.plain (OpenSpec.upto roundsPartsSpec)) roundsPartsUptoCard

/-- THE SECOND FORM's CARD OF 'sigillarylaw01.RoundsWords'. -/
def roundsWordsUptoCard : Claim7 := { stood := { row := roundsWordsUptoRow, standIns := [], harness := (true, "25806d9851b4bbeecd05531a02d8fe6605b0ab63ce0b97e39bce72cfa1ff340b"), looks := true }, kinds := [], alts := [], laidByText := true, laidKinds := [.data, .sentinel, .sentinel], laidTests := true, laidLooks := .later }
def RoundsWordsUptoCardSaid : Prop := Claim7.holds Tryd.pinned (.plain (OpenSpec.upto roundsWordsSpec)) roundsWordsUptoCard

/-- THE SECOND FORM's CARD OF 'sigillarylaw01.RoundsBack'. -/
def roundsBackUptoCard : Claim7 := { stood := { row := roundsBackUptoRow, standIns := [], harness := (true, "25806d9851b4bbeecd05531a02d8fe6605b0ab63ce0b97e39bce72cfa1ff340b"), looks := true }, kinds := [], alts := [], laidByText := true, laidKinds := [.data, .sentinel, .sentinel], laidTests := true, laidLooks := .later }
def RoundsBackUptoCardSaid : Prop := Claim7.holds Tryd.pinned (.plain (OpenSpec.upto roundsBackSpec)) roundsBackUptoCard

/-- THE SECOND FORM's CARD OF 'sigillarylaw01.RoundsWhole'. -/
def roundsWholeUptoCard : Claim7 := { stood := { row := roundsWholeUptoRow, standIns := [], harness := (true, "25806d9851b4bbeecd05531a02d8fe6605b0ab63ce0b97e39bce72cfa1ff340b"), looks := true }, kinds := [], alts := [], laidByText := true, laidKinds := [.data, .sentinel, .sentinel], laidTests := true, laidLooks := .later }
def RoundsWholeUptoCardSaid : Prop := Claim7.holds Tryd.pinned (.plain (OpenSpec.upto roundsWholeSpec)) roundsWholeUptoCard

/-- THE SECOND FORM's CARD OF 'sigillarylaw01.RoundsApart'. -/
def roundsApartUptoCard : Claim7 := { stood := { row := roundsApartUptoRow, standIns := [], harness := (true, "25806d9851b4bbeecd05531a02d8fe6605b0ab63ce0b97e39bce72cfa1ff340b"), looks := true }, kinds := [], alts := [], laidByText := true, laidKinds := [.data, .sentinel, .sentinel], laidTests := true, laidLooks := .later }
def RoundsApartUptoCardSaid : Prop := Claim7.holds Tryd.pinned (.plain (OpenSpec.upto roundsApartSpec)) roundsApartUptoCard
end Rows
end Go.Proofs.YtohekmioeifpfaaDoor
