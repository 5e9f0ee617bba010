/-
  DERIVED. GIVEN WITH THE SEED: THE CARDS: each row of YtfcpfmjoelhlnaaDoorRows.lean that lists a variable, with what it lists TIED to the program's text (the seventh form; the later family's looks); each row that meets fmt, with fmt's text TOLD by the authors' own Lean function (tested against real Go, not proved from fmt's source: count such statements apart). THE CARD IS WHAT COUNTS. Prove the row's statement (the work); the ties are given (YtfcpfmjoelhlnaaDoorTie.lean); close each card by the builder's one call (the guide's Derived/Test/ToyasCard.lean, 'card_holds'). Laid BY PROGRAM, IN A SANDBOX (cutbox-door.mjs). By AI agents, Wed Nov 11 2026. No macro, syntax, notation, axiom, sorry.
-/
import Derived.Test.YtfcpfmjoelhlnaaDoorRows
import GoSem.ClaimSeven
namespace Go.Proofs.YtfcpfmjoelhlnaaDoor
namespace Rows

/-- THE TIED CARD OF 'testgatelaw01.NaturalComputes'. -/
def naturalComputesCard : Claim7 := { stood := { row := naturalComputesRow, standIns := [], harness := (true, "35b1c0ed78380b453b492617fdf5d75b54802638c99df4aefe86aa85acd2f781"), looks := false }, kinds := [], alts := [], laidByText := true, laidKinds := [.data, .data, .data, .data, .pinned], laidTests := true, laidLooks := .later }
def NaturalComputesCardSaid : Prop := Claim7.holds Tryd.pinned (.plain (OpenSpec.ofChange naturalComputesSpec)) naturalComputesCard

/-- THE TIED CARD OF 'testgatelaw01.NaturalTexts'. -/
def naturalTextsCard : Claim7 := { stood := { row := naturalTextsRow, standIns := [], harness := (true, "35b1c0ed78380b453b492617fdf5d75b54802638c99df4aefe86aa85acd2f781"), looks := false }, kinds := [], alts := [], laidByText := true, laidKinds := [.data, .data, .data, .data, .pinned], laidTests := true, laidLooks := .later }
def NaturalTextsCardSaid : Prop := Claim7.holds Tryd.pinned (.plain (OpenSpec.ofChange naturalTextsSpec)) naturalTextsCard

/-- THE TIED CARD OF 'testgatelaw01.NaturalLaws'. -/
def naturalLawsCard : Claim7 := { stood := { row := naturalLawsRow, standIns := [], harness := (true, "35b1c0ed78380b453b492617fdf5d75b54802638c99df4aefe86aa85acd2f781"), looks := false }, kinds := [], alts := [], laidByText := true, laidKinds := [.data, .data, .data, .data, .pinned], laidTests := true, laidLooks := .later }
def NaturalLawsCardSaid : Prop := Claim7.holds Tryd.pinned (.plain (OpenSpec.ofChange naturalLawsSpec)) naturalLawsCard

/-- THE TIED CARD OF 'testgatelaw02.FractionBig'. -/
def fractionBigCard : Claim7 := { stood := { row := fractionBigRow, standIns := [], harness := (true, "35b1c0ed78380b453b492617fdf5d75b54802638c99df4aefe86aa85acd2f781"), looks := false }, kinds := [], alts := [], laidByText := true, laidKinds := [.data, .data, .data, .data, .pinned], laidTests := true, laidLooks := .later }
def FractionBigCardSaid : Prop := Claim7.holds Tryd.pinned (.plain (OpenSpec.ofChange fractionBigSpec)) fractionBigCard

/-- THE SECOND FORM's CARD OF 'testgatelaw01.NaturalComputes'. -/
def naturalComputesUptoCard : Claim7 := { stood := { row := naturalComputesUptoRow, standIns := [], harness := (true, "35b1c0ed78380b453b492617fdf5d75b54802638c99df4aefe86aa85acd2f781"), looks := false }, kinds := [], alts := [], laidByText := true, laidKinds := [.data, .data, .data, .data, .pinned], laidTests := true, laidLooks := .later }
def NaturalComputesUptoCardSaid : Prop := Claim7.holds Tryd.pinned (.plain (OpenSpec.upto naturalComputesSpec)) naturalComputesUptoCard

/-- THE SECOND FORM's CARD OF 'testgatelaw01.NaturalTexts'. -/
def naturalTextsUptoCard : Claim7 := { stood := { row := naturalTextsUptoRow, standIns := [], harness := (true, "35b1c0ed78380b453b492617fdf5d75b54802638c99df4aefe86aa85acd2f781"), looks := false }, kinds := [], alts := [], laidByText := true, laidKinds := [.data, .data, .data, .data, .pinned], laidTests := true, laidLooks := .later }
def NaturalTextsUptoCardSaid : Prop := Claim7.holds Tryd.pinned (.plain (OpenSpec.upto naturalTextsSpec)) naturalTextsUptoCard

/-- THE SECOND FORM's CARD OF 'testgatelaw01.NaturalLaws'. -/
def naturalLawsUptoCard : Claim7 := { stood := { row := naturalLawsUptoRow, standIns := [], harness := (true, "35b1c0ed78380b453b492617fdf5d75b54802638c99df4aefe86aa85acd2f781"), looks := false }, kinds := [], alts := [], laidByText := true, laidKinds := [.data, .data, .data, .data, .pinned], laidTests := true, laidLooks := .later }
def NaturalLawsUptoCardSaid : Prop := Claim7.holds Tryd.pinned (.plain (OpenSpec.upto naturalLawsSpec)) naturalLawsUptoCard

/-- THE SECOND FORM's CARD OF 'testgatelaw02.FractionBig'. -/
def fractionBigUptoCard : Claim7 := { stood := { row := fractionBigUptoRow, standIns := [], harness := (true, "35b1c0ed78380b453b492617fdf5d75b54802638c99df4aefe86aa85acd2f781"), looks := false }, kinds := [], alts := [], laidByText := true, laidKinds := [.data, .data, .data, .data, .pinned], laidTests := true, laidLooks := .later }
def FractionBigUptoCardSaid : Prop := Claim7.holds Tryd.pinned (.plain (OpenSpec.upto fractionBigSpec)) fractionBigUptoCard
end Rows
end Go.Proofs.YtfcpfmjoelhlnaaDoor
