/-
  DERIVED. GIVEN WITH THE SEED: THE CARDS: each row of YtabaocikjjfheaaDoorRows.lean that lists a variable, with what it lists TIED to the program's text (the seventh form; the later family's looks); each row that meets fmt, with fmt's text TOLD by the authors' own Lean function (tested against real Go, not proved from fmt's source: count such statements apart). THE CARD IS WHAT COUNTS. Prove the row's statement (the work); the ties are given (YtabaocikjjfheaaDoorTie.lean); close each card by the builder's one call (the guide's Derived/Test/ToyasCard.lean, 'card_holds'). Laid BY PROGRAM, IN A SANDBOX (cutbox-door.mjs). By AI agents, Wed Nov 11 2026. No macro, syntax, notation, axiom, sorry.
-/
import Derived.Test.YtabaocikjjfheaaDoorRows
import GoSem.ClaimSeven
namespace Go.Proofs.YtabaocikjjfheaaDoor
namespace Rows

/-- THE TIED CARD OF 'testgatelaw01.NaturalReads'. -/
def naturalReadsCard : Claim7 := { stood := { row := naturalReadsRow, standIns := [], harness := (true, "0f7913c0c1ae3ad8558f156ae0e28b802df816a0f959c1a9c142115afa6baac0"), looks := false }, kinds := [], alts := [], laidByText := true, laidKinds := [.data, .data, .data, .data, .pinned], laidTests := true, laidLooks := .later }
def NaturalReadsCardSaid : Prop := Claim7.holds Tryd.pinned (.plain (OpenSpec.ofChange naturalReadsSpec)) naturalReadsCard

/-- THE TIED CARD OF 'testgatelaw01.NaturalComputes'. -/
def naturalComputesCard : Claim7 := { stood := { row := naturalComputesRow, standIns := [], harness := (true, "0f7913c0c1ae3ad8558f156ae0e28b802df816a0f959c1a9c142115afa6baac0"), looks := false }, kinds := [], alts := [], laidByText := true, laidKinds := [.data, .data, .data, .data, .pinned], laidTests := true, laidLooks := .later }
def NaturalComputesCardSaid : Prop := Claim7.holds Tryd.pinned (.plain (OpenSpec.ofChange naturalComputesSpec)) naturalComputesCard

/-- THE TIED CARD OF 'testgatelaw01.NaturalPowers'. -/
def naturalPowersCard : Claim7 := { stood := { row := naturalPowersRow, standIns := [], harness := (true, "0f7913c0c1ae3ad8558f156ae0e28b802df816a0f959c1a9c142115afa6baac0"), looks := false }, kinds := [], alts := [], laidByText := true, laidKinds := [.data, .data, .data, .data, .pinned], laidTests := true, laidLooks := .later }
def NaturalPowersCardSaid : Prop := Claim7.holds Tryd.pinned (.plain (OpenSpec.ofChange naturalPowersSpec)) naturalPowersCard

/-- THE TIED CARD OF 'testgatelaw01.NaturalTexts'. -/
def naturalTextsCard : Claim7 := { stood := { row := naturalTextsRow, standIns := [], harness := (true, "0f7913c0c1ae3ad8558f156ae0e28b802df816a0f959c1a9c142115afa6baac0"), looks := false }, kinds := [], alts := [], laidByText := true, laidKinds := [.data, .data, .data, .data, .pinned], laidTests := true, laidLooks := .later }
def NaturalTextsCardSaid : Prop := Claim7.holds Tryd.pinned (.plain (OpenSpec.ofChange naturalTextsSpec)) naturalTextsCard

/-- THE TIED CARD OF 'testgatelaw01.NaturalLaws'. -/
def naturalLawsCard : Claim7 := { stood := { row := naturalLawsRow, standIns := [], harness := (true, "0f7913c0c1ae3ad8558f156ae0e28b802df816a0f959c1a9c142115afa6baac0"), looks := false }, kinds := [], alts := [], laidByText := true, laidKinds := [.data, .data, .data, .data, .pinned], laidTests := true, laidLooks := .later }
def NaturalLawsCardSaid : Prop := Claim7.holds Tryd.pinned (.plain (OpenSpec.ofChange naturalLawsSpec)) naturalLawsCard

/-- THE TIED CARD OF 'testgatelaw01.NaturalBack'. -/
def naturalBackCard : Claim7 := { stood := { row := naturalBackRow, standIns := [], harness := (true, "0f7913c0c1ae3ad8558f156ae0e28b802df816a0f959c1a9c142115afa6baac0"), looks := false }, kinds := [], alts := [], laidByText := true, laidKinds := [.data, .data, .data, .data, .pinned], laidTests := true, laidLooks := .later }
def NaturalBackCardSaid : Prop := Claim7.holds Tryd.pinned (.plain (OpenSpec.ofChange naturalBackSpec)) naturalBackCard

/-- THE SECOND FORM's CARD OF 'testgatelaw01.NaturalReads'. -/
def naturalReadsUptoCard : Claim7 := { stood := { row := naturalReadsUptoRow, standIns := [], harness := (true, "0f7913c0c1ae3ad8558f156ae0e28b802df816a0f959c1a9c142115afa6baac0"), looks := false }, kinds := [], alts := [], laidByText := true, laidKinds := [.data, .data, .data, .data, .pinned], laidTests := true, laidLooks := .later }
def NaturalReadsUptoCardSaid : Prop := Claim7.holds Tryd.pinned (.plain (OpenSpec.upto naturalReadsSpec)) naturalReadsUptoCard

/-- THE SECOND FORM's CARD OF 'testgatelaw01.NaturalComputes'. -/
def naturalComputesUptoCard : Claim7 := { stood := { row := naturalComputesUptoRow, standIns := [], harness := (true, "0f7913c0c1ae3ad8558f156ae0e28b802df816a0f959c1a9c142115afa6baac0"), looks := false }, kinds := [], alts := [], laidByText := true, laidKinds := [.data, .data, .data, .data, .pinned], laidTests := true, laidLooks := .later }
def NaturalComputesUptoCardSaid : Prop := Claim7.holds Tryd.pinned (.plain (OpenSpec.upto naturalComputesSpec)) naturalComputesUptoCard

/-- THE SECOND FORM's CARD OF 'testgatelaw01.NaturalPowers'. -/
def naturalPowersUptoCard : Claim7 := { stood := { row := naturalPowersUptoRow, standIns := [], harness := (true, "0f7913c0c1ae3ad8558f156ae0e28b802df816a0f959c1a9c142115afa6baac0"), looks := false }, kinds := [], alts := [], laidByText := true, laidKinds := [.data, .data, .data, .data, .pinned], laidTests := true, laidLooks := .later }
def NaturalPowersUptoCardSaid : Prop := Claim7.holds Tryd.pinned (.plain (OpenSpec.upto naturalPowersSpec)) naturalPowersUptoCard

/-- THE SECOND FORM's CARD OF 'testgatelaw01.NaturalTexts'. -/
def naturalTextsUptoCard : Claim7 := { stood := { row := naturalTextsUptoRow, standIns := [], harness := (true, "0f7913c0c1ae3ad8558f156ae0e28b802df816a0f959c1a9c142115afa6baac0"), looks := false }, kinds := [], alts := [], laidByText := true, laidKinds := [.data, .data, .data, .data, .pinned], laidTests := true, laidLooks := .later }
def NaturalTextsUptoCardSaid : Prop := Claim7.holds Tryd.pinned (.plain (OpenSpec.upto naturalTextsSpec)) naturalTextsUptoCard

/-- THE SECOND FORM's CARD OF 'testgatelaw01.NaturalLaws'. -/
def naturalLawsUptoCard : Claim7 := { stood := { row := naturalLawsUptoRow, standIns := [], harness := (true, "0f7913c0c1ae3ad8558f156ae0e28b802df816a0f959c1a9c142115afa6baac0"), looks := false }, kinds := [], alts := [], laidByText := true, laidKinds := [.data, .data, .data, .data, .pinned], laidTests := true, laidLooks := .later }
def NaturalLawsUptoCardSaid : Prop := Claim7.holds Tryd.pinned (.plain (OpenSpec.upto naturalLawsSpec)) naturalLawsUptoCard

/-- THE SECOND FORM's CARD OF 'testgatelaw01.NaturalBack'. -/
def naturalBackUptoCard : Claim7 := { stood := { row := naturalBackUptoRow, standIns := [], harness := (true, "0f7913c0c1ae3ad8558f156ae0e28b802df816a0f959c1a9c142115afa6baac0"), looks := false }, kinds := [], alts := [], laidByText := true, laidKinds := [.data, .data, .data, .data, .pinned], laidTests := true, laidLooks := .later }
def NaturalBackUptoCardSaid : Prop := Claim7.holds Tryd.pinned (.plain (OpenSpec.upto naturalBackSpec)) naturalBackUptoCard
end Rows
end Go.Proofs.YtabaocikjjfheaaDoor
