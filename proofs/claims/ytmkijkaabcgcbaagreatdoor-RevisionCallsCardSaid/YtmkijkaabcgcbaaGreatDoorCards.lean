/-
  DERIVED. GIVEN WITH THE SEED: THE CARDS: each row of YtmkijkaabcgcbaaGreatDoorRows.lean that lists a variable, with what it lists TIED to the program's text (the seventh form; the later family's looks); each row that meets fmt, with fmt's text TOLD by the authors' own Lean function (tested against real Go, not proved from fmt's source: count such statements apart). THE CARD IS WHAT COUNTS. Prove the row's statement (the work); the ties are given (YtmkijkaabcgcbaaGreatDoorTie.lean); close each card by the builder's one call (the guide's Derived/Test/ToyasCard.lean, 'card_holds'). Laid BY PROGRAM, IN A SANDBOX (cutbox-door.mjs). By AI agents, Wed Nov 11 2026. No macro, syntax, notation, axiom, sorry.
-/
import Derived.Test.YtmkijkaabcgcbaaGreatDoorRows
import GoSem.ClaimSeven
namespace Go.Proofs.YtmkijkaabcgcbaaGreatDoor
namespace Rows

/-- THE TIED CARD OF 'testgatelaw07.RevisionCalls'. -/
def revisionCallsCard : Claim7 := { stood := { row := revisionCallsRow, standIns := [], harness := (true, "942f4518635ecc12cd55af72c85b2274e16fb36ae73cf21dba5b98a8590d5d79"), looks := false }, kinds := [], alts := [], laidByText := true, laidKinds := [.data, .pinned], laidTests := true, laidLooks := .later }
def RevisionCallsCardSaid : Prop := Claim7.holds Tryz.pinned (.plain (OpenSpec.ofChange revisionCallsSpec)) revisionCallsCard

/-- THE TIED CARD OF 'testgatelaw07.RevisionBytes'. -/
def revisionBytesCard : Claim7 := { stood := { row := revisionBytesRow, standIns := [], harness := (true, "942f4518635ecc12cd55af72c85b2274e16fb36ae73cf21dba5b98a8590d5d79"), looks := false }, kinds := [], alts := [], laidByText := true, laidKinds := [.data, .pinned], laidTests := true, laidLooks := .later }
def RevisionBytesCardSaid : Prop := Claim7.holds Tryz.pinned (.plain (OpenSpec.ofChange revisionBytesSpec)) revisionBytesCard

/-- THE TIED CARD OF 'testgatelaw07.RevisionBack'. -/
def revisionBackCard : Claim7 := { stood := { row := revisionBackRow, standIns := [], harness := (true, "942f4518635ecc12cd55af72c85b2274e16fb36ae73cf21dba5b98a8590d5d79"), looks := false }, kinds := [], alts := [], laidByText := true, laidKinds := [.data, .pinned], laidTests := true, laidLooks := .later }
def RevisionBackCardSaid : Prop := Claim7.holds Tryz.pinned (.plain (OpenSpec.ofChange revisionBackSpec)) revisionBackCard

/-- THE TIED CARD OF 'testgatelaw07.RevisionMoves'. -/
def revisionMovesCard : Claim7 := { stood := { row := revisionMovesRow, standIns := [], harness := (true, "942f4518635ecc12cd55af72c85b2274e16fb36ae73cf21dba5b98a8590d5d79"), looks := false }, kinds := [], alts := [], laidByText := true, laidKinds := [.data, .pinned], laidTests := true, laidLooks := .later }
def RevisionMovesCardSaid : Prop := Claim7.holds Tryz.pinned (.plain (OpenSpec.ofChange revisionMovesSpec)) revisionMovesCard

/-- THE SECOND FORM's CARD OF 'testgatelaw07.RevisionCalls'. -/
def revisionCallsUptoCard : Claim7 := { stood := { row := revisionCallsUptoRow, standIns := [], harness := (true, "942f4518635ecc12cd55af72c85b2274e16fb36ae73cf21dba5b98a8590d5d79"), looks := false }, kinds := [], alts := [], laidByText := true, laidKinds := [.data, .pinned], laidTests := true, laidLooks := .later }
def RevisionCallsUptoCardSaid : Prop := Claim7.holds Tryz.pinned (.plain (OpenSpec.upto revisionCallsSpec)) revisionCallsUptoCard

/-- THE SECOND FORM's CARD OF 'testgatelaw07.RevisionBytes'. -/
def revisionBytesUptoCard : Claim7 := { stood := { row := revisionBytesUptoRow, standIns := [], harness := (true, "942f4518635ecc12cd55af72c85b2274e16fb36ae73cf21dba5b98a8590d5d79"), looks := false }, kinds := [], alts := [], laidByText := true, laidKinds := [.data, .pinned], laidTests := true, laidLooks := .later }
def RevisionBytesUptoCardSaid : Prop := Claim7.holds Tryz.pinned (.plain (OpenSpec.upto revisionBytesSpec)) revisionBytesUptoCard

/-- THE SECOND FORM's CARD OF 'testgatelaw07.RevisionBack'. -/
def revisionBackUptoCard : Claim7 := { stood := { row := revisionBackUptoRow, standIns := [], harness := (true, "942f4518635ecc12cd55af72c85b2274e16fb36ae73cf21dba5b98a8590d5d79"), looks := false }, kinds := [], alts := [], laidByText := true, laidKinds := [.data, .pinned], laidTests := true, laidLooks := .later }
def RevisionBackUptoCardSaid : Prop := Claim7.holds Tryz.pinned (.plain (OpenSpec.upto revisionBackSpec)) revisionBackUptoCard

/-- THE SECOND FORM's CARD OF 'testgatelaw07.RevisionMoves'. -/
def revisionMovesUptoCard : Claim7 := { stood := { row := revisionMovesUptoRow, standIns := [], harness := (true, "942f4518635ecc12cd55af72c85b2274e16fb36ae73cf21dba5b98a8590d5d79"), looks := false }, kinds := [], alts := [], laidByText := true, laidKinds := [.data, .pinned], laidTests := true, laidLooks := .later }
def RevisionMovesUptoCardSaid : Prop := Claim7.holds Tryz.pinned (.plain (OpenSpec.upto revisionMovesSpec)) revisionMovesUptoCard
end Rows
end Go.Proofs.YtmkijkaabcgcbaaGreatDoor
