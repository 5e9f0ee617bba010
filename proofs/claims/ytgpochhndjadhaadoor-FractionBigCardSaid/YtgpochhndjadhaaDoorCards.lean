/-
  DERIVED. GIVEN WITH THE SEED: THE CARDS: each row of YtgpochhndjadhaaDoorRows.lean that lists a variable, with what it lists TIED to the program's text (the seventh form; the later family's looks); each row that meets fmt, with fmt's text TOLD by the authors' own Lean function (tested against real Go, not proved from fmt's source: count such statements apart). THE CARD IS WHAT COUNTS. Prove the row's statement (the work); the ties are given (YtgpochhndjadhaaDoorTie.lean); close each card by the builder's one call (the guide's Derived/Test/ToyasCard.lean, 'card_holds'). Laid BY PROGRAM, IN A SANDBOX (cutbox-door.mjs). By AI agents, Wed Nov 11 2026. No macro, syntax, notation, axiom, sorry.
-/
import Derived.Test.YtgpochhndjadhaaDoorRows
import GoSem.ClaimSeven
namespace Go.Proofs.YtgpochhndjadhaaDoor
namespace Rows

/-- THE TIED CARD OF 'testgatelaw02.FractionBig'. -/
def fractionBigCard : Claim7 := { stood := { row := fractionBigRow, standIns := [], harness := (true, "3f4b420a57d7f19bcc181f8e443fa3b8bf8809888d04a92768e2a2d4707a0979"), looks := false }, kinds := [], alts := [], laidByText := true, laidKinds := [.data, .data, .data, .data, .pinned], laidTests := true, laidLooks := .later }
def FractionBigCardSaid : Prop := Claim7.holds Tryd.pinned (.plain (OpenSpec.ofChange fractionBigSpec)) fractionBigCard

/-- THE SECOND FORM's CARD OF 'testgatelaw02.FractionBig'. -/
def fractionBigUptoCard : Claim7 := { stood := { row := fractionBigUptoRow, standIns := [], harness := (true, "3f4b420a57d7f19bcc181f8e443fa3b8bf8809888d04a92768e2a2d4707a0979"), looks := false }, kinds := [], alts := [], laidByText := true, laidKinds := [.data, .data, .data, .data, .pinned], laidTests := true, laidLooks := .later }
def FractionBigUptoCardSaid : Prop := Claim7.holds Tryd.pinned (.plain (OpenSpec.upto fractionBigSpec)) fractionBigUptoCard
end Rows
end Go.Proofs.YtgpochhndjadhaaDoor
