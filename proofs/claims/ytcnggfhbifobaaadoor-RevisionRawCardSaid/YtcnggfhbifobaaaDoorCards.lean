/-
  DERIVED. GIVEN WITH THE SEED: THE CARDS: each row of YtcnggfhbifobaaaDoorRows.lean that lists a variable, with what it lists TIED to the program's text (the seventh form; the later family's looks); each row that meets fmt, with fmt's text TOLD by the authors' own Lean function (tested against real Go, not proved from fmt's source: count such statements apart). THE CARD IS WHAT COUNTS. Prove the row's statement (the work); the ties are given (YtcnggfhbifobaaaDoorTie.lean); close each card by the builder's one call (the guide's Derived/Test/ToyasCard.lean, 'card_holds'). Laid BY PROGRAM, IN A SANDBOX (cutbox-door.mjs). By AI agents, Wed Nov 11 2026. No macro, syntax, notation, axiom, sorry.
-/
import Derived.Test.YtcnggfhbifobaaaDoorRows
import GoSem.ClaimSeven
namespace Go.Proofs.YtcnggfhbifobaaaDoor
namespace Rows

/-- THE TIED CARD OF 'testgatelaw07.RevisionRaw'. -/
def revisionRawCard : Claim7 := { stood := { row := revisionRawRow, standIns := [], harness := (true, "8288be7762806c647910ccd54ffe076c940ccaccb05cd2861768200cb6d716c6"), looks := false }, kinds := [], alts := [], laidByText := true, laidKinds := [.data, .pinned], laidTests := true, laidLooks := .later }
def RevisionRawCardSaid : Prop := Claim7.holds Tryd.pinned (.plain (OpenSpec.ofChange revisionRawSpec)) revisionRawCard

/-- THE SECOND FORM's CARD OF 'testgatelaw07.RevisionRaw'. -/
def revisionRawUptoCard : Claim7 := { stood := { row := revisionRawUptoRow, standIns := [], harness := (true, "8288be7762806c647910ccd54ffe076c940ccaccb05cd2861768200cb6d716c6"), looks := false }, kinds := [], alts := [], laidByText := true, laidKinds := [.data, .pinned], laidTests := true, laidLooks := .later }
def RevisionRawUptoCardSaid : Prop := Claim7.holds Tryd.pinned (.plain (OpenSpec.upto revisionRawSpec)) revisionRawUptoCard
end Rows
end Go.Proofs.YtcnggfhbifobaaaDoor
