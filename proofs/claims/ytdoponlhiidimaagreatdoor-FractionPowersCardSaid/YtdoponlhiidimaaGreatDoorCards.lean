/-
  DERIVED. GIVEN WITH THE SEED: THE CARDS: each row of YtdoponlhiidimaaGreatDoorRows.lean that lists a variable, with what it lists TIED to the program's text (the seventh form; the later family's looks); each row that meets fmt, with fmt's text TOLD by the authors' own Lean function (tested against real Go, not proved from fmt's source: count such statements apart). THE CARD IS WHAT COUNTS. Prove the row's statement (the work); the ties are given (YtdoponlhiidimaaGreatDoorTie.lean); close each card by the builder's one call (the guide's Derived/Test/ToyasCard.lean, 'card_holds'). Laid BY PROGRAM, IN A SANDBOX (cutbox-door.mjs). By AI agents, Wed Nov 11 2026. No macro, syntax, notation, axiom, sorry.
-/
import Derived.Test.YtdoponlhiidimaaGreatDoorRows
import GoSem.ClaimSeven
namespace Go.Proofs.YtdoponlhiidimaaGreatDoor
namespace Rows

/-- THE TIED CARD OF 'testgatelaw02.FractionPowers'. -/
def fractionPowersCard : Claim7 := { stood := { row := fractionPowersRow, standIns := [], harness := (true, "9d88e35602da7fb031a6440a52b383a579c4277df02fa95e7ee8c252d11c70f2"), looks := false }, kinds := [], alts := [], laidByText := true, laidKinds := [.data, .data, .data, .data, .pinned], laidTests := true, laidLooks := .later }
def FractionPowersCardSaid : Prop := Claim7.holds Tryz.pinned (.plain (OpenSpec.ofChange fractionPowersSpec)) fractionPowersCard

/-- THE SECOND FORM's CARD OF 'testgatelaw02.FractionPowers'. -/
def fractionPowersUptoCard : Claim7 := { stood := { row := fractionPowersUptoRow, standIns := [], harness := (true, "9d88e35602da7fb031a6440a52b383a579c4277df02fa95e7ee8c252d11c70f2"), looks := false }, kinds := [], alts := [], laidByText := true, laidKinds := [.data, .data, .data, .data, .pinned], laidTests := true, laidLooks := .later }
def FractionPowersUptoCardSaid : Prop := Claim7.holds Tryz.pinned (.plain (OpenSpec.upto fractionPowersSpec)) fractionPowersUptoCard
end Rows
end Go.Proofs.YtdoponlhiidimaaGreatDoor
