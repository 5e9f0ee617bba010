/-
  DERIVED. GIVEN WITH THE SEED: THE CARDS: each row of YtpgnckjgclbepaaDoorRows.lean that lists a variable, with what it lists TIED to the program's text (the seventh form; the later family's looks); each row that meets fmt, with fmt's text TOLD by the authors' own Lean function (tested against real Go, not proved from fmt's source: count such statements apart). THE CARD IS WHAT COUNTS. Prove the row's statement (the work); the ties are given (YtpgnckjgclbepaaDoorTie.lean); close each card by the builder's one call (the guide's Derived/Test/ToyasCard.lean, 'card_holds'). Laid BY PROGRAM, IN A SANDBOX (cutbox-door.mjs). By AI agents, Wed Nov 11 2026. No macro, syntax, notation, axiom, sorry.
-/
import Derived.Test.YtpgnckjgclbepaaDoorRows
import GoSem.ClaimSeven
namespace Go.Proofs.YtpgnckjgclbepaaDoor
namespace Rows

/-- THE TIED CARD OF 'testgatelaw12.LevelKeys'. -/
def levelKeysCard : Claim7 := { stood := { row := levelKeysRow, standIns := [], harness := (true, "b4574030233a7c0d2fbd92a8352d1370f36eb1bb56f788568c51b1ef1c981684"), looks := false }, kinds := [], alts := [], laidByText := true, laidKinds := [.data, .data, .pinned], laidTests := true, laidLooks := .later }
def LevelKeysCardSaid : Prop := Claim7.holds Tryd.pinned (.plain (OpenSpec.ofChange levelKeysSpec)) levelKeysCard

/-- THE TIED CARD OF 'testgatelaw12.LevelTwice'. -/
def levelTwiceCard : Claim7 := { stood := { row := levelTwiceRow, standIns := [], harness := (true, "b4574030233a7c0d2fbd92a8352d1370f36eb1bb56f788568c51b1ef1c981684"), looks := false }, kinds := [], alts := [], laidByText := true, laidKinds := [.data, .data, .pinned], laidTests := true, laidLooks := .later }
def LevelTwiceCardSaid : Prop := Claim7.holds Tryd.pinned (.plain (OpenSpec.ofChange levelTwiceSpec)) levelTwiceCard

/-- THE SECOND FORM's CARD OF 'testgatelaw12.LevelKeys'. -/
def levelKeysUptoCard : Claim7 := { stood := { row := levelKeysUptoRow, standIns := [], harness := (true, "b4574030233a7c0d2fbd92a8352d1370f36eb1bb56f788568c51b1ef1c981684"), looks := false }, kinds := [], alts := [], laidByText := true, laidKinds := [.data, .data, .pinned], laidTests := true, laidLooks := .later }
def LevelKeysUptoCardSaid : Prop := Claim7.holds Tryd.pinned (.plain (OpenSpec.upto levelKeysSpec)) levelKeysUptoCard

/-- THE SECOND FORM's CARD OF 'testgatelaw12.LevelTwice'. -/
def levelTwiceUptoCard : Claim7 := { stood := { row := levelTwiceUptoRow, standIns := [], harness := (true, "b4574030233a7c0d2fbd92a8352d1370f36eb1bb56f788568c51b1ef1c981684"), looks := false }, kinds := [], alts := [], laidByText := true, laidKinds := [.data, .data, .pinned], laidTests := true, laidLooks := .later }
def LevelTwiceUptoCardSaid : Prop := Claim7.holds Tryd.pinned (.plain (OpenSpec.upto levelTwiceSpec)) levelTwiceUptoCard
end Rows
end Go.Proofs.YtpgnckjgclbepaaDoor
