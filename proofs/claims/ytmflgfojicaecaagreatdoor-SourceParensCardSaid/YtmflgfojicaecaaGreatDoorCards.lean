/-
  DERIVED. GIVEN WITH THE SEED: THE CARDS: each row of YtmflgfojicaecaaGreatDoorRows.lean that lists a variable, with what it lists TIED to the program's text (the seventh form; the later family's looks); each row that meets fmt, with fmt's text TOLD by the authors' own Lean function (tested against real Go, not proved from fmt's source: count such statements apart). THE CARD IS WHAT COUNTS. Prove the row's statement (the work); the ties are given (YtmflgfojicaecaaGreatDoorTie.lean); close each card by the builder's one call (the guide's Derived/Test/ToyasCard.lean, 'card_holds'). Laid BY PROGRAM, IN A SANDBOX (cutbox-door.mjs). By AI agents, Wed Nov 11 2026. No macro, syntax, notation, axiom, sorry.
-/
import Derived.Test.YtmflgfojicaecaaGreatDoorRows
import GoSem.ClaimSeven
namespace Go.Proofs.YtmflgfojicaecaaGreatDoor
namespace Rows

/-- THE TIED CARD OF 'testgatelaw05.SourceFormats'. -/
def sourceFormatsCard : Claim7 := { stood := { row := sourceFormatsRow, standIns := [], harness := (true, "6b8fff813ddd3716bc674f0036e87dc6b974e5fa2c9506ca213b17e6fca636b5"), looks := true }, kinds := [], alts := [], laidByText := true, laidKinds := [.data, .data, .data, .data, .data, .pinned], laidTests := true, laidLooks := .later }
def SourceFormatsCardSaid : Prop := Claim7.holds Tryz.pinned (.plain (OpenSpec.ofChange sourceFormatsSpec)) sourceFormatsCard

/-- THE TIED CARD OF 'testgatelaw05.SourceRaw'. -/
def sourceRawCard : Claim7 := { stood := { row := sourceRawRow, standIns := [], harness := (true, "6b8fff813ddd3716bc674f0036e87dc6b974e5fa2c9506ca213b17e6fca636b5"), looks := true }, kinds := [], alts := [], laidByText := true, laidKinds := [.data, .data, .data, .data, .data, .pinned], laidTests := true, laidLooks := .later }
def SourceRawCardSaid : Prop := Claim7.holds Tryz.pinned (.plain (OpenSpec.ofChange sourceRawSpec)) sourceRawCard

/-- THE TIED CARD OF 'testgatelaw05.SourceBack'. -/
def sourceBackCard : Claim7 := { stood := { row := sourceBackRow, standIns := [], harness := (true, "6b8fff813ddd3716bc674f0036e87dc6b974e5fa2c9506ca213b17e6fca636b5"), looks := true }, kinds := [], alts := [], laidByText := true, laidKinds := [.data, .data, .data, .data, .data, .pinned], laidTests := true, laidLooks := .later }
def SourceBackCardSaid : Prop := Claim7.holds Tryz.pinned (.plain (OpenSpec.ofChange sourceBackSpec)) sourceBackCard

/-- THE TIED CARD OF 'testgatelaw05.SourceParens'. -/
def sourceParensCard : Claim7 := { stood := { row := sourceParensRow, standIns := [], harness := (true, "6b8fff813ddd3716bc674f0036e87dc6b974e5fa2c9506ca213b17e6fca636b5"), looks := true }, kinds := [], alts := [], laidByText := true, laidKinds := [.data, .data, .data, .data, .data, .pinned], laidTests := true, laidLooks := .later }
def SourceParensCardSaid : Prop := Claim7.holds Tryz.pinned (.plain (OpenSpec.ofChange sourceParensSpec)) sourceParensCard

/-- THE TIED CARD OF 'testgatelaw05.SourceDeep'. -/
def sourceDeepCard : Claim7 := { stood := { row := sourceDeepRow, standIns := [], harness := (true, "6b8fff813ddd3716bc674f0036e87dc6b974e5fa2c9506ca213b17e6fca636b5"), looks := true }, kinds := [], alts := [], laidByText := true, laidKinds := [.data, .data, .data, .data, .data, .pinned], laidTests := true, laidLooks := .later }
def SourceDeepCardSaid : Prop := Claim7.holds Tryz.pinned (.plain (OpenSpec.ofChange sourceDeepSpec)) sourceDeepCard

/-- THE SECOND FORM's CARD OF 'testgatelaw05.SourceFormats'. -/
def sourceFormatsUptoCard : Claim7 := { stood := { row := sourceFormatsUptoRow, standIns := [], harness := (true, "6b8fff813ddd3716bc674f0036e87dc6b974e5fa2c9506ca213b17e6fca636b5"), looks := true }, kinds := [], alts := [], laidByText := true, laidKinds := [.data, .data, .data, .data, .data, .pinned], laidTests := true, laidLooks := .later }
def SourceFormatsUptoCardSaid : Prop := Claim7.holds Tryz.pinned (.plain (OpenSpec.upto sourceFormatsSpec)) sourceFormatsUptoCard

/-- THE SECOND FORM's CARD OF 'testgatelaw05.SourceRaw'. -/
def sourceRawUptoCard : Claim7 := { stood := { row := sourceRawUptoRow, standIns := [], harness := (true, "6b8fff813ddd3716bc674f0036e87dc6b974e5fa2c9506ca213b17e6fca636b5"), looks := true }, kinds := [], alts := [], laidByText := true, laidKinds := [.data, .data, .data, .data, .data, .pinned], laidTests := true, laidLooks := .later }
def SourceRawUptoCardSaid : Prop := Claim7.holds Tryz.pinned (.plain (OpenSpec.upto sourceRawSpec)) sourceRawUptoCard

/-- THE SECOND FORM's CARD OF 'testgatelaw05.SourceBack'. -/
def sourceBackUptoCard : Claim7 := { stood := { row := sourceBackUptoRow, standIns := [], harness := (true, "6b8fff813ddd3716bc674f0036e87dc6b974e5fa2c9506ca213b17e6fca636b5"), looks := true }, kinds := [], alts := [], laidByText := true, laidKinds := [.data, .data, .data, .data, .data, .pinned], laidTests := true, laidLooks := .later }
def SourceBackUptoCardSaid : Prop := Claim7.holds Tryz.pinned (.plain (OpenSpec.upto sourceBackSpec)) sourceBackUptoCard

/-- THE SECOND FORM's CARD OF 'testgatelaw05.SourceParens'. -/
def sourceParensUptoCard : Claim7 := { stood := { row := sourceParensUptoRow, standIns := [], harness := (true, "6b8fff813ddd3716bc674f0036e87dc6b974e5fa2c9506ca213b17e6fca636b5"), looks := true }, kinds := [], alts := [], laidByText := true, laidKinds := [.data, .data, .data, .data, .data, .pinned], laidTests := true, laidLooks := .later }
def SourceParensUptoCardSaid : Prop := Claim7.holds Tryz.pinned (.plain (OpenSpec.upto sourceParensSpec)) sourceParensUptoCard

/-- THE SECOND FORM's CARD OF 'testgatelaw05.SourceDeep'. -/
def sourceDeepUptoCard : Claim7 := { stood := { row := sourceDeepUptoRow, standIns := [], harness := (true, "6b8fff813ddd3716bc674f0036e87dc6b974e5fa2c9506ca213b17e6fca636b5"), looks := true }, kinds := [], alts := [], laidByText := true, laidKinds := [.data, .data, .data, .data, .data, .pinned], laidTests := true, laidLooks := .later }
def SourceDeepUptoCardSaid : Prop := Claim7.holds Tryz.pinned (.plain (OpenSpec.upto sourceDeepSpec)) sourceDeepUptoCard
end Rows
end Go.Proofs.YtmflgfojicaecaaGreatDoor
