/-
  DERIVED. GIVEN WITH THE SEED: THE CARDS: each row of YtfobogcccbddbaaGreatDoorRows.lean that lists a variable, with what it lists TIED to the program's text (the seventh form; the later family's looks); each row that meets fmt, with fmt's text TOLD by the authors' own Lean function (tested against real Go, not proved from fmt's source: count such statements apart). THE CARD IS WHAT COUNTS. Prove the row's statement (the work); the ties are given (YtfobogcccbddbaaGreatDoorTie.lean); close each card by the builder's one call (the guide's Derived/Test/ToyasCard.lean, 'card_holds'). Laid BY PROGRAM, IN A SANDBOX (cutbox-door.mjs). By AI agents, Wed Nov 11 2026. No macro, syntax, notation, axiom, sorry.
-/
import Derived.Test.YtfobogcccbddbaaGreatDoorRows
import GoSem.ClaimSeven
namespace Go.Proofs.YtfobogcccbddbaaGreatDoor
namespace Rows

/-- THE TIED CARD OF 'testgatelaw15.FilediffChanges'. -/
def filediffChangesCard : Claim7 := { stood := { row := filediffChangesRow, standIns := [], harness := (true, "5b03edea54ec8785459bc9bd0f81a7bc78f0b2e8e82cb768041ae27e5e2295a0"), looks := false }, kinds := [], alts := [], laidByText := true, laidKinds := [.data, .pinned], laidTests := true, laidLooks := .later }
def FilediffChangesCardSaid : Prop := Claim7.holds Tryz.pinned (.plain (OpenSpec.ofChange filediffChangesSpec)) filediffChangesCard

/-- THE TIED CARD OF 'testgatelaw15.FilediffApplies'. -/
def filediffAppliesCard : Claim7 := { stood := { row := filediffAppliesRow, standIns := [], harness := (true, "5b03edea54ec8785459bc9bd0f81a7bc78f0b2e8e82cb768041ae27e5e2295a0"), looks := false }, kinds := [], alts := [], laidByText := true, laidKinds := [.data, .pinned], laidTests := true, laidLooks := .later }
def FilediffAppliesCardSaid : Prop := Claim7.holds Tryz.pinned (.plain (OpenSpec.ofChange filediffAppliesSpec)) filediffAppliesCard

/-- THE TIED CARD OF 'testgatelaw15.FilediffBack'. -/
def filediffBackCard : Claim7 := { stood := { row := filediffBackRow, standIns := [], harness := (true, "5b03edea54ec8785459bc9bd0f81a7bc78f0b2e8e82cb768041ae27e5e2295a0"), looks := false }, kinds := [], alts := [], laidByText := true, laidKinds := [.data, .pinned], laidTests := true, laidLooks := .later }
def FilediffBackCardSaid : Prop := Claim7.holds Tryz.pinned (.plain (OpenSpec.ofChange filediffBackSpec)) filediffBackCard

/-- THE TIED CARD OF 'testgatelaw15.FilediffOrder'. -/
def filediffOrderCard : Claim7 := { stood := { row := filediffOrderRow, standIns := [], harness := (true, "5b03edea54ec8785459bc9bd0f81a7bc78f0b2e8e82cb768041ae27e5e2295a0"), looks := false }, kinds := [], alts := [], laidByText := true, laidKinds := [.data, .pinned], laidTests := true, laidLooks := .later }
def FilediffOrderCardSaid : Prop := Claim7.holds Tryz.pinned (.plain (OpenSpec.ofChange filediffOrderSpec)) filediffOrderCard

/-- THE TIED CARD OF 'testgatelaw15.FilediffRenames'. -/
def filediffRenamesCard : Claim7 := { stood := { row := filediffRenamesRow, standIns := [], harness := (true, "5b03edea54ec8785459bc9bd0f81a7bc78f0b2e8e82cb768041ae27e5e2295a0"), looks := false }, kinds := [], alts := [], laidByText := true, laidKinds := [.data, .pinned], laidTests := true, laidLooks := .later }
def FilediffRenamesCardSaid : Prop := Claim7.holds Tryz.pinned (.plain (OpenSpec.ofChange filediffRenamesSpec)) filediffRenamesCard

/-- THE SECOND FORM's CARD OF 'testgatelaw15.FilediffChanges'. -/
def filediffChangesUptoCard : Claim7 := { stood := { row := filediffChangesUptoRow, standIns := [], harness := (true, "5b03edea54ec8785459bc9bd0f81a7bc78f0b2e8e82cb768041ae27e5e2295a0"), looks := false }, kinds := [], alts := [], laidByText := true, laidKinds := [.data, .pinned], laidTests := true, laidLooks := .later }
def FilediffChangesUptoCardSaid : Prop := Claim7.holds Tryz.pinned (.plain (OpenSpec.upto filediffChangesSpec)) filediffChangesUptoCard

/-- THE SECOND FORM's CARD OF 'testgatelaw15.FilediffApplies'. -/
def filediffAppliesUptoCard : Claim7 := { stood := { row := filediffAppliesUptoRow, standIns := [], harness := (true, "5b03edea54ec8785459bc9bd0f81a7bc78f0b2e8e82cb768041ae27e5e2295a0"), looks := false }, kinds := [], alts := [], laidByText := true, laidKinds := [.data, .pinned], laidTests := true, laidLooks := .later }
def FilediffAppliesUptoCardSaid : Prop := Claim7.holds Tryz.pinned (.plain (OpenSpec.upto filediffAppliesSpec)) filediffAppliesUptoCard

/-- THE SECOND FORM's CARD OF 'testgatelaw15.FilediffBack'. -/
def filediffBackUptoCard : Claim7 := { stood := { row := filediffBackUptoRow, standIns := [], harness := (true, "5b03edea54ec8785459bc9bd0f81a7bc78f0b2e8e82cb768041ae27e5e2295a0"), looks := false }, kinds := [], alts := [], laidByText := true, laidKinds := [.data, .pinned], laidTests := true, laidLooks := .later }
def FilediffBackUptoCardSaid : Prop := Claim7.holds Tryz.pinned (.plain (OpenSpec.upto filediffBackSpec)) filediffBackUptoCard

/-- THE SECOND FORM's CARD OF 'testgatelaw15.FilediffOrder'. -/
def filediffOrderUptoCard : Claim7 := { stood := { row := filediffOrderUptoRow, standIns := [], harness := (true, "5b03edea54ec8785459bc9bd0f81a7bc78f0b2e8e82cb768041ae27e5e2295a0"), looks := false }, kinds := [], alts := [], laidByText := true, laidKinds := [.data, .pinned], laidTests := true, laidLooks := .later }
def FilediffOrderUptoCardSaid : Prop := Claim7.holds Tryz.pinned (.plain (OpenSpec.upto filediffOrderSpec)) filediffOrderUptoCard

/-- THE SECOND FORM's CARD OF 'testgatelaw15.FilediffRenames'. -/
def filediffRenamesUptoCard : Claim7 := { stood := { row := filediffRenamesUptoRow, standIns := [], harness := (true, "5b03edea54ec8785459bc9bd0f81a7bc78f0b2e8e82cb768041ae27e5e2295a0"), looks := false }, kinds := [], alts := [], laidByText := true, laidKinds := [.data, .pinned], laidTests := true, laidLooks := .later }
def FilediffRenamesUptoCardSaid : Prop := Claim7.holds Tryz.pinned (.plain (OpenSpec.upto filediffRenamesSpec)) filediffRenamesUptoCard
end Rows
end Go.Proofs.YtfobogcccbddbaaGreatDoor
