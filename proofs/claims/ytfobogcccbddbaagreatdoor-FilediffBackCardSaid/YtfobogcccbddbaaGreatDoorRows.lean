/-
  NARROWER THAN 'FOR EVERY INPUT', by the rows' own cells (each row's printed sentence says how): FilediffChanges: laid · FilediffApplies: laid · FilediffBack: laid · FilediffOrder: laid · FilediffRenames: laid.
  DERIVED. THE GIVEN ROWS OF THIS SEAT. 5 by the template 'for every input the law returns true; each argument reads behind the call as it read before'; 0 by the template 'total and deterministic' (their statements: YtfobogcccbddbaaGreatDoorTotals.lean).
  GIVEN WITH THE SEED: the statements are not yours to turn. If you find one false, say at which input.
  Laid BY PROGRAM, IN A SANDBOX (cutbox-rows.mjs): the forced cells as the released guide's own fill.sh prints them over the translation 91dd1c5ea434cb95… (all of the seat's roots in one cut). By AI agents, Wed Nov 11 2026. No macro, syntax, notation, axiom, sorry.
-/
import Derived.Test.YtfobogcccbddbaaGreatDoorChecked
import GoSem.PinnedTables
import GoSem.Claim
import GoSem.ClaimJoined
import GoSem.ClaimMapViews
import Derived.JoinedTies
import Derived.KernelRfl
namespace Go.Proofs.YtfobogcccbddbaaGreatDoor
/- THE CELL 'sum', in the pinned program and in every row, IS THE sha256 OF THE DUMP (.gsa) THAT YtfobogcccbddbaaGreatDoorProg.lean LOADS. Nothing in Lean hashes anything: it is a label: what it is worth is what the hold of that sum in a sandbox is worth. -/
noncomputable def Tryz.pinned : Pinned := { name := "ytfobogcccbddbaagreatdoor", sum := "91dd1c5ea434cb95f91f6d0a3810f9d6bcc057ab0da42e337020c3629f496a13", checked := Tryz.checked }
namespace Rows
def none {H : Type} : Left H := { results := [], args := [] }

/- WHAT THE LISTED PACKAGE-LEVEL VARIABLES READ AS WHEN THE CALL BEGINS. Each datum BY PROGRAM (the guide's laid-datum.mjs) off the statement by which the dump's own 'gosem.cut.vars' lays the variable. In a bare row this is a premise. The card (YtfobogcccbddbaaGreatDoorCards.lean) ties it to the program's text. -/
def laid_unicode_utf8_acceptRanges {H : Type} : DataW H := .agg [.agg [.lit (.int .u8 128), .lit (.int .u8 191)], .agg [.lit (.int .u8 160), .lit (.int .u8 191)], .agg [.lit (.int .u8 128), .lit (.int .u8 159)], .agg [.lit (.int .u8 144), .lit (.int .u8 191)], .agg [.lit (.int .u8 128), .lit (.int .u8 143)], .agg [.lit (.int .u8 0), .lit (.int .u8 0)], .agg [.lit (.int .u8 0), .lit (.int .u8 0)], .agg [.lit (.int .u8 0), .lit (.int .u8 0)], .agg [.lit (.int .u8 0), .lit (.int .u8 0)], .agg [.lit (.int .u8 0), .lit (.int .u8 0)], .agg [.lit (.int .u8 0), .lit (.int .u8 0)], .agg [.lit (.int .u8 0), .lit (.int .u8 0)], .agg [.lit (.int .u8 0), .lit (.int .u8 0)], .agg [.lit (.int .u8 0), .lit (.int .u8 0)], .agg [.lit (.int .u8 0), .lit (.int .u8 0)], .agg [.lit (.int .u8 0), .lit (.int .u8 0)]]
/-- One of Go's own tables, pinned by name: the form's constant. -/
def laid_unicode_utf8_first : DataW Unit := Go.Pinned.utf8First

/-- 'testgatelaw15.FilediffChanges': WHATEVER THE INPUT: true; the input reads as it did. -/
def filediffChangesSpec : ChangeSpec := { name := "filediffChanges", fn := fun _ => fun
  | [d1, d2] => { results := [.lit (.bool true)], args := [d1, d2] }
  | _ => none }
def filediffChangesRow : OpenClaim := { program := "ytfobogcccbddbaagreatdoor", sum := "91dd1c5ea434cb95f91f6d0a3810f9d6bcc057ab0da42e337020c3629f496a13", func := "testgate/testgatelaw15.FilediffChanges", spec := "filediffChanges", inPlace := ["internal/bytealg.CountString", "internal/bytealg.IndexByteString", "internal/bytealg.IndexString", "internal/bytealg.abigen_runtime_cmpstring"], unfollowed := true, recurses := true, named := ["unicode/utf8.first", "unicode/utf8.acceptRanges", "internal/bytealg.MaxLen"], apart := false, laid := [("unicode/utf8.acceptRanges", laid_unicode_utf8_acceptRanges), ("unicode/utf8.first", laid_unicode_utf8_first)] }
def FilediffChangesSaid : Prop := filediffChangesRow.holds Tryz.pinned (OpenSpec.ofChange filediffChangesSpec)

/-- ITS FALSE NEIGHBOUR: 'it returns false'. Refute it at one input. -/
def filediffChangesWrong : ChangeSpec := { name := "filediffChanges", fn := fun _ => fun
  | [d1, d2] => { results := [.lit (.bool false)], args := [d1, d2] }
  | _ => none }
def FilediffChangesWrongFalsely : Prop := filediffChangesRow.holds Tryz.pinned (OpenSpec.ofChange filediffChangesWrong)

/-- 'testgatelaw15.FilediffApplies': WHATEVER THE INPUT: true; the input reads as it did. -/
def filediffAppliesSpec : ChangeSpec := { name := "filediffApplies", fn := fun _ => fun
  | [d1, d2, d3] => { results := [.lit (.bool true)], args := [d1, d2, d3] }
  | _ => none }
def filediffAppliesRow : OpenClaim := { program := "ytfobogcccbddbaagreatdoor", sum := "91dd1c5ea434cb95f91f6d0a3810f9d6bcc057ab0da42e337020c3629f496a13", func := "testgate/testgatelaw15.FilediffApplies", spec := "filediffApplies", inPlace := ["internal/bytealg.CountString", "internal/bytealg.IndexByteString", "internal/bytealg.IndexString", "internal/bytealg.abigen_runtime_cmpstring"], unfollowed := true, recurses := true, named := ["unicode/utf8.first", "unicode/utf8.acceptRanges", "internal/bytealg.MaxLen"], apart := false, laid := [("unicode/utf8.acceptRanges", laid_unicode_utf8_acceptRanges), ("unicode/utf8.first", laid_unicode_utf8_first)] }
def FilediffAppliesSaid : Prop := filediffAppliesRow.holds Tryz.pinned (OpenSpec.ofChange filediffAppliesSpec)

/-- ITS FALSE NEIGHBOUR: 'it returns false'. Refute it at one input. -/
def filediffAppliesWrong : ChangeSpec := { name := "filediffApplies", fn := fun _ => fun
  | [d1, d2, d3] => { results := [.lit (.bool false)], args := [d1, d2, d3] }
  | _ => none }
def FilediffAppliesWrongFalsely : Prop := filediffAppliesRow.holds Tryz.pinned (OpenSpec.ofChange filediffAppliesWrong)

/-- 'testgatelaw15.FilediffBack': WHATEVER THE INPUT: true; the input reads as it did. -/
def filediffBackSpec : ChangeSpec := { name := "filediffBack", fn := fun _ => fun
  | [d] => { results := [.lit (.bool true)], args := [d] }
  | _ => none }
def filediffBackRow : OpenClaim := { program := "ytfobogcccbddbaagreatdoor", sum := "91dd1c5ea434cb95f91f6d0a3810f9d6bcc057ab0da42e337020c3629f496a13", func := "testgate/testgatelaw15.FilediffBack", spec := "filediffBack", inPlace := ["internal/bytealg.CountString", "internal/bytealg.IndexByteString", "internal/bytealg.IndexString", "internal/bytealg.abigen_runtime_cmpstring"], unfollowed := true, recurses := true, named := ["unicode/utf8.first", "unicode/utf8.acceptRanges", "internal/bytealg.MaxLen"], apart := false, laid := [("unicode/utf8.acceptRanges", laid_unicode_utf8_acceptRanges), ("unicode/utf8.first", laid_unicode_utf8_first)] }
def FilediffBackSaid : Prop := filediffBackRow.holds Tryz.pinned (OpenSpec.ofChange filediffBackSpec)

/-- ITS FALSE NEIGHBOUR: 'it returns false'. Refute it at one input. -/
def filediffBackWrong : ChangeSpec := { name := "filediffBack", fn := fun _ => fun
  | [d] => { results := [.lit (.bool false)], args := [d] }
  | _ => none }
def FilediffBackWrongFalsely : Prop := filediffBackRow.holds Tryz.pinned (OpenSpec.ofChange filediffBackWrong)

/-- 'testgatelaw15.FilediffOrder': WHATEVER THE INPUT: true; the input reads as it did. -/
def filediffOrderSpec : ChangeSpec := { name := "filediffOrder", fn := fun _ => fun
  | [d] => { results := [.lit (.bool true)], args := [d] }
  | _ => none }
def filediffOrderRow : OpenClaim := { program := "ytfobogcccbddbaagreatdoor", sum := "91dd1c5ea434cb95f91f6d0a3810f9d6bcc057ab0da42e337020c3629f496a13", func := "testgate/testgatelaw15.FilediffOrder", spec := "filediffOrder", inPlace := ["internal/bytealg.CountString", "internal/bytealg.IndexByteString", "internal/bytealg.IndexString", "internal/bytealg.abigen_runtime_cmpstring"], unfollowed := true, recurses := true, named := ["unicode/utf8.first", "unicode/utf8.acceptRanges", "internal/bytealg.MaxLen"], apart := false, laid := [("unicode/utf8.acceptRanges", laid_unicode_utf8_acceptRanges), ("unicode/utf8.first", laid_unicode_utf8_first)] }
def FilediffOrderSaid : Prop := filediffOrderRow.holds Tryz.pinned (OpenSpec.ofChange filediffOrderSpec)

/-- ITS FALSE NEIGHBOUR: 'it returns false'. Refute it at one input. -/
def filediffOrderWrong : ChangeSpec := { name := "filediffOrder", fn := fun _ => fun
  | [d] => { results := [.lit (.bool false)], args := [d] }
  | _ => none }
def FilediffOrderWrongFalsely : Prop := filediffOrderRow.holds Tryz.pinned (OpenSpec.ofChange filediffOrderWrong)

/-- 'testgatelaw15.FilediffRenames': WHATEVER THE INPUT: true; the input reads as it did. -/
def filediffRenamesSpec : ChangeSpec := { name := "filediffRenames", fn := fun _ => fun
  | [d] => { results := [.lit (.bool true)], args := [d] }
  | _ => none }
def filediffRenamesRow : OpenClaim := { program := "ytfobogcccbddbaagreatdoor", sum := "91dd1c5ea434cb95f91f6d0a3810f9d6bcc057ab0da42e337020c3629f496a13", func := "testgate/testgatelaw15.FilediffRenames", spec := "filediffRenames", inPlace := ["internal/bytealg.CountString", "internal/bytealg.IndexByteString", "internal/bytealg.IndexString", "internal/bytealg.abigen_runtime_cmpstring"], unfollowed := true, recurses := true, named := ["unicode/utf8.first", "unicode/utf8.acceptRanges", "internal/bytealg.MaxLen"], apart := false, laid := [("unicode/utf8.acceptRanges", laid_unicode_utf8_acceptRanges), ("unicode/utf8.first", laid_unicode_utf8_first)] }
def FilediffRenamesSaid : Prop := filediffRenamesRow.holds Tryz.pinned (OpenSpec.ofChange filediffRenamesSpec)

/-- ITS FALSE NEIGHBOUR: 'it returns false'. Refute it at one input. -/
def filediffRenamesWrong : ChangeSpec := { name := "filediffRenames", fn := fun _ => fun
  | [d] => { results := [.lit (.bool false)], args := [d] }
  | _ => none }
def FilediffRenamesWrongFalsely : Prop := filediffRenamesRow.holds Tryz.pinned (OpenSpec.ofChange filediffRenamesWrong)

/- THE SECOND FORM. 'bulk': how many values and letters a reading holds, each counted each time it is reached (what is shared counts as often as it is met; a slice's spare places count too). A statement '..UptoSaid' is the law's where the arguments, and the package variables that the reading takes, are together of bulk at most 1048576: NARROWER than '..Said'. Prove '..Said' where nothing that the law and all that it calls make is longer than what came in: it says more and counts as full. Else prove '..UptoSaid'. A law counts once. -/
mutual
def uptoBulk {H : Type} : DataW H → Nat
  | .lit (.string bytes) => bytes.length + 1
  | .lit _ => 1
  | .nil => 1
  | .ptr d => uptoBulk d + 1
  | .slice elems spare => uptoBulkAll elems + uptoBulkAll spare + 1
  | .agg parts => uptoBulkAll parts + 1
  | .iface _ d => uptoBulk d + 1
  | .map entries => uptoBulkEntries entries + 1
  | .held _ => 1
def uptoBulkAll {H : Type} : List (DataW H) → Nat
  | [] => 0
  | d :: r => uptoBulk d + uptoBulkAll r
def uptoBulkEntries {H : Type} : List (Lit × DataW H) → Nat
  | [] => 0
  | x :: r => uptoBulkEntry x + uptoBulkEntries r
def uptoBulkEntry {H : Type} : Lit × DataW H → Nat
  | (.string bytes, d) => bytes.length + uptoBulk d + 1
  | (_, d) => uptoBulk d + 1
 end
def uptoSmall : (H : Type) → List (DataW H) → Bool := fun _ ds => decide (uptoBulkAll ds ≤ 1048576)
def OpenSpec.upto (s : _root_.Go.ChangeSpec) : _root_.Go.OpenSpec := { _root_.Go.OpenSpec.ofChange s with cond := some uptoSmall }

/-- 'testgatelaw15.FilediffChanges', WHERE WHAT IT READS IS OF BULK AT MOST 1048576: true; the input reads as it did. -/
def filediffChangesUptoRow : OpenClaim := { program := "ytfobogcccbddbaagreatdoor", sum := "91dd1c5ea434cb95f91f6d0a3810f9d6bcc057ab0da42e337020c3629f496a13", func := "testgate/testgatelaw15.FilediffChanges", spec := "filediffChanges", inPlace := ["internal/bytealg.CountString", "internal/bytealg.IndexByteString", "internal/bytealg.IndexString", "internal/bytealg.abigen_runtime_cmpstring"], unfollowed := true, recurses := true, named := ["unicode/utf8.first", "unicode/utf8.acceptRanges", "internal/bytealg.MaxLen"], apart := false, laid := [("unicode/utf8.acceptRanges", laid_unicode_utf8_acceptRanges), ("unicode/utf8.first", laid_unicode_utf8_first)], narrowed := true }
def FilediffChangesUptoSaid : Prop := filediffChangesUptoRow.holds Tryz.pinned (OpenSpec.upto filediffChangesSpec)

/-- 'testgatelaw15.FilediffApplies', WHERE WHAT IT READS IS OF BULK AT MOST 1048576: true; the input reads as it did. -/
def filediffAppliesUptoRow : OpenClaim := { program := "ytfobogcccbddbaagreatdoor", sum := "91dd1c5ea434cb95f91f6d0a3810f9d6bcc057ab0da42e337020c3629f496a13", func := "testgate/testgatelaw15.FilediffApplies", spec := "filediffApplies", inPlace := ["internal/bytealg.CountString", "internal/bytealg.IndexByteString", "internal/bytealg.IndexString", "internal/bytealg.abigen_runtime_cmpstring"], unfollowed := true, recurses := true, named := ["unicode/utf8.first", "unicode/utf8.acceptRanges", "internal/bytealg.MaxLen"], apart := false, laid := [("unicode/utf8.acceptRanges", laid_unicode_utf8_acceptRanges), ("unicode/utf8.first", laid_unicode_utf8_first)], narrowed := true }
def FilediffAppliesUptoSaid : Prop := filediffAppliesUptoRow.holds Tryz.pinned (OpenSpec.upto filediffAppliesSpec)

/-- 'testgatelaw15.FilediffBack', WHERE WHAT IT READS IS OF BULK AT MOST 1048576: true; the input reads as it did. -/
def filediffBackUptoRow : OpenClaim := { program := "ytfobogcccbddbaagreatdoor", sum := "91dd1c5ea434cb95f91f6d0a3810f9d6bcc057ab0da42e337020c3629f496a13", func := "testgate/testgatelaw15.FilediffBack", spec := "filediffBack", inPlace := ["internal/bytealg.CountString", "internal/bytealg.IndexByteString", "internal/bytealg.IndexString", "internal/bytealg.abigen_runtime_cmpstring"], unfollowed := true, recurses := true, named := ["unicode/utf8.first", "unicode/utf8.acceptRanges", "internal/bytealg.MaxLen"], apart := false, laid := [("unicode/utf8.acceptRanges", laid_unicode_utf8_acceptRanges), ("unicode/utf8.first", laid_unicode_utf8_first)], narrowed := true }
def FilediffBackUptoSaid : Prop := filediffBackUptoRow.holds Tryz.pinned (OpenSpec.upto filediffBackSpec)

/-- 'testgatelaw15.FilediffOrder', WHERE WHAT IT READS IS OF BULK AT MOST 1048576: true; the input reads as it did. -/
def filediffOrderUptoRow : OpenClaim := { program := "ytfobogcccbddbaagreatdoor", sum := "91dd1c5ea434cb95f91f6d0a3810f9d6bcc057ab0da42e337020c3629f496a13", func := "testgate/testgatelaw15.FilediffOrder", spec := "filediffOrder", inPlace := ["internal/bytealg.CountString", "internal/bytealg.IndexByteString", "internal/bytealg.IndexString", "internal/bytealg.abigen_runtime_cmpstring"], unfollowed := true, recurses := true, named := ["unicode/utf8.first", "unicode/utf8.acceptRanges", "internal/bytealg.MaxLen"], apart := false, laid := [("unicode/utf8.acceptRanges", laid_unicode_utf8_acceptRanges), ("unicode/utf8.first", laid_unicode_utf8_first)], narrowed := true }
def FilediffOrderUptoSaid : Prop := filediffOrderUptoRow.holds Tryz.pinned (OpenSpec.upto filediffOrderSpec)

/-- 'testgatelaw15.FilediffRenames', WHERE WHAT IT READS IS OF BULK AT MOST 1048576: true; the input reads as it did. -/
def filediffRenamesUptoRow : OpenClaim := { program := "ytfobogcccbddbaagreatdoor", sum := "91dd1c5ea434cb95f91f6d0a3810f9d6bcc057ab0da42e337020c3629f496a13", func := "testgate/testgatelaw15.FilediffRenames", spec := "filediffRenames", inPlace := ["internal/bytealg.CountString", "internal/bytealg.IndexByteString", "internal/bytealg.IndexString", "internal/bytealg.abigen_runtime_cmpstring"], unfollowed := true, recurses := true, named := ["unicode/utf8.first", "unicode/utf8.acceptRanges", "internal/bytealg.MaxLen"], apart := false, laid := [("unicode/utf8.acceptRanges", laid_unicode_utf8_acceptRanges), ("unicode/utf8.first", laid_unicode_utf8_first)], narrowed := true }
def FilediffRenamesUptoSaid : Prop := filediffRenamesUptoRow.holds Tryz.pinned (OpenSpec.upto filediffRenamesSpec)

end Rows
end Go.Proofs.YtfobogcccbddbaaGreatDoor
