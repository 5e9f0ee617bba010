/-
  NARROWER THAN 'FOR EVERY INPUT', by the rows' own cells (each row's printed sentence says how): RevisionCalls: laid · RevisionBytes: laid · RevisionBack: laid · RevisionMoves: laid.
  DERIVED. THE GIVEN ROWS OF THIS SEAT. 4 by the template 'for every input the law returns true; each argument reads behind the call as it read before'; 0 by the template 'total and deterministic' (their statements: YtmkijkaabcgcbaaGreatDoorTotals.lean).
  GIVEN WITH THE SEED: the statements are not yours to turn. If you find one false, say at which input.
  Laid BY PROGRAM, IN A SANDBOX (cutbox-rows.mjs): the forced cells as the released guide's own fill.sh prints them over the translation 6dd0fbfbdeadb1ec… (all of the seat's roots in one cut). By AI agents, Wed Nov 11 2026. No macro, syntax, notation, axiom, sorry.
-/
import Derived.Test.YtmkijkaabcgcbaaGreatDoorChecked
import GoSem.PinnedTables
import GoSem.Claim
import GoSem.ClaimJoined
import GoSem.ClaimMapViews
import Derived.JoinedTies
import Derived.KernelRfl
namespace Go.Proofs.YtmkijkaabcgcbaaGreatDoor
/- THE CELL 'sum', in the pinned program and in every row, IS THE sha256 OF THE DUMP (.gsa) THAT YtmkijkaabcgcbaaGreatDoorProg.lean LOADS. Nothing in Lean hashes anything: it is a label: what it is worth is what the hold of that sum in a sandbox is worth. -/
noncomputable def Tryz.pinned : Pinned := { name := "ytmkijkaabcgcbaagreatdoor", sum := "6dd0fbfbdeadb1ec789d8513c67a2494e41ee280cca44c5eff7482e0c249cecb", checked := Tryz.checked }
namespace Rows
def none {H : Type} : Left H := { results := [], args := [] }

/- WHAT THE LISTED PACKAGE-LEVEL VARIABLES READ AS WHEN THE CALL BEGINS. Each datum BY PROGRAM (the guide's laid-datum.mjs) off the statement by which the dump's own 'gosem.cut.vars' lays the variable. In a bare row this is a premise. The card (YtmkijkaabcgcbaaGreatDoorCards.lean) ties it to the program's text. -/
def laid_unicode_utf8_acceptRanges {H : Type} : DataW H := .agg [.agg [.lit (.int .u8 128), .lit (.int .u8 191)], .agg [.lit (.int .u8 160), .lit (.int .u8 191)], .agg [.lit (.int .u8 128), .lit (.int .u8 159)], .agg [.lit (.int .u8 144), .lit (.int .u8 191)], .agg [.lit (.int .u8 128), .lit (.int .u8 143)], .agg [.lit (.int .u8 0), .lit (.int .u8 0)], .agg [.lit (.int .u8 0), .lit (.int .u8 0)], .agg [.lit (.int .u8 0), .lit (.int .u8 0)], .agg [.lit (.int .u8 0), .lit (.int .u8 0)], .agg [.lit (.int .u8 0), .lit (.int .u8 0)], .agg [.lit (.int .u8 0), .lit (.int .u8 0)], .agg [.lit (.int .u8 0), .lit (.int .u8 0)], .agg [.lit (.int .u8 0), .lit (.int .u8 0)], .agg [.lit (.int .u8 0), .lit (.int .u8 0)], .agg [.lit (.int .u8 0), .lit (.int .u8 0)], .agg [.lit (.int .u8 0), .lit (.int .u8 0)]]
/-- One of Go's own tables, pinned by name: the form's constant. -/
def laid_unicode_utf8_first : DataW Unit := Go.Pinned.utf8First

/-- 'testgatelaw07.RevisionCalls': WHATEVER THE INPUT: true; the input reads as it did. -/
def revisionCallsSpec : ChangeSpec := { name := "revisionCalls", fn := fun _ => fun
  | [d1, d2, d3] => { results := [.lit (.bool true)], args := [d1, d2, d3] }
  | _ => none }
def revisionCallsRow : OpenClaim := { program := "ytmkijkaabcgcbaagreatdoor", sum := "6dd0fbfbdeadb1ec789d8513c67a2494e41ee280cca44c5eff7482e0c249cecb", func := "testgate/testgatelaw07.RevisionCalls", spec := "revisionCalls", inPlace := ["internal/bytealg.CountString", "internal/bytealg.IndexByteString", "internal/bytealg.IndexString"], unfollowed := true, recurses := true, named := ["unicode/utf8.first", "unicode/utf8.acceptRanges", "internal/bytealg.MaxLen"], apart := false, laid := [("unicode/utf8.acceptRanges", laid_unicode_utf8_acceptRanges), ("unicode/utf8.first", laid_unicode_utf8_first)] }
def RevisionCallsSaid : Prop := revisionCallsRow.holds Tryz.pinned (OpenSpec.ofChange revisionCallsSpec)

/-- ITS FALSE NEIGHBOUR: 'it returns false'. Refute it at one input. -/
def revisionCallsWrong : ChangeSpec := { name := "revisionCalls", fn := fun _ => fun
  | [d1, d2, d3] => { results := [.lit (.bool false)], args := [d1, d2, d3] }
  | _ => none }
def RevisionCallsWrongFalsely : Prop := revisionCallsRow.holds Tryz.pinned (OpenSpec.ofChange revisionCallsWrong)

/-- 'testgatelaw07.RevisionBytes': WHATEVER THE INPUT: true; the input reads as it did. -/
def revisionBytesSpec : ChangeSpec := { name := "revisionBytes", fn := fun _ => fun
  | [d1, d2, d3, d4, d5] => { results := [.lit (.bool true)], args := [d1, d2, d3, d4, d5] }
  | _ => none }
def revisionBytesRow : OpenClaim := { program := "ytmkijkaabcgcbaagreatdoor", sum := "6dd0fbfbdeadb1ec789d8513c67a2494e41ee280cca44c5eff7482e0c249cecb", func := "testgate/testgatelaw07.RevisionBytes", spec := "revisionBytes", inPlace := ["internal/bytealg.CountString", "internal/bytealg.IndexByteString", "internal/bytealg.IndexString"], unfollowed := true, recurses := true, named := ["unicode/utf8.first", "unicode/utf8.acceptRanges", "internal/bytealg.MaxLen"], apart := false, laid := [("unicode/utf8.acceptRanges", laid_unicode_utf8_acceptRanges), ("unicode/utf8.first", laid_unicode_utf8_first)] }
def RevisionBytesSaid : Prop := revisionBytesRow.holds Tryz.pinned (OpenSpec.ofChange revisionBytesSpec)

/-- ITS FALSE NEIGHBOUR: 'it returns false'. Refute it at one input. -/
def revisionBytesWrong : ChangeSpec := { name := "revisionBytes", fn := fun _ => fun
  | [d1, d2, d3, d4, d5] => { results := [.lit (.bool false)], args := [d1, d2, d3, d4, d5] }
  | _ => none }
def RevisionBytesWrongFalsely : Prop := revisionBytesRow.holds Tryz.pinned (OpenSpec.ofChange revisionBytesWrong)

/-- 'testgatelaw07.RevisionBack': WHATEVER THE INPUT: true; the input reads as it did. -/
def revisionBackSpec : ChangeSpec := { name := "revisionBack", fn := fun _ => fun
  | [d1, d2] => { results := [.lit (.bool true)], args := [d1, d2] }
  | _ => none }
def revisionBackRow : OpenClaim := { program := "ytmkijkaabcgcbaagreatdoor", sum := "6dd0fbfbdeadb1ec789d8513c67a2494e41ee280cca44c5eff7482e0c249cecb", func := "testgate/testgatelaw07.RevisionBack", spec := "revisionBack", inPlace := ["internal/bytealg.CountString", "internal/bytealg.IndexByteString", "internal/bytealg.IndexString"], unfollowed := true, recurses := true, named := ["unicode/utf8.first", "unicode/utf8.acceptRanges", "internal/bytealg.MaxLen"], apart := false, laid := [("unicode/utf8.acceptRanges", laid_unicode_utf8_acceptRanges), ("unicode/utf8.first", laid_unicode_utf8_first)] }
def RevisionBackSaid : Prop := revisionBackRow.holds Tryz.pinned (OpenSpec.ofChange revisionBackSpec)

/-- ITS FALSE NEIGHBOUR: 'it returns false'. Refute it at one input. -/
def revisionBackWrong : ChangeSpec := { name := "revisionBack", fn := fun _ => fun
  | [d1, d2] => { results := [.lit (.bool false)], args := [d1, d2] }
  | _ => none }
def RevisionBackWrongFalsely : Prop := revisionBackRow.holds Tryz.pinned (OpenSpec.ofChange revisionBackWrong)

/-- 'testgatelaw07.RevisionMoves': WHATEVER THE INPUT: true; the input reads as it did. -/
def revisionMovesSpec : ChangeSpec := { name := "revisionMoves", fn := fun _ => fun
  | [d1, d2] => { results := [.lit (.bool true)], args := [d1, d2] }
  | _ => none }
def revisionMovesRow : OpenClaim := { program := "ytmkijkaabcgcbaagreatdoor", sum := "6dd0fbfbdeadb1ec789d8513c67a2494e41ee280cca44c5eff7482e0c249cecb", func := "testgate/testgatelaw07.RevisionMoves", spec := "revisionMoves", inPlace := ["internal/bytealg.CountString", "internal/bytealg.IndexByteString", "internal/bytealg.IndexString"], unfollowed := true, recurses := true, named := ["unicode/utf8.first", "unicode/utf8.acceptRanges", "internal/bytealg.MaxLen"], apart := false, laid := [("unicode/utf8.acceptRanges", laid_unicode_utf8_acceptRanges), ("unicode/utf8.first", laid_unicode_utf8_first)] }
def RevisionMovesSaid : Prop := revisionMovesRow.holds Tryz.pinned (OpenSpec.ofChange revisionMovesSpec)

/-- ITS FALSE NEIGHBOUR: 'it returns false'. Refute it at one input. -/
def revisionMovesWrong : ChangeSpec := { name := "revisionMoves", fn := fun _ => fun
  | [d1, d2] => { results := [.lit (.bool false)], args := [d1, d2] }
  | _ => none }
def RevisionMovesWrongFalsely : Prop := revisionMovesRow.holds Tryz.pinned (OpenSpec.ofChange revisionMovesWrong)

/- THE SECOND FORM. 'bulk': how many values and letters a reading holds, each counted each time it is reached (what is shared counts as often as it is met; a slice's spare places count too). A statement '..UptoSaid' is the law's where the arguments, and the package variables that the reading takes, are together of bulk at most 1048576: NARROWER than '..Said'. Prove '..Said' where nothing that the law and all that it calls make is longer than what came in: it says more and counts as full. Else prove '..UptoSaid'. A law counts once. -/
mutual
def uptoBulk {H : Type} : DataW H → Nat
  | .lit (.string bytes) => bytes.length + 1
  | .lit _ => 1
  | .nil => 1
  | .ptr d => uptoBulk d + 1
  | .slice elems spare => uptoBulkAll elems + uptoBulkAll spare + 1
  | .agg parts => uptoBulkAll parts + 1
  | .iface _ d => uptoBulk d + 1
  | .map entries => uptoBulkEntries entries + 1
  | .held _ => 1
def uptoBulkAll {H : Type} : List (DataW H) → Nat
  | [] => 0
  | d :: r => uptoBulk d + uptoBulkAll r
def uptoBulkEntries {H : Type} : List (Lit × DataW H) → Nat
  | [] => 0
  | x :: r => uptoBulkEntry x + uptoBulkEntries r
def uptoBulkEntry {H : Type} : Lit × DataW H → Nat
  | (.string bytes, d) => bytes.length + uptoBulk d + 1
  | (_, d) => uptoBulk d + 1
 end
def uptoSmall : (H : Type) → List (DataW H) → Bool := fun _ ds => decide (uptoBulkAll ds ≤ 1048576)
def OpenSpec.upto (s : _root_.Go.ChangeSpec) : _root_.Go.OpenSpec := { _root_.Go.OpenSpec.ofChange s with cond := some uptoSmall }

/-- 'testgatelaw07.RevisionCalls', WHERE WHAT IT READS IS OF BULK AT MOST 1048576: true; the input reads as it did. -/
def revisionCallsUptoRow : OpenClaim := { program := "ytmkijkaabcgcbaagreatdoor", sum := "6dd0fbfbdeadb1ec789d8513c67a2494e41ee280cca44c5eff7482e0c249cecb", func := "testgate/testgatelaw07.RevisionCalls", spec := "revisionCalls", inPlace := ["internal/bytealg.CountString", "internal/bytealg.IndexByteString", "internal/bytealg.IndexString"], unfollowed := true, recurses := true, named := ["unicode/utf8.first", "unicode/utf8.acceptRanges", "internal/bytealg.MaxLen"], apart := false, laid := [("unicode/utf8.acceptRanges", laid_unicode_utf8_acceptRanges), ("unicode/utf8.first", laid_unicode_utf8_first)], narrowed := true }
def RevisionCallsUptoSaid : Prop := revisionCallsUptoRow.holds Tryz.pinned (OpenSpec.upto revisionCallsSpec)

/-- 'testgatelaw07.RevisionBytes', WHERE WHAT IT READS IS OF BULK AT MOST 1048576: true; the input reads as it did. -/
def revisionBytesUptoRow : OpenClaim := { program := "ytmkijkaabcgcbaagreatdoor", sum := "6dd0fbfbdeadb1ec789d8513c67a2494e41ee280cca44c5eff7482e0c249cecb", func := "testgate/testgatelaw07.RevisionBytes", spec := "revisionBytes", inPlace := ["internal/bytealg.CountString", "internal/bytealg.IndexByteString", "internal/bytealg.IndexString"], unfollowed := true, recurses := true, named := ["unicode/utf8.first", "unicode/utf8.acceptRanges", "internal/bytealg.MaxLen"], apart := false, laid := [("unicode/utf8.acceptRanges", laid_unicode_utf8_acceptRanges), ("unicode/utf8.first", laid_unicode_utf8_first)], narrowed := true }
def RevisionBytesUptoSaid : Prop := revisionBytesUptoRow.holds Tryz.pinned (OpenSpec.upto revisionBytesSpec)

/-- 'testgatelaw07.RevisionBack', WHERE WHAT IT READS IS OF BULK AT MOST 1048576: true; the input reads as it did. -/
def revisionBackUptoRow : OpenClaim := { program := "ytmkijkaabcgcbaagreatdoor", sum := "6dd0fbfbdeadb1ec789d8513c67a2494e41ee280cca44c5eff7482e0c249cecb", func := "testgate/testgatelaw07.RevisionBack", spec := "revisionBack", inPlace := ["internal/bytealg.CountString", "internal/bytealg.IndexByteString", "internal/bytealg.IndexString"], unfollowed := true, recurses := true, named := ["unicode/utf8.first", "unicode/utf8.acceptRanges", "internal/bytealg.MaxLen"], apart := false, laid := [("unicode/utf8.acceptRanges", laid_unicode_utf8_acceptRanges), ("unicode/utf8.first", laid_unicode_utf8_first)], narrowed := true }
def RevisionBackUptoSaid : Prop := revisionBackUptoRow.holds Tryz.pinned (OpenSpec.upto revisionBackSpec)

/-- 'testgatelaw07.RevisionMoves', WHERE WHAT IT READS IS OF BULK AT MOST 1048576: true; the input reads as it did. -/
def revisionMovesUptoRow : OpenClaim := { program := "ytmkijkaabcgcbaagreatdoor", sum := "6dd0fbfbdeadb1ec789d8513c67a2494e41ee280cca44c5eff7482e0c249cecb", func := "testgate/testgatelaw07.RevisionMoves", spec := "revisionMoves", inPlace := ["internal/bytealg.CountString", "internal/bytealg.IndexByteString", "internal/bytealg.IndexString"], unfollowed := true, recurses := true, named := ["unicode/utf8.first", "unicode/utf8.acceptRanges", "internal/bytealg.MaxLen"], apart := false, laid := [("unicode/utf8.acceptRanges", laid_unicode_utf8_acceptRanges), ("unicode/utf8.first", laid_unicode_utf8_first)], narrowed := true }
def RevisionMovesUptoSaid : Prop := revisionMovesUptoRow.holds Tryz.pinned (OpenSpec.upto revisionMovesSpec)

end Rows
end Go.Proofs.YtmkijkaabcgcbaaGreatDoor
