/-
  No cell of these rows narrows 'for every input' (looked for: loops, veiled, ifaces, maps, wideKeys, modest, calm, conditions, laid).
  DERIVED. THE GIVEN ROWS OF THIS SEAT. 4 by the template 'for every input the law returns true; each argument reads behind the call as it read before'; 0 by the template 'total and deterministic' (their statements: YtlfoikjbbbhbdaaTotals.lean).
  GIVEN WITH THE SEED: the statements are not yours to turn. If you find one false, say at which input.
  Laid BY PROGRAM, IN A SANDBOX (cutbox-rows.mjs): the forced cells as the released guide's own fill.sh prints them over the translation ca948ba43a568ba3… (all of the seat's roots in one cut). By AI agents, Wed Nov 11 2026. No macro, syntax, notation, axiom, sorry.
-/
import Derived.Test.YtlfoikjbbbhbdaaChecked
import GoSem.Claim
import GoSem.ClaimJoined
import GoSem.ClaimMapViews
import Derived.JoinedTies
import Derived.KernelRfl
namespace Go.Proofs.Ytlfoikjbbbhbdaa
/- THE CELL 'sum', in the pinned program and in every row, IS THE sha256 OF THE DUMP (.gsa) THAT YtlfoikjbbbhbdaaProg.lean LOADS. Nothing in Lean hashes anything: it is a label: what it is worth is what the hold of that sum in a sandbox is worth. -/
noncomputable def Try.pinned : Pinned := { name := "ytlfoikjbbbhbdaa", sum := "ca948ba43a568ba3c6bd6844210d3244aee91a72ab56db840d6f6b23ca6ad107", checked := Try.checked }
namespace Rows
def none {H : Type} : Left H := { results := [], args := [] }

/-- 'testgatelaw13.ContentsCalls': WHATEVER THE INPUT: true; the input reads as it did. -/
def contentsCallsSpec : ChangeSpec := { name := "contentsCalls", fn := fun _ => fun
  | [d1, d2, d3, d4] => { results := [.lit (.bool true)], args := [d1, d2, d3, d4] }
  | _ => none }
def contentsCallsRow : OpenClaim := { program := "ytlfoikjbbbhbdaa", sum := "ca948ba43a568ba3c6bd6844210d3244aee91a72ab56db840d6f6b23ca6ad107", func := "testgate/testgatelaw13.ContentsCalls", spec := "contentsCalls", unfollowed := true, recurses := true, apart := false }
def ContentsCallsSaid : Prop := contentsCallsRow.holds Try.pinned (OpenSpec.ofChange contentsCallsSpec)

/-- ITS FALSE NEIGHBOUR: 'it returns false'. Refute it at one input. -/
def contentsCallsWrong : ChangeSpec := { name := "contentsCalls", fn := fun _ => fun
  | [d1, d2, d3, d4] => { results := [.lit (.bool false)], args := [d1, d2, d3, d4] }
  | _ => none }
def ContentsCallsWrongFalsely : Prop := contentsCallsRow.holds Try.pinned (OpenSpec.ofChange contentsCallsWrong)

/-- 'testgatelaw13.ContentsBytes': WHATEVER THE INPUT: true; the input reads as it did. -/
def contentsBytesSpec : ChangeSpec := { name := "contentsBytes", fn := fun _ => fun
  | [d1, d2, d3, d4] => { results := [.lit (.bool true)], args := [d1, d2, d3, d4] }
  | _ => none }
def contentsBytesRow : OpenClaim := { program := "ytlfoikjbbbhbdaa", sum := "ca948ba43a568ba3c6bd6844210d3244aee91a72ab56db840d6f6b23ca6ad107", func := "testgate/testgatelaw13.ContentsBytes", spec := "contentsBytes", unfollowed := true, recurses := true, apart := false }
def ContentsBytesSaid : Prop := contentsBytesRow.holds Try.pinned (OpenSpec.ofChange contentsBytesSpec)

/-- ITS FALSE NEIGHBOUR: 'it returns false'. Refute it at one input. -/
def contentsBytesWrong : ChangeSpec := { name := "contentsBytes", fn := fun _ => fun
  | [d1, d2, d3, d4] => { results := [.lit (.bool false)], args := [d1, d2, d3, d4] }
  | _ => none }
def ContentsBytesWrongFalsely : Prop := contentsBytesRow.holds Try.pinned (OpenSpec.ofChange contentsBytesWrong)

/-- 'testgatelaw13.ContentsKeeps': WHATEVER THE INPUT: true; the input reads as it did. -/
def contentsKeepsSpec : ChangeSpec := { name := "contentsKeeps", fn := fun _ => fun
  | [d1, d2] => { results := [.lit (.bool true)], args := [d1, d2] }
  | _ => none }
def contentsKeepsRow : OpenClaim := { program := "ytlfoikjbbbhbdaa", sum := "ca948ba43a568ba3c6bd6844210d3244aee91a72ab56db840d6f6b23ca6ad107", func := "testgate/testgatelaw13.ContentsKeeps", spec := "contentsKeeps", unfollowed := true, recurses := true, apart := false }
def ContentsKeepsSaid : Prop := contentsKeepsRow.holds Try.pinned (OpenSpec.ofChange contentsKeepsSpec)

/-- ITS FALSE NEIGHBOUR: 'it returns false'. Refute it at one input. -/
def contentsKeepsWrong : ChangeSpec := { name := "contentsKeeps", fn := fun _ => fun
  | [d1, d2] => { results := [.lit (.bool false)], args := [d1, d2] }
  | _ => none }
def ContentsKeepsWrongFalsely : Prop := contentsKeepsRow.holds Try.pinned (OpenSpec.ofChange contentsKeepsWrong)

/-- 'testgatelaw13.ContentsFull': WHATEVER THE INPUT: true; the input reads as it did. -/
def contentsFullSpec : ChangeSpec := { name := "contentsFull", fn := fun _ => fun
  | [d] => { results := [.lit (.bool true)], args := [d] }
  | _ => none }
def contentsFullRow : OpenClaim := { program := "ytlfoikjbbbhbdaa", sum := "ca948ba43a568ba3c6bd6844210d3244aee91a72ab56db840d6f6b23ca6ad107", func := "testgate/testgatelaw13.ContentsFull", spec := "contentsFull", recurses := true, apart := false }
def ContentsFullSaid : Prop := contentsFullRow.holds Try.pinned (OpenSpec.ofChange contentsFullSpec)

/-- ITS FALSE NEIGHBOUR: 'it returns false'. Refute it at one input. -/
def contentsFullWrong : ChangeSpec := { name := "contentsFull", fn := fun _ => fun
  | [d] => { results := [.lit (.bool false)], args := [d] }
  | _ => none }
def ContentsFullWrongFalsely : Prop := contentsFullRow.holds Try.pinned (OpenSpec.ofChange contentsFullWrong)

/- THE SECOND FORM. 'bulk': how many values and letters a reading holds, each counted each time it is reached (what is shared counts as often as it is met; a slice's spare places count too). A statement '..UptoSaid' is the law's where the arguments, and the package variables that the reading takes, are together of bulk at most 1048576: NARROWER than '..Said'. Prove '..Said' where nothing that the law and all that it calls make is longer than what came in: it says more and counts as full. Else prove '..UptoSaid'. A law counts once. -/
mutual
def uptoBulk {H : Type} : DataW H → Nat
  | .lit (.string bytes) => bytes.length + 1
  | .lit _ => 1
  | .nil => 1
  | .ptr d => uptoBulk d + 1
  | .slice elems spare => uptoBulkAll elems + uptoBulkAll spare + 1
  | .agg parts => uptoBulkAll parts + 1
  | .iface _ d => uptoBulk d + 1
  | .map entries => uptoBulkEntries entries + 1
  | .held _ => 1
def uptoBulkAll {H : Type} : List (DataW H) → Nat
  | [] => 0
  | d :: r => uptoBulk d + uptoBulkAll r
def uptoBulkEntries {H : Type} : List (Lit × DataW H) → Nat
  | [] => 0
  | x :: r => uptoBulkEntry x + uptoBulkEntries r
def uptoBulkEntry {H : Type} : Lit × DataW H → Nat
  | (.string bytes, d) => bytes.length + uptoBulk d + 1
  | (_, d) => uptoBulk d + 1
 end
def uptoSmall : (H : Type) → List (DataW H) → Bool := fun _ ds => decide (uptoBulkAll ds ≤ 1048576)
def OpenSpec.upto (s : _root_.Go.ChangeSpec) : _root_.Go.OpenSpec := { _root_.Go.OpenSpec.ofChange s with cond := some uptoSmall }

/-- 'testgatelaw13.ContentsCalls', WHERE WHAT IT READS IS OF BULK AT MOST 1048576: true; the input reads as it did. -/
def contentsCallsUptoRow : OpenClaim := { program := "ytlfoikjbbbhbdaa", sum := "ca948ba43a568ba3c6bd6844210d3244aee91a72ab56db840d6f6b23ca6ad107", func := "testgate/testgatelaw13.ContentsCalls", spec := "contentsCalls", unfollowed := true, recurses := true, apart := false, narrowed := true }
def ContentsCallsUptoSaid : Prop := contentsCallsUptoRow.holds Try.pinned (OpenSpec.upto contentsCallsSpec)

/-- 'testgatelaw13.ContentsBytes', WHERE WHAT IT READS IS OF BULK AT MOST 1048576: true; the input reads as it did. -/
def contentsBytesUptoRow : OpenClaim := { program := "ytlfoikjbbbhbdaa", sum := "ca948ba43a568ba3c6bd6844210d3244aee91a72ab56db840d6f6b23ca6ad107", func := "testgate/testgatelaw13.ContentsBytes", spec := "contentsBytes", unfollowed := true, recurses := true, apart := false, narrowed := true }
def ContentsBytesUptoSaid : Prop := contentsBytesUptoRow.holds Try.pinned (OpenSpec.upto contentsBytesSpec)

/-- 'testgatelaw13.ContentsKeeps', WHERE WHAT IT READS IS OF BULK AT MOST 1048576: true; the input reads as it did. -/
def contentsKeepsUptoRow : OpenClaim := { program := "ytlfoikjbbbhbdaa", sum := "ca948ba43a568ba3c6bd6844210d3244aee91a72ab56db840d6f6b23ca6ad107", func := "testgate/testgatelaw13.ContentsKeeps", spec := "contentsKeeps", unfollowed := true, recurses := true, apart := false, narrowed := true }
def ContentsKeepsUptoSaid : Prop := contentsKeepsUptoRow.holds Try.pinned (OpenSpec.upto contentsKeepsSpec)

/-- 'testgatelaw13.ContentsFull', WHERE WHAT IT READS IS OF BULK AT MOST 1048576: true; the input reads as it did. -/
def contentsFullUptoRow : OpenClaim := { program := "ytlfoikjbbbhbdaa", sum := "ca948ba43a568ba3c6bd6844210d3244aee91a72ab56db840d6f6b23ca6ad107", func := "testgate/testgatelaw13.ContentsFull", spec := "contentsFull", recurses := true, apart := false, narrowed := true }
def ContentsFullUptoSaid : Prop := contentsFullUptoRow.holds Try.pinned (OpenSpec.upto contentsFullSpec)

end Rows
end Go.Proofs.Ytlfoikjbbbhbdaa
