/- The program's Text: a string that is read at any place. Conditions: the slice holds the bytes that are named, 64-bit integers. -/
import Derived.Test.YtlfoikjbbbhbdaaWUint
namespace Go.Proofs.Ytlfoikjbbbhbdaa
namespace By
open Go.RowKit WireN
set_option linter.unusedVariables false
set_option linter.unusedSimpArgs false

def rdTV (xs : List Nat) (i most : Int) : Value := .tuple #[.string (st (rdT xs i most).1), .int .i64 ((rdT xs i most).2.1 : Nat), .int .i64 ((rdT xs i most).2.2 : Nat)]
theorem rdTV_eq {xs : List Nat} {i most : Int} {b : List Nat} {p e : Nat} (h : rdT xs i most = (b, p, e)) {s : ByteArray} {P E : Int} (hs : s = st b) (hP : P = p) (hE : E = e) : Ending.returned (.tuple #[.string s, .int .i64 P, .int .i64 E]) = .returned (rdTV xs i most) := by
  unfold rdTV; rw [h, hs, hP, hE]
theorem st_nil : (⟨#[]⟩ : ByteArray) = st [] := rfl
end By
end Go.Proofs.Ytlfoikjbbbhbdaa
