/- The law of the bytes of stores, over the program's own functions. No condition. -/
import Derived.Test.YtlfoikjbbbhbdaaCtX
import Derived.Test.YtlfoikjbbbhbdaaMPe
import Derived.Test.YtlfoikjbbbhbdaaMSt
namespace Go.Proofs.Ytlfoikjbbbhbdaa
namespace By
open Go.RowKit WireN CtN
set_option linter.unusedVariables false
set_option linter.unusedSimpArgs false

theorem putC : PutC := fun hs _ _ hx => put13_any hs hx
theorem getC : GetC := fun hs n => get_any hs n
theorem encC : EncC := fun hs h => enc_any hs h
theorem decC : DecC := fun hs h => dec_any hs h
theorem ctBytes_all {zs : List Int} {ms : List Nat} {v vm : Value} {w : World} (hz : SlI w v zs) (hms : Sl w vm ms) (at' : Int) (hat : -9223372036854775808 ≤ at' ∧ at' ≤ 9223372036854775807) (by' : Nat) (hb : by' < 256) :
    Calls Try.prog 4 #[v, vm, .int .i64 at', .int .u8 by'] w fun e w' => e = .returned (.bool true) ∧ Kp w w' := ctBytes_any encC decC putC getC hz hms hat hb
end By
end Go.Proofs.Ytlfoikjbbbhbdaa
