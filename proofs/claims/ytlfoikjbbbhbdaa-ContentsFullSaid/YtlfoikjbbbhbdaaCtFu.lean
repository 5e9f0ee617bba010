/- The law of full stores, over the program's own functions. No condition. -/
import Derived.Test.YtlfoikjbbbhbdaaCtY
import Derived.Test.YtlfoikjbbbhbdaaCtPp
namespace Go.Proofs.Ytlfoikjbbbhbdaa
namespace By
open Go.RowKit WireN CtN
set_option linter.unusedVariables false
set_option linter.unusedSimpArgs false

theorem ctFull_all {w : World} (n : Nat) (hn : n < 256) :
    Calls Try.prog 6 #[.int .u8 n] w fun e w' => e = .returned (.bool true) ∧ Kp w w' := ctFull_any (fun hs => check_any hs) (fun hs _ _ hx => put13_any hs hx) (fun hs n => get_any hs n) hn
end By
end Go.Proofs.Ytlfoikjbbbhbdaa
