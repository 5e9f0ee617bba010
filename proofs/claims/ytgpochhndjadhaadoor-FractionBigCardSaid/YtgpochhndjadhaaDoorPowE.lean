/- The program's powers of numbers, with their error. Conditions: the slice holds the number that is named, and the exponent is at most 65536. -/
import Derived.Test.YtgpochhndjadhaaDoorPow
import Derived.Test.YtgpochhndjadhaaDoorMCa
namespace Go.Proofs.YtgpochhndjadhaaDoor
open Go.RowKit LimbN
set_option linter.unusedVariables false
set_option linter.unusedSimpArgs false

theorem pow_E {a n : Nat} {va : Value} {w : World} (ha : Sl w va (limbs a)) (h1 : (limbs a).length ≤ 128) (hn : n ≤ 65536) : Calls Tryd.prog 15 #[va, .int .i64 n] w (OpN (lenE (a ^ n)) (lenV (a ^ n)) w) := by
  have := Pow_ok ha (wf_limbs h1) n hn
  rw [val_limbs] at this
  exact this.mono fun e w' h => OpN.got h
end Go.Proofs.YtgpochhndjadhaaDoor
