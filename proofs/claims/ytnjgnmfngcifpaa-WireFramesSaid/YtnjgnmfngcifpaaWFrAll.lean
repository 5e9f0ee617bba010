/- WireFrames: both sides read the same frames, at slices of any length. Conditions: the slices hold the bytes that are named, 64-bit integers. -/
import Derived.Test.YtnjgnmfngcifpaaWFrL
import Derived.Test.YtnjgnmfngcifpaaWFrLb
import Derived.Test.YtnjgnmfngcifpaaWFrLc
import Derived.Test.YtnjgnmfngcifpaaWFrLd
namespace Go.Proofs.Ytnjgnmfngcifpaa
namespace By
open Go.RowKit Go.Shelf WireN
set_option linter.unusedVariables false
set_option linter.unusedSimpArgs false

theorem frames_any {v v2 : Value} {xs zs : List Nat} {w : World} (hs : Sl w v xs) (k : Int) (hk : -9223372036854775808 ≤ k ∧ k ≤ 9223372036854775807) (hz : Sl w v2 zs) (at' : Int) (hat : -9223372036854775808 ≤ at' ∧ at' ≤ 9223372036854775807) :
    Calls Try.prog 3 #[v, .int .i64 k, v2, .int .i64 at'] w fun e w' => e = .returned (.bool true) ∧ Kp w w' := by
  by_cases h1 : xs.length ≤ 600
  · by_cases h2 : zs.length ≤ 200
    · exact frames_00 hs hz k at' hk hat h1 h2
    · exact frames_01 hs hz k at' hk hat h1 (by omega)
  · by_cases h2 : zs.length ≤ 200
    · exact frames_10 hs hz k at' hk hat (by omega) h2
    · exact frames_11 hs hz k at' hk hat (by omega) (by omega)
end By
end Go.Proofs.Ytnjgnmfngcifpaa
