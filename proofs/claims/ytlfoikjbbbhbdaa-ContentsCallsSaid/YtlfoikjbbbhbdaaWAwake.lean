/- The laws' sanity check. No condition. -/
import Derived.Test.YtlfoikjbbbhbdaaWNext
namespace Go.Proofs.Ytlfoikjbbbhbdaa
namespace By
open Go.RowKit WireN
set_option linter.unusedVariables false
set_option linter.unusedSimpArgs false

theorem uv300 : uv 300 = [172, 2] := by rw [uv_ge (by omega), uv_lt (by omega)]
theorem rd300 : rd [172, 2] 0 = (300, 2, 0) := by
  have := rd_back [] [] (n := 300) (by omega)
  simpa [uv300] using this
theorem ck_nil : ck [] = 1 := rfl
theorem nx912 : nx (fr 9 [1, 2]) 0 = (9, [1, 2], (fr 9 [1, 2]).length, 0) := by
  have := nx_back [] [] (k := 9) (p := [1, 2]) (by decide) (by decide)
  simpa using this
theorem frlen912 : (fr 9 [1, 2]).length = 9 := by rw [fr_len, uv_lt (by decide)]; rfl

end By
end Go.Proofs.Ytlfoikjbbbhbdaa
