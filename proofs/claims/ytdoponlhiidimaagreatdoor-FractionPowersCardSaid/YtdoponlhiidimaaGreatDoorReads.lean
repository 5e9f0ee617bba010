/- The sanity check of layer 1, and the walk of the law on reading numbers. Condition: the library's table of powers of ten holds what its text lays. -/
import Derived.Test.YtdoponlhiidimaaGreatDoorFormat
namespace Go.Proofs.YtdoponlhiidimaaGreatDoor
open Go.RowKit LimbN

theorem l64 : limbs 18446744073709551616 = [0, 0, 1] := by
  have h : val [0, 0, 1] = 18446744073709551616 := by decide +kernel
  rw [← h]
  refine canon ?_ (.inr (by decide))
  exact Lt.cons (by omega) (Lt.cons (by omega) (Lt.cons (by omega) Lt.nil))
theorem l32 : limbs 4294967296 = [0, 1] := by
  have h : val [0, 1] = 4294967296 := by decide +kernel
  rw [← h]
  refine canon ?_ (.inr (by decide))
  exact Lt.cons (by omega) (Lt.cons (by omega) Lt.nil)
theorem nd64 : Lib.nDigits 18446744073709551616 = 20 := Lib.nDigits_unique 19 _ (by decide +kernel) (by decide +kernel)
theorem dec64 : (Lib.decDigits 18446744073709551616) = [49, 56, 52, 52, 54, 55, 52, 52, 48, 55, 51, 55, 48, 57, 53, 53, 49, 54, 49, 54] := by
  rw [dec_eq_D, nd64]
  decide +kernel
theorem bits64 : bitsW [0, 0, 1] = 65 := by decide +kernel
theorem wf64 : wf [0, 0, 1] = true := by decide +kernel
theorem wf32 : wf [0, 1] = true := by decide +kernel

end Go.Proofs.YtdoponlhiidimaaGreatDoor
