/- The sanity check of layer 1, and the walk of the law on reading numbers. Condition: the library's table of powers of ten holds what its text lays. -/
import Derived.Test.YtfcpfmjoelhlnaaDoorFormat
namespace Go.Proofs.YtfcpfmjoelhlnaaDoor
open Go.RowKit LimbN

theorem l64 : limbs 18446744073709551616 = [0, 0, 1] := by
  have h : val [0, 0, 1] = 18446744073709551616 := by decide +kernel
  rw [← h]
  refine canon ?_ (.inr (by decide))
  exact Lt.cons (by omega) (Lt.cons (by omega) (Lt.cons (by omega) Lt.nil))
theorem l32 : limbs 4294967296 = [0, 1] := by
  have h : val [0, 1] = 4294967296 := by decide +kernel
  rw [← h]
  refine canon ?_ (.inr (by decide))
  exact Lt.cons (by omega) (Lt.cons (by omega) Lt.nil)
theorem nd64 : Lib.nDigits 18446744073709551616 = 20 := Lib.nDigits_unique 19 _ (by decide +kernel) (by decide +kernel)
theorem dec64 : (Lib.decDigits 18446744073709551616) = [49, 56, 52, 52, 54, 55, 52, 52, 48, 55, 51, 55, 48, 57, 53, 53, 49, 54, 49, 54] := by
  rw [dec_eq_D, nd64]
  decide +kernel
theorem bits64 : bitsW [0, 0, 1] = 65 := by decide +kernel
theorem wf64 : wf [0, 0, 1] = true := by decide +kernel
theorem wf32 : wf [0, 1] = true := by decide +kernel

set_option maxHeartbeats 1000000 in
theorem awake_any (w : World) (htab : Tab w) :
    Calls Tryd.prog 15 #[] w fun e w' => e = .returned (.bool true) ∧ Kp w w' := by
  have HT := Lib.hid htab; clear htab
  go_enter Tryd.func15, Tryd.ntmps15
  go_wp2_with fail
  refine (of_any 4294967296 w (by omega)).mono ?_
  rintro e w1 ⟨v1, rfl, hs1, -, hk1⟩
  rw [l32] at hs1
  have HS1 := Lib.hid hs1; have HK1 := Lib.hid hk1; clear hs1 hk1
  go_wp2_with fail
  refine (of_any 4294967296 w1 (by omega)).mono ?_
  rintro e w2 ⟨v2, rfl, hs2, -, hk2⟩
  rw [l32] at hs2
  have HS2 := Lib.hid hs2; have HK2 := Lib.hid (Kp.trans HK1.out hk2); have HS12 := Lib.hid (HS1.out.keep hk2); clear hs2 hk2
  go_wp2_with fail
  refine (Mul_ok HS12.out HS2.out wf32 wf32).mono ?_
  rintro e w3 ⟨⟨v3, rfl, hs3, -⟩, hk3⟩
  rw [show val [0, 1] * val [0, 1] = 18446744073709551616 by decide +kernel, l64] at hs3 ⊢
  have HS3 := Lib.hid hs3; have HK3 := Lib.hid (Kp.trans HK2.out hk3); clear hs3 hk3
  rw [if_pos (by decide)]
  go_wp2_with fail
  refine (Format_pos HS3.out wf64 (by simp) (HT.out.keep HK3.out)).mono ?_
  rintro e w4 ⟨rfl, hk4⟩
  rw [show val [0, 0, 1] = 18446744073709551616 by decide +kernel, dec64]
  have HS4 := Lib.hid (HS3.out.keep hk4); have HK4 := Lib.hid (Kp.trans HK3.out hk4); clear hk4
  go_wp2_with fail
  refine (Bits_any HS4.out).mono ?_
  rintro e w5 ⟨rfl, rfl⟩
  rw [bits64]
  go_wp2
  go_ret
  exact ⟨rfl, HK4.out⟩

end Go.Proofs.YtfcpfmjoelhlnaaDoor
