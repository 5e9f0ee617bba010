/- The laws' sanity check. No condition. -/
import Derived.Test.YtnjgnmfngcifpaaWNext
namespace Go.Proofs.Ytnjgnmfngcifpaa
namespace By
open Go.RowKit WireN
set_option linter.unusedVariables false
set_option linter.unusedSimpArgs false

theorem uv300 : uv 300 = [172, 2] := by rw [uv_ge (by omega), uv_lt (by omega)]
theorem rd300 : rd [172, 2] 0 = (300, 2, 0) := by
  have := rd_back [] [] (n := 300) (by omega)
  simpa [uv300] using this
theorem ck_nil : ck [] = 1 := rfl
theorem nx912 : nx (fr 9 [1, 2]) 0 = (9, [1, 2], (fr 9 [1, 2]).length, 0) := by
  have := nx_back [] [] (k := 9) (p := [1, 2]) (by decide) (by decide)
  simpa using this
theorem frlen912 : (fr 9 [1, 2]).length = 9 := by rw [fr_len, uv_lt (by decide)]; rfl

set_option maxRecDepth 100000 in
set_option maxHeartbeats 2000000 in
theorem awake_any (w : World) : Calls Try.prog 16 #[] w fun e w' => e = .returned (.bool true) ∧ Kp w w' := by
  have HR := Lib.hid rd300; have HF := Lib.hid frlen912
  go_enter Try.func16, Try.ntmps16
  go_wp2_with fail
  refine (PutUint_any (Sl.nil w) (by simp) 300 (by omega)).mono ?_
  rintro e w1 ⟨v1, rfl, hown⟩
  rw [uv300, List.nil_append] at hown
  have hs1 := hown.sl (by simp)
  obtain ⟨ao1, c1, rfl, -, -, -⟩ := hs1.open3
  have HS1 := Lib.hid hs1; have HK1 := Lib.hid hown.kp
  obtain ⟨b1, off1, rfl, hcell⟩ := sl_cell hs1 (by simp)
  have hc1 := hcell 0 (by simp)
  rw [Nat.add_zero] at hc1
  simp only [List.getElem?_cons_zero, Option.getD_some] at hc1
  have HC1 := Lib.hid hc1
  clear hown hs1 hcell hc1
  go_wp2_with fail
  refine (Uint_at HS1.out 0 (by omega) HR.out).mono ?_
  rintro e w' ⟨rfl, rfl⟩
  have HS2 : Hid (Sl (w1.alloc (.cells #[.int .u8 1, .int .u8 2] 5)) (.slice (some ⟨w1.heap.size, 0, none⟩) 2 2) [1, 2]) := sl_new [1, 2] (Lt.cons (by omega) (Lt.one (by omega))) rfl 2 rfl (by omega)
  go_wp2_with fail
  refine (Frame_ok HS2.out 9 (by omega) (by omega) (by simp)).mono ?_
  rintro e w2 ⟨⟨v2, rfl, hs2, -⟩, hk2⟩
  obtain ⟨ao2, c2, rfl, -, -, -⟩ := hs2.open3
  rw [HF.out] at hs2 ⊢
  have HSF := Lib.hid hs2; have HK2 := Lib.hid (Kp.trans HK1.out (Kp.trans (kp_alloc _ _) hk2))
  have HC2 := Lib.hid (cell_kept HC1.out (Kp.trans (kp_alloc _ _) hk2))
  clear hs2 hk2
  go_wp2_with fail
  refine (Next_in HSF.out 0 (by omega)).mono ?_
  rintro e w3 ⟨⟨vp, he, hs3, hn3⟩, hk3⟩
  rw [show ((0 : Nat) : Int) = 0 from rfl, nx912] at he hs3
  simp only at he hs3
  obtain ⟨ao3, c3, rfl, -, -, -⟩ := hs3.open3
  rw [HF.out] at he
  subst he
  have HK3 := Lib.hid (Kp.trans HK2.out hk3)
  have HC3 := Lib.hid (cell_kept HC2.out hk3)
  clear hs3 hn3 hk3
  have d0 := cell_kept HC3.out (kp_alloc w3 (.cells #[.int .i64 9, .slice ao3 2 c3] 27))
  go_wp2_with fail
  refine (Checksum_any (Sl.nil _)).mono ?_
  rintro e w' ⟨rfl, rfl⟩
  rw [ck_nil]
  go_wp2_with fail
  go_ret
  exact ⟨rfl, Kp.trans HK3.out (kp_alloc _ _)⟩
end By
end Go.Proofs.Ytnjgnmfngcifpaa
