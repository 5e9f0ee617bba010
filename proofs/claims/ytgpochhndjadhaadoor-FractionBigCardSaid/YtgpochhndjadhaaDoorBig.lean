/- The law on great fractions: it returns true for all ints. Condition: the library's table of powers of ten holds what its text lays. -/
import Derived.Test.YtgpochhndjadhaaDoorDivF
import Derived.Test.YtgpochhndjadhaaDoorPowF
import Derived.Test.YtgpochhndjadhaaDoorMakesA
import Derived.Test.YtgpochhndjadhaaDoorFTape
import Derived.Test.YtgpochhndjadhaaDoorRow
namespace Go.Proofs.YtgpochhndjadhaaDoor
open Go.RowKit LimbN
set_option linter.unusedVariables false
set_option linter.unusedSimpArgs false

theorem two_len' {m k : Nat} : (limbs (2 ^ m)).length ≤ k ↔ m < 32 * k := by
  rw [limbs_len_le, show (4294967296 : Nat) = 2 ^ 32 by decide, ← Nat.pow_mul]
  exact Nat.pow_lt_pow_iff_right (by decide)
theorem two_len {m : Nat} : (limbs (2 ^ m)).length ≤ 128 ↔ m < 4096 := two_len' (k := 128)
theorem one_len : (limbs 1).length ≤ 128 := by decide
theorem low_one (x : Nat) : FracN.low x 1 = (x, 1) := FracN.low_self (Nat.gcd_one_right x)
theorem fit_two {i : Nat} (h : i < 4096) : fitE (2 ^ i) (1 ^ i) = 0 ∧ fitP (2 ^ i) (1 ^ i) = (2 ^ i, 1) := by
  rw [Nat.one_pow]
  exact ⟨fitE_ok (two_len.2 h) one_len, fitP_ok (two_len.2 h) one_len⟩
theorem fit_sum (i k : Nat) : (fitE ((FracN.low (2 ^ i) 1).1 * (FracN.low (2 ^ k) 1).1) ((FracN.low (2 ^ i) 1).2 * (FracN.low (2 ^ k) 1).2) == 0) = decide (((i : Int) + (k : Int)) < 4096) := by
  rw [low_one, low_one]
  show (fitE (2 ^ i * 2 ^ k) (1 * 1) == 0) = _
  rw [← Nat.pow_add]
  by_cases h : i + k < 4096
  · rw [fitE_ok (two_len.2 h) one_len, decide_eq_true (by omega)]
    rfl
  · unfold fitE
    rw [lenE_over (fun h' => h (two_len.1 h')), decide_eq_false (by omega)]
    rfl
/-- A quotient of two powers and the power that it undoes. -/
theorem big_back (i k : Nat) : FracN.low ((FracN.low (2 ^ i * 1) (1 * 2 ^ k)).1 * 2 ^ k) ((FracN.low (2 ^ i * 1) (1 * 2 ^ k)).2 * 1) = (2 ^ i, 1) := by
  have h0 : 0 < 1 * 2 ^ k := by rw [Nat.one_mul]; exact Nat.pow_pos (by decide)
  have h := FracN.low_eq (2 ^ i * 1) (1 * 2 ^ k)
  refine FracN.low_is (Nat.mul_pos (FracN.low_pos h0) (by decide)) (by decide) ?_ (Nat.gcd_one_right _)
  rw [Nat.mul_one, Nat.mul_one, Nat.one_mul] at *
  rw [Nat.mul_one] at *
  exact h
set_option maxRecDepth 100000 in
set_option maxHeartbeats 8000000 in
theorem big_any {w : World} (z : Int) (hz : -9223372036854775808 ≤ z ∧ z ≤ 9223372036854775807) (y : Int) (hy : -9223372036854775808 ≤ y ∧ y ≤ 9223372036854775807) (htab : Tab w) :
    Calls Tryd.prog 3 #[.int .i64 z, .int .i64 y] w fun e w' => e = .returned (.bool true) ∧ Kp w w' := by
  have HT := Lib.hid htab; clear htab
  go_enter Tryd.func3, Tryd.ntmps3
  go_wp2_with fail
  refine (Fold_any z hz 4090 (by decide) (by decide) w).mono ?_
  rintro e w0 ⟨⟨i0, hi0, rfl⟩, rfl⟩
  go_wp2_with fail
  refine (Fold_any y hy 4090 (by decide) (by decide) w).mono ?_
  rintro e w0 ⟨⟨k0, hk0, rfl⟩, rfl⟩
  obtain ⟨i, hi⟩ : ∃ i : Nat, i = 1 + i0 := ⟨_, rfl⟩
  obtain ⟨k, hk⟩ : ∃ k : Nat, k = 1 + k0 := ⟨_, rfl⟩
  have ei : (1 : Int) + (i0 : Int) = (i : Int) := by omega
  have ek : (1 : Int) + (k0 : Int) = (k : Int) := by omega
  have hi4 : i < 4096 := by omega
  have hk4 : k < 4096 := by omega
  have HI4 := Lib.hid hi4; have HK4 := Lib.hid hk4
  clear hi hk hi0 hk0 hz hy
  have K0_0 := Lib.hid (Kp.refl w)
  go_wp2_with fail
  refine (Of_small (a := 2) (b := 1) (by decide) (by decide) (by decide)).mono ?_
  rw [show FracN.low 2 1 = (2, 1) from low_one 2]
  intro e wx1 hq
  obtain ⟨⟨v1, v2, rfl, h1, h2, -, -⟩, hk⟩ := hq
  obtain ⟨a1o, a1l, a1c, rfl⟩ := h1.open3
  obtain ⟨b1o, b1l, b1c, rfl⟩ := h2.open3
  obtain ⟨W1, hw, HKs, HB1, hz⟩ := box2 wx1 26 (.slice a1o a1l a1c) (.slice b1o b1l b1c)
  have HN1 := Lib.hid (h1.keep HKs.out); have HD1 := Lib.hid (h2.keep HKs.out); have HW1 := Lib.hid hw
  have K0_1 := Lib.hid (Kp.trans K0_0.out (Kp.trans hk HKs.out))
  have K1_1 := Lib.hid (Kp.refl W1)
  clear h1 h2 hk hw hz HKs
  clear ei ek
  have c10 := (HB1.out.keep K1_1.out).c0; have c11 := (HB1.out.keep K1_1.out).c1
  rw [HW1.out] at c10 c11
  go_wp2_with fail
  rw [← HW1.out]
  clear c10 c11
  refine (PowF_n (a := 2) (b := 1) (n := i) (by decide) (by decide) (by decide) (by decide) (by have := HI4.out; omega) (HN1.out.keep K1_1.out) (HD1.out.keep K1_1.out)).mono ?_
  rw [(fit_two HI4.out).1, (fit_two HI4.out).2]
  intro e wx2 hq
  obtain ⟨⟨v1, v2, rfl, h1, h2, -, -⟩, hk⟩ := hq
  obtain ⟨a2o, a2l, a2c, rfl⟩ := h1.open3
  obtain ⟨b2o, b2l, b2c, rfl⟩ := h2.open3
  obtain ⟨W2, hw, HKs, HB2, hz⟩ := box2 wx2 26 (.slice a2o a2l a2c) (.slice b2o b2l b2c)
  have HN2 := Lib.hid (h1.keep HKs.out); have HD2 := Lib.hid (h2.keep HKs.out); have HW2 := Lib.hid hw
  have K0_2 := Lib.hid (Kp.trans K0_1.out (Kp.trans hk HKs.out))
  have K1_2 := Lib.hid (Kp.trans K1_1.out (Kp.trans hk HKs.out))
  have K2_2 := Lib.hid (Kp.refl W2)
  clear h1 h2 hk hw hz HKs
  have c10 := (HB1.out.keep K1_2.out).c0; have c11 := (HB1.out.keep K1_2.out).c1
  rw [HW2.out] at c10 c11
  go_wp2_with fail
  rw [← HW2.out]
  clear c10 c11
  refine (PowF_n (a := 2) (b := 1) (n := k) (by decide) (by decide) (by decide) (by decide) (by have := HK4.out; omega) (HN1.out.keep K1_2.out) (HD1.out.keep K1_2.out)).mono ?_
  rw [(fit_two HK4.out).1, (fit_two HK4.out).2]
  intro e wx3 hq
  obtain ⟨⟨v1, v2, rfl, h1, h2, -, -⟩, hk⟩ := hq
  obtain ⟨a3o, a3l, a3c, rfl⟩ := h1.open3
  obtain ⟨b3o, b3l, b3c, rfl⟩ := h2.open3
  obtain ⟨W3, hw, HKs, HB3, hz⟩ := box2 wx3 26 (.slice a3o a3l a3c) (.slice b3o b3l b3c)
  have HN3 := Lib.hid (h1.keep HKs.out); have HD3 := Lib.hid (h2.keep HKs.out); have HW3 := Lib.hid hw
  have K0_3 := Lib.hid (Kp.trans K0_2.out (Kp.trans hk HKs.out))
  have K1_3 := Lib.hid (Kp.trans K1_2.out (Kp.trans hk HKs.out))
  have K2_3 := Lib.hid (Kp.trans K2_2.out (Kp.trans hk HKs.out))
  have K3_3 := Lib.hid (Kp.refl W3)
  clear h1 h2 hk hw hz HKs
  have c20 := (HB2.out.keep K2_3.out).c0; have c21 := (HB2.out.keep K2_3.out).c1
  have c30 := (HB3.out.keep K3_3.out).c0; have c31 := (HB3.out.keep K3_3.out).c1
  rw [HW3.out] at c20 c21 c30 c31
  go_wp2_with fail
  rw [← HW3.out]
  clear c20 c21 c30 c31
  refine (Div_low (a := 2 ^ i) (b := 1) (c := 2 ^ k) (d := 1) (by decide) (by decide) (Nat.ne_of_gt (Nat.pow_pos (by decide))) (two_len.2 HI4.out) one_len (two_len.2 HK4.out) one_len (Nat.gcd_one_right _) (Nat.gcd_one_right _) (Nat.le_trans (limbs_mono (FracN.low_le_self _ _).1) (by rw [Nat.mul_one]; exact two_len.2 HI4.out)) (Nat.le_trans (limbs_mono (FracN.low_le_self _ _).2) (by rw [Nat.one_mul]; exact two_len.2 HK4.out)) (HN2.out.keep K2_3.out) (HD2.out.keep K2_3.out) (HN3.out.keep K3_3.out) (HD3.out.keep K3_3.out)).mono ?_
  intro e wx4 hq
  obtain ⟨⟨v1, v2, rfl, h1, h2, -, -⟩, hk⟩ := hq
  obtain ⟨a4o, a4l, a4c, rfl⟩ := h1.open3
  obtain ⟨b4o, b4l, b4c, rfl⟩ := h2.open3
  obtain ⟨W4, hw, HKs, HB4, hz⟩ := box2 wx4 26 (.slice a4o a4l a4c) (.slice b4o b4l b4c)
  have HN4 := Lib.hid (h1.keep HKs.out); have HD4 := Lib.hid (h2.keep HKs.out); have HW4 := Lib.hid hw
  have K0_4 := Lib.hid (Kp.trans K0_3.out (Kp.trans hk HKs.out))
  have K1_4 := Lib.hid (Kp.trans K1_3.out (Kp.trans hk HKs.out))
  have K2_4 := Lib.hid (Kp.trans K2_3.out (Kp.trans hk HKs.out))
  have K3_4 := Lib.hid (Kp.trans K3_3.out (Kp.trans hk HKs.out))
  have K4_4 := Lib.hid (Kp.refl W4)
  clear h1 h2 hk hw hz HKs
  have c40 := (HB4.out.keep K4_4.out).c0; have c41 := (HB4.out.keep K4_4.out).c1
  have c30 := (HB3.out.keep K3_4.out).c0; have c31 := (HB3.out.keep K3_4.out).c1
  rw [HW4.out] at c40 c41 c30 c31
  go_wp2_with fail
  rw [← HW4.out]
  clear c40 c41 c30 c31
  refine (Mul_low (a := (FracN.low (2 ^ i * 1) (1 * 2 ^ k)).1) (b := (FracN.low (2 ^ i * 1) (1 * 2 ^ k)).2) (c := 2 ^ k) (d := 1) (Nat.ne_of_gt (FracN.low_pos (by rw [Nat.one_mul]; exact Nat.pow_pos (by decide)))) (by decide) (Nat.le_trans (limbs_mono (FracN.low_le_self _ _).1) (by rw [Nat.mul_one]; exact two_len.2 HI4.out)) (Nat.le_trans (limbs_mono (FracN.low_le_self _ _).2) (by rw [Nat.one_mul]; exact two_len.2 HK4.out)) (two_len.2 HK4.out) one_len (FracN.low_gcd (by rw [Nat.one_mul]; exact Nat.pow_pos (by decide))) (Nat.gcd_one_right _) (by rw [big_back]; exact two_len.2 HI4.out) (by rw [big_back]; exact one_len) (HN4.out.keep K4_4.out) (HD4.out.keep K4_4.out) (HN3.out.keep K3_4.out) (HD3.out.keep K3_4.out)).mono ?_
  rw [big_back]
  intro e wx5 hq
  obtain ⟨⟨v1, v2, rfl, h1, h2, -, -⟩, hk⟩ := hq
  obtain ⟨a5o, a5l, a5c, rfl⟩ := h1.open3
  obtain ⟨b5o, b5l, b5c, rfl⟩ := h2.open3
  obtain ⟨W5, hw, HKs, HB5, hz⟩ := box2 wx5 26 (.slice a5o a5l a5c) (.slice b5o b5l b5c)
  have HN5 := Lib.hid (h1.keep HKs.out); have HD5 := Lib.hid (h2.keep HKs.out); have HW5 := Lib.hid hw
  have K0_5 := Lib.hid (Kp.trans K0_4.out (Kp.trans hk HKs.out))
  have K1_5 := Lib.hid (Kp.trans K1_4.out (Kp.trans hk HKs.out))
  have K2_5 := Lib.hid (Kp.trans K2_4.out (Kp.trans hk HKs.out))
  have K3_5 := Lib.hid (Kp.trans K3_4.out (Kp.trans hk HKs.out))
  have K4_5 := Lib.hid (Kp.trans K4_4.out (Kp.trans hk HKs.out))
  have K5_5 := Lib.hid (Kp.refl W5)
  clear h1 h2 hk hw hz HKs
  have c50 := (HB5.out.keep K5_5.out).c0; have c51 := (HB5.out.keep K5_5.out).c1
  have c20 := (HB2.out.keep K2_5.out).c0; have c21 := (HB2.out.keep K2_5.out).c1
  rw [HW5.out] at c50 c51 c20 c21
  go_wp2_with fail
  rw [← HW5.out]
  clear c50 c51 c20 c21
  refine (sameFrac_eq (p := (2 ^ i, 1)) (HN5.out.keep K5_5.out) (HD5.out.keep K5_5.out) (HN2.out.keep K2_5.out) (HD2.out.keep K2_5.out)).mono ?_
  rintro e W6 ⟨rfl, hk⟩
  have K0_6 := Lib.hid (Kp.trans K0_5.out hk)
  have K1_6 := Lib.hid (Kp.trans K1_5.out hk)
  have K2_6 := Lib.hid (Kp.trans K2_5.out hk)
  have K3_6 := Lib.hid (Kp.trans K3_5.out hk)
  have K4_6 := Lib.hid (Kp.trans K4_5.out hk)
  have K5_6 := Lib.hid (Kp.trans K5_5.out hk)
  have K6_6 := Lib.hid (Kp.refl W6)
  clear hk
  have c20 := (HB2.out.keep K2_6.out).c0; have c21 := (HB2.out.keep K2_6.out).c1
  have c30 := (HB3.out.keep K3_6.out).c0; have c31 := (HB3.out.keep K3_6.out).c1
  go_wp2_with fail
  clear c20 c21 c30 c31
  refine (Mul_n (a := 2 ^ i) (b := 1) (c := 2 ^ k) (d := 1) (by decide) (by decide) (two_len.2 HI4.out) one_len (two_len.2 HK4.out) one_len (Nat.gcd_one_right _) (Nat.gcd_one_right _) (HN2.out.keep K2_6.out) (HD2.out.keep K2_6.out) (HN3.out.keep K3_6.out) (HD3.out.keep K3_6.out)).mono ?_
  have hE := fit_sum i k
  obtain ⟨E, eE⟩ : ∃ E, E = fitE ((FracN.low (2 ^ i) 1).1 * (FracN.low (2 ^ k) 1).1) ((FracN.low (2 ^ i) 1).2 * (FracN.low (2 ^ k) 1).2) := ⟨_, rfl⟩
  obtain ⟨Pq, eP⟩ : ∃ Pq, Pq = fitP ((FracN.low (2 ^ i) 1).1 * (FracN.low (2 ^ k) 1).1) ((FracN.low (2 ^ i) 1).2 * (FracN.low (2 ^ k) 1).2) := ⟨_, rfl⟩
  rw [← eE, ← eP]
  rw [← eE] at hE
  clear eE eP
  intro e wx7 hq
  obtain ⟨⟨v1, v2, rfl, h1, h2, -, -⟩, hk⟩ := hq
  obtain ⟨a7o, a7l, a7c, rfl⟩ := h1.open3
  obtain ⟨b7o, b7l, b7c, rfl⟩ := h2.open3
  obtain ⟨W7, hw, HKs, HB7, hz⟩ := box2 wx7 26 (.slice a7o a7l a7c) (.slice b7o b7l b7c)
  have HN7 := Lib.hid (h1.keep HKs.out); have HD7 := Lib.hid (h2.keep HKs.out); have HW7 := Lib.hid hw
  have K0_7 := Lib.hid (Kp.trans K0_6.out (Kp.trans hk HKs.out))
  have K1_7 := Lib.hid (Kp.trans K1_6.out (Kp.trans hk HKs.out))
  have K2_7 := Lib.hid (Kp.trans K2_6.out (Kp.trans hk HKs.out))
  have K3_7 := Lib.hid (Kp.trans K3_6.out (Kp.trans hk HKs.out))
  have K4_7 := Lib.hid (Kp.trans K4_6.out (Kp.trans hk HKs.out))
  have K5_7 := Lib.hid (Kp.trans K5_6.out (Kp.trans hk HKs.out))
  have K6_7 := Lib.hid (Kp.trans K6_6.out (Kp.trans hk HKs.out))
  have K7_7 := Lib.hid (Kp.refl W7)
  clear h1 h2 hk hw hz HKs
  go_wp2_with fail
  rw [← HW7.out]
  refine (fawake_any (HT.out.keep K0_7.out)).mono ?_
  rintro e W8 ⟨rfl, hk⟩
  have K0_8 := Lib.hid (Kp.trans K0_7.out hk)
  have K1_8 := Lib.hid (Kp.trans K1_7.out hk)
  have K2_8 := Lib.hid (Kp.trans K2_7.out hk)
  have K3_8 := Lib.hid (Kp.trans K3_7.out hk)
  have K4_8 := Lib.hid (Kp.trans K4_7.out hk)
  have K5_8 := Lib.hid (Kp.trans K5_7.out hk)
  have K6_8 := Lib.hid (Kp.trans K6_7.out hk)
  have K7_8 := Lib.hid (Kp.trans K7_7.out hk)
  have K8_8 := Lib.hid (Kp.refl W8)
  clear hk
  go_wp2_with fail
  go_ret
  exact ⟨rfl, K0_8.out⟩
end Go.Proofs.YtgpochhndjadhaaDoor
