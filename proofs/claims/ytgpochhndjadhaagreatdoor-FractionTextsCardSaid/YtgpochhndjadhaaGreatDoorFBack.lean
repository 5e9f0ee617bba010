/- The law on texts that are read back: it returns true for all lists of digits and all ints. Condition: the library's table of powers of ten holds what its text lays. -/
import Derived.Test.YtgpochhndjadhaaGreatDoorMRd
import Derived.Test.YtgpochhndjadhaaGreatDoorMFp
import Derived.Test.YtgpochhndjadhaaGreatDoorFrc
import Derived.Test.YtgpochhndjadhaaGreatDoorRText
import Derived.Test.YtgpochhndjadhaaGreatDoorRow
namespace Go.Proofs.YtgpochhndjadhaaGreatDoor
open Go.RowKit LimbN
set_option linter.unusedVariables false
set_option linter.unusedSimpArgs false

set_option maxHeartbeats 400000 in
theorem rfmt_n {n : Nat} {va : Value} {w : World} (ha : Sl w va (limbs n)) (hl : (limbs n).length ≤ 128) : Calls Tryz.prog 39 #[va] w fun e w' => e = .returned (.tuple #[.string (decS n), .int .i64 0]) ∧ Kp w w' := by
  have hx := wf_limbs hl
  have hd := Digits_any (V := n) (v := va) (w := w) ha (by omega)
  have HA := Lib.hid ha; have HX := Lib.hid hx; have HD := Lib.hid hd; clear ha hx hd
  go_enter Tryz.func39, Tryz.ntmps39
  go_wp2_with fail
  refine (rcheck_any HA.out).mono ?_
  rintro e w' ⟨rfl, rfl⟩
  rw [HX.out]
  go_wp2_with fail
  refine HD.out.mono ?_
  rintro e w2 ⟨rfl, hk⟩
  have HK := Lib.hid hk; clear hk
  go_wp2
  go_ret2
  exact ⟨rfl, HK.out⟩
/-- The text before the last digit. -/
def preL (n d m : Nat) : List UInt8 := Lib.decDigits (n / d) ++ 46 :: digsB (n % d) d m
theorem rndS_succ (n d m : Nat) : rndS n d (m + 1) = ⟨(preL n d m ++ [digB (n % d) d m]).toArray⟩ := by
  unfold rndS rndL preL
  rw [if_neg (Nat.succ_ne_zero m), digsB_succ]
  simp
theorem rndS_pos {n d m : Nat} (h : m ≠ 0) : rndS n d m = ⟨(preL n d m).toArray⟩ := by
  unfold rndS rndL preL
  rw [if_neg h]
theorem rndS_zero (n d : Nat) : rndS n d 0 = decS (n / d) := by
  unfold rndS rndL decS
  rw [if_pos rfl, List.append_nil]
theorem pre_zero (n d : Nat) : decS (n / d) ++ ⟨#[46]⟩ = ⟨(preL n d 0).toArray⟩ := by
  unfold decS preL
  rw [show (⟨#[46]⟩ : ByteArray) = ⟨[46].toArray⟩ from rfl, app_bytes]
  rfl
set_option maxRecDepth 100000 in
set_option maxHeartbeats 8000000 in
theorem fback_any {xs ys : List Nat} {vx vy : Value} {w : World} (hx : Sl w vx xs) (hy : Sl w vy ys) (z : Int) (hz : -9223372036854775808 ≤ z ∧ z ≤ 9223372036854775807) (htab : Tab w) :
    Calls Tryz.prog 7 #[vx, vy, .int .i64 z] w fun e w' => e = .returned (.bool true) ∧ Kp w w' := by
  have HT := Lib.hid htab; have HX := Lib.hid hx; have HY := Lib.hid hy
  clear htab hx hy
  obtain ⟨t, et⟩ : ∃ t, t = z.tmod 30 := ⟨_, rfl⟩
  have et' : z.tmod 30 = t := et.symm
  have ht : -30 < t ∧ t < 30 := by
    have h1 := Int.tmod_lt_of_pos z (show (0 : Int) < 30 by decide)
    have h3 := Int.tmod_lt_of_pos (-z) (show (0 : Int) < 30 by decide)
    have h4 := Int.neg_tmod z 30
    omega
  obtain ⟨m, hm⟩ : ∃ m : Nat, (m : Int) = (t + 30) % 30 := ⟨((t + 30) % 30).toNat, by omega⟩
  have em : (t + 30) % 30 = (m : Int) := hm.symm
  have em' : (t + 30).tmod 30 = (m : Int) := by rw [Int.tmod_eq_emod_of_nonneg (by omega)]; exact em
  have hm30 : m < 30 := by omega
  have HM30 := Lib.hid hm30
  obtain ⟨m1, hm1⟩ : ∃ m1, m1 = m + 1 := ⟨_, rfl⟩
  have em1 : (m : Int) + 1 = (m1 : Int) := by omega
  have HM1 := Lib.hid hm1
  have ET := Lib.hid et'; have EM := Lib.hid em; have EM' := Lib.hid em'; have EM1 := Lib.hid em1; have HTT := Lib.hid ht
  clear et et' hm em em' hm30 hm1 em1 ht
  go_enter Tryz.func7, Tryz.ntmps7
  go_wp2_with fail
  refine (ffrac_any HX.out HY.out 0 (by decide)).mono ?_
  rintro e w1 ⟨⟨v1, v2, rfl, h1, h2⟩, hk⟩
  obtain ⟨N, hN⟩ : ∃ N, N = val (xs.take 8) := ⟨_, rfl⟩
  obtain ⟨M, hM⟩ : ∃ M, M = if val (ys.take 8) = 0 then 1 else val (ys.take 8) := ⟨_, rfl⟩
  have e1 : frN xs ys 0 = limbs (FracN.low N M).1 := by rw [hN, hM]; exact if_neg (by decide)
  have e2 : frD xs ys 0 = limbs (FracN.low N M).2 := by rw [hN, hM]; exact if_neg (by decide)
  have hM0 : 0 < M := by rw [hM]; split <;> omega
  have lN : (limbs N).length ≤ 8 := by rw [hN]; exact limbs_take HX.out.lt
  have lM : (limbs M).length ≤ 8 := by
    rw [hM]; split
    · decide
    · exact limbs_take HY.out.lt
  have g1 := FracN.low_gcd (n := N) hM0
  have p1 := FracN.low_pos (n := N) hM0
  have ll := FracN.low_le_self N M
  rw [e1] at h1
  rw [e2] at h2
  obtain ⟨n, en⟩ : ∃ n, n = (FracN.low N M).1 := ⟨_, rfl⟩
  obtain ⟨d, ed⟩ : ∃ d, d = (FracN.low N M).2 := ⟨_, rfl⟩
  rw [← en] at h1 g1 ll
  rw [← ed] at h2 g1 p1 ll
  have L1 := Lib.hid (Nat.le_trans (limbs_mono ll.1) lN); have L2 := Lib.hid (Nat.le_trans (limbs_mono ll.2) lM)
  have D0 := Lib.hid (Nat.ne_of_gt p1); have HG := Lib.hid g1
  have M1 := Lib.hid (Nat.le_trans L1.out (show 8 ≤ 128 by decide)); have M2 := Lib.hid (Nat.le_trans L2.out (show 8 ≤ 128 by decide))
  obtain ⟨ao, al, ac, rfl⟩ := h1.open3
  obtain ⟨bo, bl, bc, rfl⟩ := h2.open3
  obtain ⟨W, hW, HKW, HB7, hzW⟩ := box2 w1 25 (.slice ao al ac) (.slice bo bl bc)
  have HN7 := Lib.hid (h1.keep HKW.out); have HD7 := Lib.hid (h2.keep HKW.out); have K0 := Lib.hid (Kp.trans hk HKW.out); have HW := Lib.hid hW
  clear h1 h2 hk e1 e2 hM0 lN lM g1 p1 ll en ed hN hM hW HKW hzW
  obtain ⟨S, hS⟩ : ∃ S, S = fracS n d := ⟨_, rfl⟩
  have c70 := HB7.out.c0; have c71 := HB7.out.c1
  rw [HW.out] at c70 c71
  go_wp2_with fail
  rw [← HW.out]
  clear c70 c71
  refine (FFormat_n M1.out M2.out D0.out HG.out HN7.out HD7.out (HT.out.keep K0.out)).mono ?_
  rw [← hS]
  rintro e w2 ⟨rfl, hk⟩
  have K2 := Lib.hid hk
  clear hk
  have HP := Lib.hid (FParse_n (w := w2) L1.out L2.out D0.out HG.out)
  rw [← hS] at HP
  clear hS
  go_wp2_with fail
  refine HP.out.mono ?_
  intro e w3 hq
  obtain ⟨⟨u1, u2, rfl, h1, h2, -, -⟩, hk⟩ := hq
  obtain ⟨co, cl, cc, rfl⟩ := h1.open3
  obtain ⟨do', dl, dc', rfl⟩ := h2.open3
  obtain ⟨X, hX, HKX, HB10, hzX⟩ := box2 w3 25 (.slice co cl cc) (.slice do' dl dc')
  have HN10 := Lib.hid (h1.keep HKX.out); have HD10 := Lib.hid (h2.keep HKX.out); have K3 := Lib.hid (Kp.trans K2.out (Kp.trans hk HKX.out)); have HXX := Lib.hid hX
  clear h1 h2 hk hX HKX hzX HP
  have c70 := (HB7.out.keep K3.out).c0; have c71 := (HB7.out.keep K3.out).c1; have c80 := HB10.out.c0; have c81 := HB10.out.c1
  rw [HXX.out] at c70 c71 c80 c81
  go_wp2_with fail
  rw [← HXX.out]
  clear c70 c71 c80 c81
  refine (sameFrac_eq (p := (n, d)) (HN7.out.keep K3.out) (HD7.out.keep K3.out) HN10.out HD10.out).mono ?_
  rintro e w4 ⟨rfl, hk⟩
  have K4 := Lib.hid (Kp.trans K3.out hk)
  clear hk HB10 HN10 HD10
  obtain ⟨U, hU⟩ : ∃ U, U = rndS n d m := ⟨_, rfl⟩
  obtain ⟨V, hV⟩ : ∃ V, V = rndS n d m1 := ⟨_, rfl⟩
  obtain ⟨D, hD⟩ : ∃ D, D = decS (n / d) := ⟨_, rfl⟩
  have HU := Lib.hid hU; have HV := Lib.hid hV; have HDD := Lib.hid hD
  clear hU hV hD
  have c70 := (HB7.out.keep K4.out).c0; have c71 := (HB7.out.keep K4.out).c1
  have et := ET.out; have em := EM.out; have em' := EM'.out; have ht := HTT.out.1; have ht2 := HTT.out.2
  have hm30 := HM30.out
  go_wp2_with fail
  clear c70 c71 em em' et
  refine (Round_n (k := m) L1.out L2.out D0.out HG.out (by omega) (HN7.out.keep K4.out) (HD7.out.keep K4.out) (HT.out.keep (Kp.trans K0.out K4.out))).mono ?_
  rw [← HU.out]
  rintro e w5 ⟨rfl, hk⟩
  have K5 := Lib.hid (Kp.trans K4.out hk)
  clear hk
  have c70 := (HB7.out.keep K5.out).c0; have c71 := (HB7.out.keep K5.out).c1
  have em1 := EM1.out
  go_wp2_with fail
  clear c70 c71 em1
  refine (Round_n (k := m1) L1.out L2.out D0.out HG.out (by have := HM1.out; omega) (HN7.out.keep K5.out) (HD7.out.keep K5.out) (HT.out.keep (Kp.trans K0.out K5.out))).mono ?_
  rw [← HV.out]
  rintro e w6 ⟨rfl, hk⟩
  have K6 := Lib.hid (Kp.trans K5.out hk)
  clear hk
  have c70 := (HB7.out.keep K6.out).c0; have c71 := (HB7.out.keep K6.out).c1
  go_wp2_with fail
  clear c70 c71
  refine (Round_n (k := 0) L1.out L2.out D0.out HG.out (by decide) (HN7.out.keep K6.out) (HD7.out.keep K6.out) (HT.out.keep (Kp.trans K0.out K6.out))).mono ?_
  rw [rndS_zero, ← HDD.out]
  rintro e w7 ⟨rfl, hk⟩
  have K7 := Lib.hid (Kp.trans K6.out hk)
  clear hk
  have c70 := (HB7.out.keep K7.out).c0; have c71 := (HB7.out.keep K7.out).c1
  go_wp2_with fail
  clear c70 c71
  refine (Floor_n L1.out L2.out D0.out HG.out (HN7.out.keep K7.out) (HD7.out.keep K7.out)).mono ?_
  rintro e w8 ⟨⟨vf, rfl, h1⟩, hk⟩
  have HF := Lib.hid h1; have K8 := Lib.hid (Kp.trans K7.out hk)
  clear h1 hk
  go_wp2_with fail
  refine (rfmt_n HF.out (Nat.le_trans (limbs_mono (Nat.div_le_self _ _)) M1.out)).mono ?_
  rw [← HDD.out]
  rintro e w9 ⟨rfl, hk⟩
  have K9 := Lib.hid (Kp.trans K8.out hk)
  clear hk
  -- the texts
  obtain ⟨L, hL⟩ : ∃ L, L = preL n d m := ⟨_, rfl⟩
  obtain ⟨B, hB⟩ : ∃ B : ByteArray, B = ⟨L.toArray⟩ := ⟨_, rfl⟩
  have hVL : V = ⟨(L ++ [digB (n % d) d m]).toArray⟩ := by rw [HV.out, HM1.out, rndS_succ, hL]
  obtain ⟨k1, hk1⟩ : ∃ k1, k1 = L.length := ⟨_, rfl⟩
  obtain ⟨k2, hk2⟩ : ∃ k2, k2 = k1 + 1 := ⟨_, rfl⟩
  have hLL : L.length ≤ 200 := by
    rw [hL]; unfold preL
    have lq : (limbs (n / d)).length ≤ 8 := Nat.le_trans (limbs_mono (Nat.div_le_self _ _)) L1.out
    have zq := dec_size (n / d) 8 (by decide) (limbs_len_le.1 lq)
    have e : (decS (n / d)).size = (Lib.decDigits (n / d)).length := rfl
    rw [List.length_append, List.length_cons, digsB_len]
    omega
  have qB : ∀ w : World, (Builtin.len_ #[9] 3 #[.string B]).run Tryz.prog w = .ok (goInt k1) w := fun w => by rw [run_len_string w _ _ B Tryz.underlying9, hB, hk1]; rfl
  have qV : ∀ w : World, (Builtin.len_ #[9] 3 #[.string V]).run Tryz.prog w = .ok (goInt k2) w := fun w => by rw [run_len_string w _ _ V Tryz.underlying9, hVL, hk2, hk1, bsize]; simp
  have qS : ∀ w : World, (Instr.slice 9 (.string V) none (some (.int .i64 (k1 : Int))) none).run Tryz.prog w = .ok (.string B) w := fun w => by
    rw [run_slice_string_h w 9 V Tryz.underlying9 .i64 k1 (by omega) (by rw [hVL, bsize]; simp; omega), Int.toNat_natCast, hVL, hk1, ext_to, hB]
  have e12 : (k1 : Int) + 1 = (k2 : Int) := by omega
  have hk1l : k1 ≤ 200 := by omega
  by_cases h0 : m = 0
  · have hUB : U ++ ⟨#[46]⟩ = B := by rw [HU.out, h0, rndS_zero, pre_zero, hB, hL, h0]
    have hUz : ¬ (9223372036854775807 < U.size + 1) := by
      have : (U ++ ⟨#[46]⟩ : ByteArray).size = U.size + 1 := by rw [ByteArray.size_append]; rfl
      rw [hUB, hB, bsize] at this
      omega
    subst h0
    clear HU HV HDD hL hB hVL hk1 hk2 hLL
    go_wp2_with fail
    refine (fawake_any (HT.out.keep (Kp.trans K0.out K9.out))).mono ?_
    rintro e wa ⟨rfl, hk⟩
    have HKA := Lib.hid (Kp.trans (Kp.trans K0.out K9.out) hk)
    clear hk
    go_wp2_with fail
    go_ret
    exact ⟨rfl, HKA.out⟩
  · have hUB : U = B := by rw [HU.out, rndS_pos h0, hB, hL]
    have hm0 : ((m : Int) == 0) = false := beq_eq_false_iff_ne.2 (by omega)
    subst hUB
    clear HU HV HDD hL hB hVL hk1 hk2 hLL h0
    go_wp2_with fail
    refine (fawake_any (HT.out.keep (Kp.trans K0.out K9.out))).mono ?_
    rintro e wa ⟨rfl, hk⟩
    have HKA := Lib.hid (Kp.trans (Kp.trans K0.out K9.out) hk)
    clear hk
    go_wp2_with fail
    go_ret
    exact ⟨rfl, HKA.out⟩
end Go.Proofs.YtgpochhndjadhaaGreatDoor
