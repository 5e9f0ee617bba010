/- The law on products over sums, quotients with remainders, divisors and differences: it returns true for all lists of digits. Condition: the library's table of powers of ten holds what its text lays. -/
import Derived.Test.YtfcpfmjoelhlnaaDoorNn
import Derived.Test.YtfcpfmjoelhlnaaDoorReads
namespace Go.Proofs.YtfcpfmjoelhlnaaDoor
open Go.RowKit LimbN

theorem lmul {a b i j : Nat} (ha : a < 4294967296 ^ i) (hb : b < 4294967296 ^ j) : a * b < 4294967296 ^ (i + j) := by
  rw [Nat.pow_add]
  rcases Nat.eq_zero_or_pos b with h | h
  · subst h; exact Nat.mul_pos (Nat.pow_pos (by omega)) (Nat.pow_pos (by omega))
  · exact Nat.lt_of_lt_of_le (Nat.mul_lt_mul_of_pos_right ha h) (Nat.mul_le_mul_left _ (Nat.le_of_lt hb))
theorem ladd {a b i : Nat} (ha : a < 4294967296 ^ i) (hb : b < 4294967296 ^ i) : a + b < 4294967296 ^ (i + 1) := by rw [Nat.pow_succ]; omega
theorem small20' {xs : List Nat} (h : Lt xs) : val (xs.take 20) < 4294967296 ^ 20 := pow_max (by simp; omega) (val_lt (h.take 20))
set_option maxRecDepth 100000 in
set_option maxHeartbeats 4000000 in
theorem laws_any {xs ys zs : List Nat} {vx vy vz : Value} {w : World} (hx : Sl w vx xs) (hy : Sl w vy ys) (hz : Sl w vz zs) (htab : Tab w) :
    Calls Tryd.prog 5 #[vx, vy, vz] w fun e w' => e = .returned (.bool true) ∧ Kp w w' := by
  have BA := Lib.hid (small20' hx.lt); have BB := Lib.hid (small20' hy.lt); have BC := Lib.hid (small20' hz.lt)
  have HT := Lib.hid htab; have HX := Lib.hid hx; have HY := Lib.hid hy; have HZ := Lib.hid hz; clear htab hx hy hz
  go_enter Tryd.func5, Tryd.ntmps5
  go_wp2_with fail
  refine (ltrim_any HX.out).mono ?_
  rintro e w1 ⟨⟨va, rfl, ha⟩, rfl⟩
  have HA := Lib.hid ha; clear ha
  go_wp2_with fail
  refine (ltrim_any HY.out).mono ?_
  rintro e w1 ⟨⟨vb, rfl, hb⟩, rfl⟩
  have HB := Lib.hid hb; clear hb
  go_wp2_with fail
  refine (ltrim_any HZ.out).mono ?_
  rintro e w1 ⟨⟨vc, rfl, hc⟩, rfl⟩
  have HC := Lib.hid hc; clear hc
  obtain ⟨a, ha⟩ : ∃ a, a = val (xs.take 20) := ⟨_, rfl⟩
  obtain ⟨b, hb⟩ : ∃ b, b = val (ys.take 20) := ⟨_, rfl⟩
  obtain ⟨c, hc⟩ : ∃ c, c = val (zs.take 20) := ⟨_, rfl⟩
  rw [← ha] at HA BA
  rw [← hb] at HB BB
  rw [← hc] at HC BC
  clear ha hb hc
  obtain ⟨co, cc, rfl, hcl, hcm, -⟩ := HC.out.ex
  unfold maxLen at hcm
  have LC := Lib.hid (limbs_len_zero (n := c))
  obtain ⟨lc, elc⟩ : ∃ lc, lc = (limbs c).length := ⟨_, rfl⟩
  rw [← elc] at hcl HC LC ⊢
  clear elc
  have FA := Lib.hid (fit BA.out (by omega)); have FB := Lib.hid (fit BB.out (by omega)); have FC := Lib.hid (fit BC.out (by omega))
  have BS := Lib.hid (ladd BA.out BB.out); have FS := Lib.hid (fit BS.out (by omega))
  have FP := Lib.hid (fit (lmul BS.out BC.out) (by omega)); have BQ := Lib.hid (lmul BA.out BC.out); have BR := Lib.hid (lmul BB.out BC.out)
  have FQ := Lib.hid (fit BQ.out (by omega)); have FR := Lib.hid (fit BR.out (by omega)); have FT := Lib.hid (fit (ladd BQ.out BR.out) (by omega))
  have E1 : Hid ((a + b) * c = a * c + b * c) := Nat.add_mul a b c
  have E2 : Hid (a + b - b = a) := Nat.add_sub_cancel a b
  have E3 : Hid (Nat.gcd (a * c) (b * c) = Nat.gcd a b * c) := Nat.gcd_mul_right a c b
  have H0 : Hid (All w [(va, a), (vb, b), (.slice co lc cc, c)]) := ⟨HA.out, HB.out, HC.out, trivial⟩
  have K0 : Hid (Kp w w) := Kp.refl w
  clear HA HB HC
  go_wp2_with fail
  refine (add_n (H0.out.1) (H0.out.2.1) FS.out).mono ?_
  intro e wa1 h
  obtain ⟨⟨vs, rfl, hs, -⟩, hk⟩ := h
  have H1 : Hid (All wa1 [(vs, a + b), (va, a), (vb, b), ((.slice co lc cc), c)]) := ⟨hs, H0.out.keep hk⟩; have K1 := Lib.hid (Kp.trans K0.out hk)
  clear hs hk H0 K0
  go_wp2_with fail
  refine (mul_n (H1.out.1) (H1.out.2.2.2.1) FS.out FC.out FP.out).mono ?_
  intro e wa2 h
  obtain ⟨⟨vp, rfl, hs, -⟩, hk⟩ := h
  have H2 : Hid (All wa2 [(vp, (a + b) * c), (vs, a + b), (va, a), (vb, b), ((.slice co lc cc), c)]) := ⟨hs, H1.out.keep hk⟩; have K2 := Lib.hid (Kp.trans K1.out hk)
  clear hs hk H1 K1
  go_wp2_with fail
  refine (mul_n (H2.out.2.2.1) (H2.out.2.2.2.2.1) FA.out FC.out FQ.out).mono ?_
  intro e wa3 h
  obtain ⟨⟨vq, rfl, hs, -⟩, hk⟩ := h
  have H3 : Hid (All wa3 [(vq, a * c), (vp, (a + b) * c), (vs, a + b), (va, a), (vb, b), ((.slice co lc cc), c)]) := ⟨hs, H2.out.keep hk⟩; have K3 := Lib.hid (Kp.trans K2.out hk)
  clear hs hk H2 K2
  go_wp2_with fail
  refine (mul_n (H3.out.2.2.2.2.1) (H3.out.2.2.2.2.2.1) FB.out FC.out FR.out).mono ?_
  intro e wa4 h
  obtain ⟨⟨vr, rfl, hs, -⟩, hk⟩ := h
  have H4 : Hid (All wa4 [(vr, b * c), (vq, a * c), (vp, (a + b) * c), (vs, a + b), (va, a), (vb, b), ((.slice co lc cc), c)]) := ⟨hs, H3.out.keep hk⟩; have K4 := Lib.hid (Kp.trans K3.out hk)
  clear hs hk H3 K3
  go_wp2_with fail
  refine (add_n (H4.out.2.1) (H4.out.1) FT.out).mono ?_
  intro e wa5 h
  obtain ⟨⟨vt, rfl, hs, -⟩, hk⟩ := h
  have H5 : Hid (All wa5 [(vt, a * c + b * c), (vr, b * c), (vq, a * c), (vp, (a + b) * c), (vs, a + b), (va, a), (vb, b), ((.slice co lc cc), c)]) := ⟨hs, H4.out.keep hk⟩; have K5 := Lib.hid (Kp.trans K4.out hk)
  clear hs hk H4 K4
  go_wp2_with fail
  refine (sub_n (H5.out.2.2.2.2.1) (H5.out.2.2.2.2.2.2.1) FS.out (Nat.le_add_left b a)).mono ?_
  intro e wa6 h
  obtain ⟨⟨vd, rfl, hs, -⟩, hk⟩ := h
  have H6 : Hid (All wa6 [(vd, a + b - b), (vt, a * c + b * c), (vr, b * c), (vq, a * c), (vp, (a + b) * c), (vs, a + b), (va, a), (vb, b), ((.slice co lc cc), c)]) := ⟨hs, H5.out.keep hk⟩; have K6 := Lib.hid (Kp.trans K5.out hk)
  clear hs hk H5 K5
  go_wp2_with fail
  refine (same_n (H6.out.2.2.2.2.1) (H6.out.2.1) E1.out).mono ?_
  intro e wa7 h
  obtain ⟨rfl, hk⟩ := h
  have H7 := Lib.hid (H6.out.keep hk); have K7 := Lib.hid (Kp.trans K6.out hk)
  clear hk H6 K6
  go_wp2_with fail
  refine (same_n (H7.out.1) (H7.out.2.2.2.2.2.2.1) E2.out).mono ?_
  intro e wa8 h
  obtain ⟨rfl, hk⟩ := h
  have H8 := Lib.hid (H7.out.keep hk); have K8 := Lib.hid (Kp.trans K7.out hk)
  clear hk H7 K7
  go_wp2_with fail
  refine (gcd_n (H8.out.2.2.2.1) (H8.out.2.2.1) FQ.out FR.out).mono ?_
  intro e wa9 h
  obtain ⟨⟨vg, rfl, hs, -⟩, hk⟩ := h
  have H9 : Hid (All wa9 [(vg, Nat.gcd (a * c) (b * c)), (vd, a + b - b), (vt, a * c + b * c), (vr, b * c), (vq, a * c), (vp, (a + b) * c), (vs, a + b), (va, a), (vb, b), ((.slice co lc cc), c)]) := ⟨hs, H8.out.keep hk⟩; have K9 := Lib.hid (Kp.trans K8.out hk)
  clear hs hk H8 K8
  go_wp2_with fail
  refine (gcd_n (H9.out.2.2.2.2.2.2.2.1) (H9.out.2.2.2.2.2.2.2.2.1) FA.out FB.out).mono ?_
  intro e wa10 h
  obtain ⟨⟨vh, rfl, hs, -⟩, hk⟩ := h
  have H10 : Hid (All wa10 [(vh, Nat.gcd a b), (vg, Nat.gcd (a * c) (b * c)), (vd, a + b - b), (vt, a * c + b * c), (vr, b * c), (vq, a * c), (vp, (a + b) * c), (vs, a + b), (va, a), (vb, b), ((.slice co lc cc), c)]) := ⟨hs, H9.out.keep hk⟩; have K10 := Lib.hid (Kp.trans K9.out hk)
  clear hs hk H9 K9
  have FH := Lib.hid (gcd_len FA.out FB.out); have FK : Hid ((limbs (Nat.gcd a b * c)).length ≤ 128) := E3.out ▸ gcd_len FQ.out FR.out
  go_wp2_with fail
  refine (mul_n (H10.out.1) (H10.out.2.2.2.2.2.2.2.2.2.2.1) FH.out FC.out FK.out).mono ?_
  intro e wa11 h
  obtain ⟨⟨vk, rfl, hs, -⟩, hk⟩ := h
  have H11 : Hid (All wa11 [(vk, Nat.gcd a b * c), (vh, Nat.gcd a b), (vg, Nat.gcd (a * c) (b * c)), (vd, a + b - b), (vt, a * c + b * c), (vr, b * c), (vq, a * c), (vp, (a + b) * c), (vs, a + b), (va, a), (vb, b), ((.slice co lc cc), c)]) := ⟨hs, H10.out.keep hk⟩; have K11 := Lib.hid (Kp.trans K10.out hk)
  clear hs hk H10 K10
  go_wp2_with fail
  refine (same_n (H11.out.2.2.1) (H11.out.1) E3.out).mono ?_
  intro e wa12 h
  obtain ⟨rfl, hk⟩ := h
  have H12 := Lib.hid (H11.out.keep hk); have K12 := Lib.hid (Kp.trans K11.out hk)
  clear hk H11 K11
  by_cases hc0 : lc = 0
  · subst hc0
    go_wp2_with fail
    refine (awake_any wa12 (HT.out.keep K12.out)).mono ?_
    rintro e wz ⟨rfl, hk⟩
    have KZ := Lib.hid (Kp.trans K12.out hk); clear hk
    go_wp2
    go_ret
    exact ⟨rfl, KZ.out⟩
  · have hcn : c ≠ 0 := fun h => hc0 (LC.out.2 h)
    have hlz : ((lc : Int) == 0) = false := beq_eq_false_iff_ne.2 (by omega)
    have CN := Lib.hid hcn; clear hcn
    go_wp2_with fail
    refine (divide_n (H12.out.2.2.2.2.2.2.2.2.1) (H12.out.2.2.2.2.2.2.2.2.2.2.2.1) FS.out FC.out CN.out).mono ?_
    intro e wa13 h
    obtain ⟨⟨vu, vv, rfl, hs, hr, -, -⟩, hk⟩ := h
    have H13 : Hid (All wa13 [(vu, (a + b) / c), (vv, (a + b) % c), (vk, Nat.gcd a b * c), (vh, Nat.gcd a b), (vg, Nat.gcd (a * c) (b * c)), (vd, a + b - b), (vt, a * c + b * c), (vr, b * c), (vq, a * c), (vp, (a + b) * c), (vs, a + b), (va, a), (vb, b), ((.slice co lc cc), c)]) := ⟨hs, hr, H12.out.keep hk⟩; have K13 := Lib.hid (Kp.trans K12.out hk)
    clear hs hr hk H12 K12
    have hle : (a + b) / c * c ≤ a + b := Nat.div_mul_le_self _ _
    have FU := Lib.hid (Nat.le_trans (limbs_mono (Nat.div_le_self (a + b) c)) FS.out); have FV := Lib.hid (Nat.le_trans (limbs_mono (Nat.mod_le (a + b) c)) FS.out); have FW := Lib.hid (Nat.le_trans (limbs_mono hle) FS.out)
    have E4 : Hid ((a + b) / c * c + (a + b) % c = a + b) := by show _ = _; rw [Nat.mul_comm]; exact Nat.div_add_mod _ _
    have E5 : Hid ((a + b) % c < c) := Nat.mod_lt _ (Nat.pos_of_ne_zero CN.out)
    have FO : Hid ((limbs ((a + b) / c * c + (a + b) % c)).length ≤ 128) := by show _ ≤ _; rw [E4.out]; exact FS.out
    clear hle
    go_wp2_with fail
    refine (mul_n (H13.out.1) (H13.out.2.2.2.2.2.2.2.2.2.2.2.2.2.1) FU.out FC.out FW.out).mono ?_
    intro e wa14 h
    obtain ⟨⟨vw, rfl, hs, -⟩, hk⟩ := h
    have H14 : Hid (All wa14 [(vw, (a + b) / c * c), (vu, (a + b) / c), (vv, (a + b) % c), (vk, Nat.gcd a b * c), (vh, Nat.gcd a b), (vg, Nat.gcd (a * c) (b * c)), (vd, a + b - b), (vt, a * c + b * c), (vr, b * c), (vq, a * c), (vp, (a + b) * c), (vs, a + b), (va, a), (vb, b), ((.slice co lc cc), c)]) := ⟨hs, H13.out.keep hk⟩; have K14 := Lib.hid (Kp.trans K13.out hk)
    clear hs hk H13 K13
    go_wp2_with fail
    refine (add_n (H14.out.1) (H14.out.2.2.1) FO.out).mono ?_
    intro e wa15 h
    obtain ⟨⟨vo, rfl, hs, -⟩, hk⟩ := h
    have H15 : Hid (All wa15 [(vo, (a + b) / c * c + (a + b) % c), (vw, (a + b) / c * c), (vu, (a + b) / c), (vv, (a + b) % c), (vk, Nat.gcd a b * c), (vh, Nat.gcd a b), (vg, Nat.gcd (a * c) (b * c)), (vd, a + b - b), (vt, a * c + b * c), (vr, b * c), (vq, a * c), (vp, (a + b) * c), (vs, a + b), (va, a), (vb, b), ((.slice co lc cc), c)]) := ⟨hs, H14.out.keep hk⟩; have K15 := Lib.hid (Kp.trans K14.out hk)
    clear hs hk H14 K14
    go_wp2_with fail
    refine (less_n (H15.out.2.2.2.1) (H15.out.2.2.2.2.2.2.2.2.2.2.2.2.2.2.2.1) FV.out FC.out E5.out).mono ?_
    intro e wa16 h
    obtain ⟨rfl, hk⟩ := h
    have H16 := Lib.hid (H15.out.keep hk); have K16 := Lib.hid (Kp.trans K15.out hk)
    clear hk H15 K15
    go_wp2_with fail
    refine (same_n (H16.out.1) (H16.out.2.2.2.2.2.2.2.2.2.2.2.2.1) E4.out).mono ?_
    intro e wa17 h
    obtain ⟨rfl, hk⟩ := h
    have H17 := Lib.hid (H16.out.keep hk); have K17 := Lib.hid (Kp.trans K16.out hk)
    clear hk H16 K16
    go_wp2_with fail
    refine (awake_any wa17 (HT.out.keep K17.out)).mono ?_
    rintro e wz ⟨rfl, hk⟩
    have KZ := Lib.hid (Kp.trans K17.out hk); clear hk
    go_wp2
    go_ret
    exact ⟨rfl, KZ.out⟩
end Go.Proofs.YtfcpfmjoelhlnaaDoor
