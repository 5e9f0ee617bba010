/- The numbers of a difference of fractions by whole parts and complements. Conditions: both fractions are in lowest terms, the second one is not greater, and the products crosswise have room. -/
import Derived.Test.YtgpochhndjadhaaGreatDoorMCa
namespace Go.Proofs.YtgpochhndjadhaaGreatDoor
open Go.RowKit LimbN
set_option linter.unusedVariables false
set_option linter.unusedSimpArgs false

/-- How often the denominator is taken away, and the numerator of the difference. -/
def subW (W S den : Nat) : Nat := if den ≤ S then W else W - 1
structure SubN (a b c d g fa fb k den : Nat) : Prop where
  pn : PN (a % b) b (d - c % d) d g fa fb k den
  lt1 : a % b * fa / k < den
  le2 : up2 (d - c % d) fb k ≤ den
  fl : c / d ≤ a / b
  one : ¬ den ≤ a % b * fa / k + up2 (d - c % d) fb k → 1 ≤ a / b - c / d
  low : FracN.low (a * d - c * b) (b * d) = (subW (a / b - c / d) (a % b * fa / k + up2 (d - c % d) fb k) den * den + (a % b * fa / k + up2 (d - c % d) fb k) % den, den)
  la : (limbs a).length ≤ 128
  lc : (limbs c).length ≤ 128
  lm : (limbs (subW (a / b - c / d) (a % b * fa / k + up2 (d - c % d) fb k) den * den + (a % b * fa / k + up2 (d - c % d) fb k) % den)).length ≤ 128
theorem gcd_mod {a b : Nat} (h : Nat.gcd a b = 1) : Nat.gcd (a % b) b = 1 := by rw [← Nat.gcd_rec, Nat.gcd_comm]; exact h
theorem gcd_comp {c d : Nat} (hd : 0 < d) (hcd : Nat.gcd c d = 1) : Nat.gcd (d - c % d) d = 1 := by
  have hr := Nat.mod_lt c hd
  have g3 := gcd_mod hcd
  obtain ⟨r, er⟩ : ∃ r, r = c % d := ⟨_, rfl⟩
  rw [← er] at g3 hr ⊢
  obtain ⟨t, rfl⟩ : ∃ t, d = t + r := ⟨d - r, by omega⟩
  rw [Nat.gcd_add_self_right] at g3
  rw [Nat.add_sub_cancel, Nat.gcd_self_add_right, Nat.gcd_comm]; exact g3
theorem SubN.of {a b c d : Nat} (hb : b ≠ 0) (hd : d ≠ 0) (hab : Nat.gcd a b = 1) (hcd : Nat.gcd c d = 1) (hle : c * b ≤ a * d) (hs : (limbs (a * d)).length ≤ 128) (ht : (limbs (2 * (b * d))).length ≤ 128) :
    ∃ g fa fb k den, SubN a b c d g fa fb k den := by
  have hb' := Nat.pos_of_ne_zero hb
  have hd' := Nat.pos_of_ne_zero hd
  have hra := Nat.mod_lt a hb'
  have hrc := Nat.mod_lt c hd'
  have G1 := gcd_mod hab
  have G2 := gcd_comp hd' hcd
  have hfl := FracN.floor_mono hb' hd' hle
  have m1 : a % b * d ≤ b * d := Nat.mul_le_mul_right _ (Nat.le_of_lt hra)
  have m2 : (d - c % d) * b ≤ b * d := by rw [Nat.mul_comm b d]; exact Nat.mul_le_mul_right _ (Nat.sub_le _ _)
  obtain ⟨g, fa, fb, k, den, hp, hl⟩ := PN.of (a := a % b) (b := b) (c := d - c % d) (d := d) hb hd G1 G2 (Nat.le_trans (limbs_mono (by omega)) ht) (Nat.le_trans (limbs_mono (by omega)) ht)
  have hk := Nat.pos_of_ne_zero hp.k0
  have hdk : k ∣ d := Nat.dvd_trans hp.kdvd (by rw [hp.eg]; exact Nat.gcd_dvd_right _ _)
  have hden : den * k = fb * d := by rw [hp.eden, Nat.mul_assoc, Nat.div_mul_cancel hdk]
  have hbfa : b * fa = fb * d := by rw [← hp.gfb, ← hp.gfa]; ac_rfl
  have hfa : 0 < fa := by
    rcases Nat.eq_zero_or_pos fa with h | h
    · have := hp.gfa; rw [h] at this; omega
    · exact h
  have hsum := hp.sum
  have l1 : a % b * fa / k < den := by
    rw [Nat.div_lt_iff_lt_mul hk, hden, ← hbfa]
    exact Nat.mul_lt_mul_of_pos_right hra hfa
  have l2 : up2 (d - c % d) fb k ≤ den := by
    have h1 : (d - c % d) * fb ≤ den * k := by rw [hden, Nat.mul_comm fb d]; exact Nat.mul_le_mul_right _ (Nat.sub_le _ _)
    unfold up2
    have h2 := Nat.div_add_mod ((d - c % d) * fb) k
    split
    · rename_i h0
      rw [h0, Nat.add_zero] at h2
      exact Nat.le_of_mul_le_mul_left (by rw [Nat.add_zero, h2, Nat.mul_comm k den]; exact h1) hk
    · rename_i h0
      have h3 : (d - c % d) * fb / k < den := by
        rcases Nat.lt_or_ge ((d - c % d) * fb / k) den with h | h
        · exact h
        · have := Nat.mul_le_mul_left k h
          rw [Nat.mul_comm k den] at this
          omega
      omega
  obtain ⟨W, hW⟩ : ∃ W, W = a / b - c / d := ⟨_, rfl⟩
  obtain ⟨S, hS⟩ : ∃ S, S = a % b * fa / k + up2 (d - c % d) fb k := ⟨_, rfl⟩
  have hSN : S = (a % b * fa + (d - c % d) * fb) / k := by rw [hS, hsum]
  have hden0 : 0 < den := by omega
  have P : FracN.Parts (a % b) b (d - c % d) d g fa fb (a % b * fa + (d - c % d) * fb) k den := ⟨hp.eg, by rw [Nat.mul_comm]; exact hp.gfa, by rw [Nat.mul_comm]; exact hp.gfb, rfl, hp.ek, hden⟩
  have one : ¬ den ≤ S → 1 ≤ W := by
    intro h
    rcases Nat.eq_zero_or_pos W with h0 | h0
    · exfalso
      apply h
      have e : a / b = c / d := by omega
      have ea := Nat.div_add_mod a b
      have ec := Nat.div_add_mod c d
      have h1 : c % d * b ≤ a % b * d := by
        have e1 : c * b = c / d * (b * d) + c % d * b := by
          conv => lhs; rw [← ec]
          rw [Nat.add_mul]; ac_rfl
        have e2 : a * d = a / b * (b * d) + a % b * d := by
          conv => lhs; rw [← ea]
          rw [Nat.add_mul]; ac_rfl
        rw [e1, e2, e] at hle
        omega
      have h2 : b * d ≤ a % b * d + (d - c % d) * b := by
        rw [Nat.sub_mul, Nat.mul_comm b d]
        have := Nat.mul_le_mul_right b (Nat.le_of_lt hrc)
        omega
      have h3 := FracN.low_eq (a % b * d + (d - c % d) * b) (b * d)
      rw [← hl] at h3
      simp only at h3
      rw [← hSN] at h3
      have h4 : (b * d) * den ≤ S * (b * d) := by rw [h3]; exact Nat.mul_le_mul_right _ h2
      rw [Nat.mul_comm S] at h4
      exact Nat.le_of_mul_le_mul_left h4 (Nat.mul_pos hb' hd')
    · exact h0
  have hM : subW W S den * den + S % den + den = W * den + (a % b * fa + (d - c % d) * fb) / k := by
    rw [← hSN]
    unfold subW
    by_cases h : den ≤ S
    · rw [if_pos h]
      have : S % den = S - den := by rw [Nat.mod_eq_sub_mod h, Nat.mod_eq_of_lt (by omega)]
      omega
    · rw [if_neg h, Nat.mod_eq_of_lt (by omega)]
      obtain ⟨V, rfl⟩ : ∃ V, W = V + 1 := ⟨W - 1, by have := one h; omega⟩
      rw [Nat.add_sub_cancel, Nat.add_mul]
      omega
  have hlow := FracN.sub_low hb' hd' hab hcd P (by rw [← hW]; exact hM) hfl
  have hle2 := FracN.low_le_self (a * d - c * b) (b * d)
  rw [hlow] at hle2
  rw [hW] at hlow one hle2
  rw [hS] at hlow one hle2
  have m3 : a ≤ a * d := Nat.le_mul_of_pos_right _ hd'
  have m4 : c ≤ a * d := Nat.le_trans (Nat.le_mul_of_pos_right _ hb') hle
  exact ⟨g, fa, fb, k, den, hp, l1, l2, hfl, one, hlow, Nat.le_trans (limbs_mono m3) hs, Nat.le_trans (limbs_mono m4) hs, Nat.le_trans (limbs_mono (Nat.le_trans hle2.1 (Nat.sub_le _ _))) hs⟩
end Go.Proofs.YtgpochhndjadhaaGreatDoor

/- The difference of two fractions by whole parts and complements. Conditions: the slices hold the numbers that are named, in lowest terms, and all products have room. -/
namespace Go.Proofs.YtgpochhndjadhaaGreatDoor
open Go.RowKit LimbN
set_option linter.unusedVariables false
set_option linter.unusedSimpArgs false

set_option maxRecDepth 100000 in
set_option maxHeartbeats 4000000 in
theorem subtract_n {a b c d g fa fb k den : Nat} {va vb vc vd : Value} {w : World} (hp : SubN a b c d g fa fb k den) (ha : Sl w va (limbs a)) (hb : Sl w vb (limbs b)) (hcc : Sl w vc (limbs c)) (hd : Sl w vd (limbs d)) :
    Calls Tryz.prog 50 #[.agg #[va, vb], .agg #[vc, vd]] w (MkR 0 (FracN.low (a * d - c * b) (b * d)) w) := by
  rw [hp.low]
  have hlm := hp.lm; have hone := hp.one
  obtain ⟨S, hS⟩ : ∃ S, S = a % b * fa / k + up2 (d - c % d) fb k := ⟨_, rfl⟩
  obtain ⟨W, hWW⟩ : ∃ W, W = a / b - c / d := ⟨_, rfl⟩
  rw [← hS, ← hWW] at hlm hone ⊢
  obtain ⟨M, hM⟩ : ∃ M, M = subW W S den * den + S % den := ⟨_, rfl⟩
  rw [← hM] at hlm ⊢
  have hlw : (limbs W).length ≤ 128 := by rw [hWW]; exact Nat.le_trans (limbs_mono (Nat.le_trans (Nat.sub_le _ _) (Nat.div_le_self _ _))) hp.la
  have HM := Lib.hid hM; have HLM := Lib.hid hlm; have HONE := Lib.hid hone; have HLW := Lib.hid hlw; have HS0 := Lib.hid hS; have HWW := Lib.hid hWW
  clear hS hWW hM hlm hone hlw
  obtain ⟨ao, al, ac, rfl⟩ := ha.open3
  obtain ⟨bo, bl, bc, rfl⟩ := hb.open3
  obtain ⟨co, cl, cc, rfl⟩ := hcc.open3
  obtain ⟨do', dl, dc, rfl⟩ := hd.open3
  obtain ⟨w1, hw1, HK1, HB1, hz1⟩ := box2 w 25 (.slice ao al ac) (.slice bo bl bc)
  obtain ⟨w2, hw2, HK2, HB2, hz2⟩ := box2 w1 25 (.slice co cl cc) (.slice do' dl dc)
  obtain ⟨w3, hw3, HK3, HB3, hz3⟩ := start2 w2 25
  obtain ⟨w4, hw4, HK4, HC4, hz4⟩ := startc w3
  have hs1 : w1.heap.size = w.heap.size + 1 := by rw [hw1]; simp
  have hs2 : w2.heap.size = w.heap.size + 1 + 1 := by rw [hw2, ← hs1]; simp
  have hs3 : w3.heap.size = w.heap.size + 1 + 1 + 1 := by rw [hw3, ← hs2]; simp
  rw [hs1] at HB2
  rw [hs2] at HB3
  rw [hs3] at HC4
  have hk24 := Kp.trans HK3.out HK4.out
  have hk14 := Kp.trans HK2.out hk24
  have hk04 := Kp.trans HK1.out hk14
  have HK04 := Lib.hid hk04
  have HA := Lib.hid (ha.keep hk04); have HB := Lib.hid (hb.keep hk04); have HCC := Lib.hid (hcc.keep hk04); have HD := Lib.hid (hd.keep hk04)
  have HT1 := Lib.hid (HB1.out.keep hk14); have HT2 := Lib.hid (HB2.out.keep hk24); have HT3 := Lib.hid (HB3.out.keep HK4.out)
  have c10 := HT1.out.c0; have c11 := HT1.out.c1; have c20 := HT2.out.c0; have c21 := HT2.out.c1
  have hw : w4 = (((w.alloc (Obj.cells #[.slice ao al ac, .slice bo bl bc] 25)).alloc (Obj.cells #[.slice co cl cc, .slice do' dl dc] 25)).alloc (Obj.cells #[.slice none 0 0, .slice none 0 0] 25)).alloc (Obj.cells #[.int .i64 0] 68) := by rw [hw4, hw3, hw2, hw1]
  have hz : w.heap.size + 1 + 1 < w4.heap.size := by omega
  have HZ := Lib.hid hz
  rw [hw] at c10 c11 c20 c21
  have HW := Lib.hid hw
  have HPP0 := Lib.hid hp; have HPN := Lib.hid hp.pn
  clear hw1 hw2 hw3 hw4 hs1 hs2 hs3 hk24 hk14 hk04 ha hb hcc hd hz1 hz2 hz3 hz4 hz hw hp HK1 HK2 HK3 HK4 HB1 HB2 HB3
  go_enter Tryz.func50, Tryz.ntmps50
  go_wp2_with fail
  rw [← HW.out]
  have hpn := HPP0.out.pn
  refine (fdivide_n HA.out HB.out HPP0.out.la HPN.out.lb HPN.out.b0).mono ?_
  intro e w5 hq
  obtain ⟨⟨vwa, vra, rfl, h1, h2, -, -⟩, hk⟩ := hq
  have HWA := Lib.hid h1; have HRA := Lib.hid h2; have HK5 := Lib.hid hk
  clear h1 h2 hk c10 c11 c20 c21
  have c20 := (HT2.out.keep HK5.out).c0; have c21 := (HT2.out.keep HK5.out).c1
  go_wp2_with fail
  refine (fdivide_n (HCC.out.keep HK5.out) (HD.out.keep HK5.out) HPP0.out.lc HPN.out.ld HPN.out.d0).mono ?_
  intro e w6 hq
  obtain ⟨⟨vwb, vrb, rfl, h1, h2, -, -⟩, hk⟩ := hq
  have HWB := Lib.hid h1; have HRB := Lib.hid h2; have HK6 := Lib.hid (Kp.trans HK5.out hk); have HWA6 := Lib.hid (HWA.out.keep hk); have HRA6 := Lib.hid (HRA.out.keep hk)
  clear h1 h2 hk c20 c21
  go_wp2_with fail
  refine (sub_n HWA6.out HWB.out (Nat.le_trans (limbs_mono (Nat.div_le_self _ _)) HPP0.out.la) HPP0.out.fl).mono ?_
  intro e w7 hq
  obtain ⟨⟨vw, rfl, h1, -⟩, hk⟩ := hq
  have HWH := Lib.hid h1; have HK7 := Lib.hid (Kp.trans HK6.out hk); have HRA7 := Lib.hid (HRA6.out.keep hk); have HRB7 := Lib.hid (HRB.out.keep hk)
  clear h1 hk
  go_wp2_with fail
  refine (keep_n (HC4.out.keep HK7.out)).mono ?_
  rintro e w' ⟨rfl, rfl⟩
  have c21 := (HT2.out.keep HK7.out).c1
  go_wp2_with fail
  refine (sub_n (HD.out.keep HK7.out) HRB7.out HPN.out.ld (Nat.le_of_lt (Nat.mod_lt _ (Nat.pos_of_ne_zero HPN.out.d0)))).mono ?_
  intro e w8 hq
  obtain ⟨⟨vcm, rfl, h1, -⟩, hk⟩ := hq
  have HCM := Lib.hid h1; have HK8 := Lib.hid (Kp.trans HK7.out hk); have HRA8 := Lib.hid (HRA7.out.keep hk); have HWH8 := Lib.hid (HWH.out.keep hk)
  clear h1 hk c21
  go_wp2_with fail
  refine (keep_n (HC4.out.keep HK8.out)).mono ?_
  rintro e w' ⟨rfl, rfl⟩
  obtain ⟨rao, ral, rac, rfl⟩ := HRA8.out.open3
  obtain ⟨cmo, cml, cmc, rfl⟩ := HCM.out.open3
  have c11 := (HT1.out.keep HK8.out).c1; have c21 := (HT2.out.keep HK8.out).c1
  go_wp2_with fail
  refine (parts_n HPN.out (HC4.out.keep HK8.out) HRA8.out (HB.out.keep HK8.out) HCM.out (HD.out.keep HK8.out)).mono ?_
  intro e w9 hq
  obtain ⟨⟨vx, vy, vz, rfl, h1, h2, h3, -, -, h6⟩, hk⟩ := hq
  have HX := Lib.hid h1; have HY := Lib.hid h2; have HV := Lib.hid h3; have HVN := Lib.hid (h6.mono HK8.out.size); have HK9 := Lib.hid (Kp.trans HK8.out hk); have HWH9 := Lib.hid (HWH8.out.keep hk)
  clear h1 h2 h3 h6 hk c11 c21
  go_wp2_with fail
  refine (addModulo_n HX.out HY.out HV.out HPN.out.lden HPP0.out.lt1 HPP0.out.le2).mono ?_
  rw [← HS0.out]
  rw [← HWW.out] at HWH9
  clear hpn HWA HWA6 HWB HWH HWH8 HRA HRA6 HRA7 HRA8 HRB HRB7 HCM HX HY
  intro e w10 hq
  obtain ⟨⟨vs, rfl, h1, -⟩, hk⟩ := hq
  have HS := Lib.hid h1; have HK10 := Lib.hid (Kp.trans HK9.out hk); have HV10 := Lib.hid (HV.out.keep hk); have HWH10 := Lib.hid (HWH9.out.keep hk)
  clear h1 hk
  by_cases ht : den ≤ S
  · rw [decide_eq_true ht]
    have HU : Hid (M = W * den + S % den) := by show _ = _; rw [HM.out]; unfold subW; rw [if_pos ht]
    clear ht
    go_wp2_with fail
    refine (mul_n HWH10.out HV10.out HLW.out HPN.out.lden (Nat.le_trans (limbs_mono (by rw [HU.out]; exact Nat.le_add_right _ _)) HLM.out)).mono ?_
    intro e wA hq
    obtain ⟨⟨vm, rfl, h1, -⟩, hk⟩ := hq
    have HMU := Lib.hid h1; have HKA := Lib.hid (Kp.trans HK10.out hk); have HVA := Lib.hid (HV10.out.keep hk); have HSA := Lib.hid (HS.out.keep hk)
    clear h1 hk
    go_wp2_with fail
    refine (keep_n (HC4.out.keep HKA.out)).mono ?_
    rintro e w' ⟨rfl, rfl⟩
    go_wp2_with fail
    refine (add_n HMU.out HSA.out (by rw [← HU.out]; exact HLM.out)).mono ?_
    rw [← HU.out]
    intro e wE hq
    obtain ⟨⟨vn, rfl, h1, h2⟩, hk⟩ := hq
    have HN := Lib.hid h1; have HNN := Lib.hid (h2.mono HKA.out.size); have HKE := Lib.hid (Kp.trans HKA.out hk); have HVE := Lib.hid (HVA.out.keep hk)
    clear h1 h2 hk
    go_wp2_with fail
    refine (keep_n (HC4.out.keep HKE.out)).mono ?_
    rintro e w' ⟨rfl, rfl⟩
    obtain ⟨no, nl, nc, rfl⟩ := HN.out.open3
    obtain ⟨zo, zl, zc, rfl⟩ := HVE.out.open3
    go_wp2_with fail
    refine (result_n (HC4.out.keep HKE.out)).mono ?_
    rintro e w7 ⟨rfl, hk⟩
    have HK7 := Lib.hid (Kp.trans HKE.out hk); have HN7 := Lib.hid (HN.out.keep hk); have HV7 := Lib.hid (HVE.out.keep hk)
    have hT := HT3.out.keep HK7.out
    have hP := Put.made hT (.slice no nl nc) (.slice zo zl zc)
    obtain ⟨w8, hw8⟩ : ∃ w8, w8 = (w7.setCell ⟨w.heap.size + 1 + 1, 0, none⟩ (.slice no nl nc)).setCell ⟨w.heap.size + 1 + 1, 1, none⟩ (.slice zo zl zc) := ⟨_, rfl⟩
    rw [← hw8] at hP
    have HW8 := Lib.hid hw8
    have HPP := Lib.hid hP
    have f0 := hT.free 0
    have c0 := hT.c0
    have f1 := (hT.set0 (.slice no nl nc)).free 1
    have c1 := (hT.set0 (.slice no nl nc)).c1
    clear hT hw8 hP hk
    go_wp2_with fail
    have hP' := HPP.out
    rw [← HW8.out]
    clear c0 c1 f0 f1
    have c0 := hP'.two.c0
    have c1 := hP'.two.c1
    have FIN2 : MkR 0 (M, den) w (.returned (.tuple #[.agg #[.slice no nl nc, .slice zo zl zc], .int .i64 0])) w8 :=
      ⟨⟨_, _, rfl, HN7.out.only hP'.only (HNN.out.offs HZ.out _), HV7.out.only hP'.only (HVN.out.offs HZ.out _), HNN.out.mono HK04.out.size, HVN.out.mono HK04.out.size⟩, hP'.only.kp (Kp.trans HK04.out HK7.out) (Nat.le_trans (Nat.le_succ _) (Nat.le_succ _))⟩
    exact bodyPost_ret (by simp [results, Tryz.results50, go_sem, c0, c1]) rfl FIN2
  · rw [decide_eq_false ht]
    have HU : Hid (M = (W - 1) * den + S % den) := by show _ = _; rw [HM.out]; unfold subW; rw [if_neg ht]
    have H1 := Lib.hid (HONE.out ht)
    clear ht
    go_wp2_with fail
    refine (of_any 1 w10 (by decide)).mono ?_
    rintro e w11 ⟨v1, rfl, h1, -, hk⟩
    have HV1 := Lib.hid h1; have HWH11 := Lib.hid (HWH10.out.keep hk); have HK11 := Lib.hid (Kp.trans HK10.out hk); have HV11 := Lib.hid (HV10.out.keep hk); have HS11 := Lib.hid (HS.out.keep hk)
    clear h1 hk
    go_wp2_with fail
    refine (sub_n HWH11.out HV1.out HLW.out H1.out).mono ?_
    intro e w12 hq
    obtain ⟨⟨vw1, rfl, h1, -⟩, hk⟩ := hq
    have HWH12 := Lib.hid h1; have HK12 := Lib.hid (Kp.trans HK11.out hk); have HV12 := Lib.hid (HV11.out.keep hk); have HS12 := Lib.hid (HS11.out.keep hk)
    have HLW1 : Hid ((limbs (W - 1)).length ≤ 128) := Nat.le_trans (limbs_mono (Nat.sub_le _ _)) HLW.out
    clear h1 hk
    go_wp2_with fail
    refine (keep_n (HC4.out.keep HK12.out)).mono ?_
    rintro e w' ⟨rfl, rfl⟩
    go_wp2_with fail
    refine (mul_n HWH12.out HV12.out HLW1.out HPN.out.lden (Nat.le_trans (limbs_mono (by rw [HU.out]; exact Nat.le_add_right _ _)) HLM.out)).mono ?_
    intro e wA hq
    obtain ⟨⟨vm, rfl, h1, -⟩, hk⟩ := hq
    have HMU := Lib.hid h1; have HKA := Lib.hid (Kp.trans HK12.out hk); have HVA := Lib.hid (HV12.out.keep hk); have HSA := Lib.hid (HS12.out.keep hk)
    clear h1 hk
    go_wp2_with fail
    refine (keep_n (HC4.out.keep HKA.out)).mono ?_
    rintro e w' ⟨rfl, rfl⟩
    go_wp2_with fail
    refine (add_n HMU.out HSA.out (by rw [← HU.out]; exact HLM.out)).mono ?_
    rw [← HU.out]
    intro e wE hq
    obtain ⟨⟨vn, rfl, h1, h2⟩, hk⟩ := hq
    have HN := Lib.hid h1; have HNN := Lib.hid (h2.mono HKA.out.size); have HKE := Lib.hid (Kp.trans HKA.out hk); have HVE := Lib.hid (HVA.out.keep hk)
    clear h1 h2 hk
    go_wp2_with fail
    refine (keep_n (HC4.out.keep HKE.out)).mono ?_
    rintro e w' ⟨rfl, rfl⟩
    obtain ⟨no, nl, nc, rfl⟩ := HN.out.open3
    obtain ⟨zo, zl, zc, rfl⟩ := HVE.out.open3
    go_wp2_with fail
    refine (result_n (HC4.out.keep HKE.out)).mono ?_
    rintro e w7 ⟨rfl, hk⟩
    have HK7 := Lib.hid (Kp.trans HKE.out hk); have HN7 := Lib.hid (HN.out.keep hk); have HV7 := Lib.hid (HVE.out.keep hk)
    have hT := HT3.out.keep HK7.out
    have hP := Put.made hT (.slice no nl nc) (.slice zo zl zc)
    obtain ⟨w8, hw8⟩ : ∃ w8, w8 = (w7.setCell ⟨w.heap.size + 1 + 1, 0, none⟩ (.slice no nl nc)).setCell ⟨w.heap.size + 1 + 1, 1, none⟩ (.slice zo zl zc) := ⟨_, rfl⟩
    rw [← hw8] at hP
    have HW8 := Lib.hid hw8
    have HPP := Lib.hid hP
    have f0 := hT.free 0
    have c0 := hT.c0
    have f1 := (hT.set0 (.slice no nl nc)).free 1
    have c1 := (hT.set0 (.slice no nl nc)).c1
    clear hT hw8 hP hk
    go_wp2_with fail
    have hP' := HPP.out
    rw [← HW8.out]
    clear c0 c1 f0 f1
    have c0 := hP'.two.c0
    have c1 := hP'.two.c1
    have FIN2 : MkR 0 (M, den) w (.returned (.tuple #[.agg #[.slice no nl nc, .slice zo zl zc], .int .i64 0])) w8 :=
      ⟨⟨_, _, rfl, HN7.out.only hP'.only (HNN.out.offs HZ.out _), HV7.out.only hP'.only (HVN.out.offs HZ.out _), HNN.out.mono HK04.out.size, HVN.out.mono HK04.out.size⟩, hP'.only.kp (Kp.trans HK04.out HK7.out) (Nat.le_trans (Nat.le_succ _) (Nat.le_succ _))⟩
    exact bodyPost_ret (by simp [results, Tryz.results50, go_sem, c0, c1]) rfl FIN2
end Go.Proofs.YtgpochhndjadhaaGreatDoor
