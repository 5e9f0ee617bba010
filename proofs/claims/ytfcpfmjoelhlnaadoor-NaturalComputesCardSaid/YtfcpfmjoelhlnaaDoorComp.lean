/- The law on sums, differences, products, quotients and greatest common divisors: it returns true for all lists of digits. Condition: the library's table of powers of ten holds what its text lays. -/
import Derived.Test.YtfcpfmjoelhlnaaDoorRDivide
import Derived.Test.YtfcpfmjoelhlnaaDoorReads
namespace Go.Proofs.YtfcpfmjoelhlnaaDoor
open Go.RowKit LimbN

set_option maxRecDepth 100000 in
set_option maxHeartbeats 8000000 in
theorem computes_any {xs ys : List Nat} {vx vy : Value} {w : World} (hx : Sl w vx xs) (hy : Sl w vy ys) (htab : Tab w) :
    Calls Tryd.prog 3 #[vx, vy] w fun e w' => e = .returned (.bool true) ∧ Kp w w' := by
  have HT := Lib.hid htab; have HX := Lib.hid hx; have HY := Lib.hid hy; clear htab hx hy
  go_enter Tryd.func3, Tryd.ntmps3
  go_wp2_with fail
  refine (bounded_any HX.out).mono ?_
  rintro e w1 ⟨⟨va, rfl, ha⟩, rfl⟩
  obtain ⟨x, ex⟩ : ∃ x, x = xs.take 140 := ⟨_, rfl⟩
  rw [← ex] at ha
  have HA0 := Lib.hid ha; clear ha ex
  go_wp2_with fail
  refine (bounded_any HY.out).mono ?_
  rintro e w1 ⟨⟨vb, rfl, hb⟩, rfl⟩
  obtain ⟨y, ey⟩ : ∃ y, y = ys.take 140 := ⟨_, rfl⟩
  rw [← ey] at hb
  have HB0 := Lib.hid hb; clear hb ey
  obtain ⟨ao, ca, rfl, hca, hma, -⟩ := HA0.out.ex
  obtain ⟨bo, cb, rfl, hcb, hmb, -⟩ := HB0.out.ex
  unfold maxLen at hma hmb
  obtain ⟨la, ela⟩ : ∃ la, la = x.length := ⟨_, rfl⟩
  obtain ⟨lb, elb⟩ : ∃ lb, lb = y.length := ⟨_, rfl⟩
  rw [← ela] at hca HA0 ⊢
  rw [← elb] at hcb HB0 ⊢
  clear ela elb
  have K0 : Hid (Kp w w) := Kp.refl w
  go_wp2_with fail
  refine (Add_any HA0.out HB0.out).mono ?_
  intro e w_1 h
  obtain ⟨⟨va, rfl, hs⟩, hk⟩ := h
  obtain ⟨Ea, hE⟩ : ∃ E, E = resE (okB x y) (val x + val y) := ⟨_, rfl⟩
  obtain ⟨Va, hV⟩ : ∃ V, V = resV (okB x y) (val x + val y) := ⟨_, rfl⟩
  rw [← hE]; rw [← hV] at hs
  have HS1 := Lib.hid hs; have HE := Lib.hid hE; have HV := Lib.hid hV; clear hs hE hV
  have HA1 := Lib.hid (HA0.out.keep hk)
  have HB1 := Lib.hid (HB0.out.keep hk)
  have K1 := Lib.hid (Kp.trans K0.out hk)
  clear hk HA0 HB0 K0
  go_wp2_with fail
  refine (rAdd_any HA1.out HB1.out).mono ?_
  intro e w_2 h
  obtain ⟨⟨ua, rfl, hs⟩, hk⟩ := h
  rw [← HE.out]; rw [← HV.out] at hs
  have HU := Lib.hid hs; clear hs HE HV
  have HA2 := Lib.hid (HA1.out.keep hk)
  have HB2 := Lib.hid (HB1.out.keep hk)
  have HS2 := Lib.hid (HS1.out.keep hk)
  have K2 := Lib.hid (Kp.trans K1.out hk)
  clear hk HA1 HB1 HS1 K1
  go_wp2_with fail
  refine (lsame_eq Ea HS2.out HU.out).mono ?_
  rintro e w_3 ⟨rfl, hk⟩
  clear HU
  have HA3 := Lib.hid (HA2.out.keep hk)
  have HB3 := Lib.hid (HB2.out.keep hk)
  have K3 := Lib.hid (Kp.trans K2.out hk)
  clear hk HA2 HB2 K2
  clear HS2
  go_wp2_with fail
  refine (Sub_any HA3.out HB3.out).mono ?_
  intro e w_4 h
  obtain ⟨⟨vs, rfl, hs⟩, hk⟩ := h
  obtain ⟨Es, hE⟩ : ∃ E, E = subE (okB x y) (val x) (val y) := ⟨_, rfl⟩
  obtain ⟨Vs, hV⟩ : ∃ V, V = subV (okB x y) (val x) (val y) := ⟨_, rfl⟩
  rw [← hE]; rw [← hV] at hs
  have HS4 := Lib.hid hs; have HE := Lib.hid hE; have HV := Lib.hid hV; clear hs hE hV
  have HA4 := Lib.hid (HA3.out.keep hk)
  have HB4 := Lib.hid (HB3.out.keep hk)
  have K4 := Lib.hid (Kp.trans K3.out hk)
  clear hk HA3 HB3 K3
  go_wp2_with fail
  refine (rSub_any HA4.out HB4.out).mono ?_
  intro e w_5 h
  obtain ⟨⟨us, rfl, hs⟩, hk⟩ := h
  rw [← HE.out]; rw [← HV.out] at hs
  have HU := Lib.hid hs; clear hs HE HV
  have HA5 := Lib.hid (HA4.out.keep hk)
  have HB5 := Lib.hid (HB4.out.keep hk)
  have HS5 := Lib.hid (HS4.out.keep hk)
  have K5 := Lib.hid (Kp.trans K4.out hk)
  clear hk HA4 HB4 HS4 K4
  go_wp2_with fail
  refine (lsame_eq Es HS5.out HU.out).mono ?_
  rintro e w_6 ⟨rfl, hk⟩
  clear HU
  have HA6 := Lib.hid (HA5.out.keep hk)
  have HB6 := Lib.hid (HB5.out.keep hk)
  have K6 := Lib.hid (Kp.trans K5.out hk)
  clear hk HA5 HB5 K5
  clear HS5
  go_wp2_with fail
  refine (Mul_any HA6.out HB6.out).mono ?_
  intro e w_7 h
  obtain ⟨⟨vm, rfl, hs⟩, hk⟩ := h
  obtain ⟨Em, hE⟩ : ∃ E, E = resE (okB x y) (val x * val y) := ⟨_, rfl⟩
  obtain ⟨Vm, hV⟩ : ∃ V, V = resV (okB x y) (val x * val y) := ⟨_, rfl⟩
  rw [← hE]; rw [← hV] at hs
  have HS7 := Lib.hid hs; have HE := Lib.hid hE; have HV := Lib.hid hV; clear hs hE hV
  have HA7 := Lib.hid (HA6.out.keep hk)
  have HB7 := Lib.hid (HB6.out.keep hk)
  have K7 := Lib.hid (Kp.trans K6.out hk)
  clear hk HA6 HB6 K6
  go_wp2_with fail
  refine (rMul_any HA7.out HB7.out).mono ?_
  intro e w_8 h
  obtain ⟨⟨um, rfl, hs⟩, hk⟩ := h
  rw [← HE.out]; rw [← HV.out] at hs
  have HU := Lib.hid hs; clear hs HE HV
  have HA8 := Lib.hid (HA7.out.keep hk)
  have HB8 := Lib.hid (HB7.out.keep hk)
  have HS8 := Lib.hid (HS7.out.keep hk)
  have K8 := Lib.hid (Kp.trans K7.out hk)
  clear hk HA7 HB7 HS7 K7
  go_wp2_with fail
  refine (lsame_eq Em HS8.out HU.out).mono ?_
  rintro e w_9 ⟨rfl, hk⟩
  clear HU
  have HA9 := Lib.hid (HA8.out.keep hk)
  have HB9 := Lib.hid (HB8.out.keep hk)
  have K9 := Lib.hid (Kp.trans K8.out hk)
  clear hk HA8 HB8 K8
  clear HS8
  by_cases h1 : 12 < la
  · by_cases h2 : 12 < lb
    · skip
      go_wp2_with fail
      refine (awake_any w_9 (HT.out.keep K9.out)).mono ?_
      rintro e wz ⟨rfl, hk⟩
      have KZ := Lib.hid (Kp.trans K9.out hk); clear hk
      go_wp2
      go_ret
      exact ⟨rfl, KZ.out⟩
    · by_cases h3 : 40 < la
      · skip
        go_wp2_with fail
        refine (ltrim_any HA9.out).mono ?_
        rintro e wt ⟨⟨va2, rfl, ht⟩, rfl⟩
        obtain ⟨z, ez⟩ : ∃ z, z = limbs (val (x.take 20)) := ⟨_, rfl⟩
        rw [← ez] at ht
        clear HA9
        have HA9 := Lib.hid ht; clear ht ez
        obtain ⟨zo, cz, rfl, hcz, hmz, -⟩ := HA9.out.ex
        unfold maxLen at hmz
        obtain ⟨lz, elz⟩ : ∃ lz, lz = z.length := ⟨_, rfl⟩
        rw [← elz] at hcz HA9 ⊢
        clear elz
        go_wp2_with fail
        refine (Divide_any HA9.out HB9.out).mono ?_
        intro e w_10 h
        obtain ⟨⟨vq, vr, rfl, hs, ht, -, -⟩, hk⟩ := h
        obtain ⟨Ed, hE⟩ : ∃ E, E = divE (z) (y) := ⟨_, rfl⟩
        obtain ⟨Vq, hV⟩ : ∃ V, V = divQ (z) (y) := ⟨_, rfl⟩
        obtain ⟨Vm, hM⟩ : ∃ V, V = divM (z) (y) := ⟨_, rfl⟩
        rw [← hE]; rw [← hV] at hs; rw [← hM] at ht
        have HS10 := Lib.hid hs; have HR10 := Lib.hid ht; have HE := Lib.hid hE; have HV := Lib.hid hV; have HM := Lib.hid hM; clear hs ht hE hV hM
        have HA10 := Lib.hid (HA9.out.keep hk)
        have HB10 := Lib.hid (HB9.out.keep hk)
        have K10 := Lib.hid (Kp.trans K9.out hk)
        clear hk  K9
        go_wp2_with fail
        refine (rDivide_any HA10.out HB10.out).mono ?_
        intro e w_11 h
        obtain ⟨⟨uq, ur, rfl, hs, ht, -, -⟩, hk⟩ := h
        rw [← HE.out]; rw [← HV.out] at hs; rw [← HM.out] at ht
        have HU := Lib.hid hs; have HO11 := Lib.hid ht; clear hs ht HE HV HM
        have HA11 := Lib.hid (HA10.out.keep hk)
        have HB11 := Lib.hid (HB10.out.keep hk)
        have HS11 := Lib.hid (HS10.out.keep hk)
        have HR11 := Lib.hid (HR10.out.keep hk)
        have K11 := Lib.hid (Kp.trans K10.out hk)
        clear hk HA10 HB10 HS10 HR10 K10
        go_wp2_with fail
        refine (lsame_eq Ed HS11.out HU.out).mono ?_
        rintro e w_12 ⟨rfl, hk⟩
        clear HU
        have HA12 := Lib.hid (HA11.out.keep hk)
        have HB12 := Lib.hid (HB11.out.keep hk)
        have HR12 := Lib.hid (HR11.out.keep hk)
        have HO12 := Lib.hid (HO11.out.keep hk)
        have K12 := Lib.hid (Kp.trans K11.out hk)
        clear hk HA11 HB11 HR11 HO11 K11
        clear HS11
        go_wp2_with fail
        refine (same_any HR12.out HO12.out).mono ?_
        rintro e w_13 ⟨rfl, hd⟩
        rw [decide_eq_true rfl]
        have hk := hd.kp; clear hd
        have HA13 := Lib.hid (HA12.out.keep hk)
        have HB13 := Lib.hid (HB12.out.keep hk)
        have K13 := Lib.hid (Kp.trans K12.out hk)
        clear hk HA12 HB12 K12
        clear HR12 HO12
        go_wp2_with fail
        refine (Gcd_any HA13.out HB13.out).mono ?_
        intro e w_14 h
        obtain ⟨⟨vg, rfl, hs⟩, hk⟩ := h
        obtain ⟨Eg, hE⟩ : ∃ E, E = resE (okB (z) (y)) (Nat.gcd (val (z)) (val (y))) := ⟨_, rfl⟩
        obtain ⟨Vg, hV⟩ : ∃ V, V = resV (okB (z) (y)) (Nat.gcd (val (z)) (val (y))) := ⟨_, rfl⟩
        rw [← hE]; rw [← hV] at hs
        have HS14 := Lib.hid hs; have HE := Lib.hid hE; have HV := Lib.hid hV; clear hs hE hV
        have HA14 := Lib.hid (HA13.out.keep hk)
        have HB14 := Lib.hid (HB13.out.keep hk)
        have K14 := Lib.hid (Kp.trans K13.out hk)
        clear hk HA13 HB13 K13
        go_wp2_with fail
        refine (rGcd_any HA14.out HB14.out).mono ?_
        intro e w_15 h
        obtain ⟨⟨ug, rfl, hs⟩, hk⟩ := h
        rw [← HE.out]; rw [← HV.out] at hs
        have HU := Lib.hid hs; clear hs HE HV
        have HA15 := Lib.hid (HA14.out.keep hk)
        have HB15 := Lib.hid (HB14.out.keep hk)
        have HS15 := Lib.hid (HS14.out.keep hk)
        have K15 := Lib.hid (Kp.trans K14.out hk)
        clear hk HA14 HB14 HS14 K14
        go_wp2_with fail
        refine (lsame_eq Eg HS15.out HU.out).mono ?_
        rintro e w_16 ⟨rfl, hk⟩
        clear HU
        have HA16 := Lib.hid (HA15.out.keep hk)
        have HB16 := Lib.hid (HB15.out.keep hk)
        have K16 := Lib.hid (Kp.trans K15.out hk)
        clear hk HA15 HB15 K15
        clear HS15
        go_wp2_with fail
        refine (awake_any w_16 (HT.out.keep K16.out)).mono ?_
        rintro e wz ⟨rfl, hk⟩
        have KZ := Lib.hid (Kp.trans K16.out hk); clear hk
        go_wp2
        go_ret
        exact ⟨rfl, KZ.out⟩
      · skip
        go_wp2_with fail
        refine (Divide_any HA9.out HB9.out).mono ?_
        intro e w_10 h
        obtain ⟨⟨vq, vr, rfl, hs, ht, -, -⟩, hk⟩ := h
        obtain ⟨Ed, hE⟩ : ∃ E, E = divE (x) (y) := ⟨_, rfl⟩
        obtain ⟨Vq, hV⟩ : ∃ V, V = divQ (x) (y) := ⟨_, rfl⟩
        obtain ⟨Vm, hM⟩ : ∃ V, V = divM (x) (y) := ⟨_, rfl⟩
        rw [← hE]; rw [← hV] at hs; rw [← hM] at ht
        have HS10 := Lib.hid hs; have HR10 := Lib.hid ht; have HE := Lib.hid hE; have HV := Lib.hid hV; have HM := Lib.hid hM; clear hs ht hE hV hM
        have HA10 := Lib.hid (HA9.out.keep hk)
        have HB10 := Lib.hid (HB9.out.keep hk)
        have K10 := Lib.hid (Kp.trans K9.out hk)
        clear hk  K9
        go_wp2_with fail
        refine (rDivide_any HA10.out HB10.out).mono ?_
        intro e w_11 h
        obtain ⟨⟨uq, ur, rfl, hs, ht, -, -⟩, hk⟩ := h
        rw [← HE.out]; rw [← HV.out] at hs; rw [← HM.out] at ht
        have HU := Lib.hid hs; have HO11 := Lib.hid ht; clear hs ht HE HV HM
        have HA11 := Lib.hid (HA10.out.keep hk)
        have HB11 := Lib.hid (HB10.out.keep hk)
        have HS11 := Lib.hid (HS10.out.keep hk)
        have HR11 := Lib.hid (HR10.out.keep hk)
        have K11 := Lib.hid (Kp.trans K10.out hk)
        clear hk HA10 HB10 HS10 HR10 K10
        go_wp2_with fail
        refine (lsame_eq Ed HS11.out HU.out).mono ?_
        rintro e w_12 ⟨rfl, hk⟩
        clear HU
        have HA12 := Lib.hid (HA11.out.keep hk)
        have HB12 := Lib.hid (HB11.out.keep hk)
        have HR12 := Lib.hid (HR11.out.keep hk)
        have HO12 := Lib.hid (HO11.out.keep hk)
        have K12 := Lib.hid (Kp.trans K11.out hk)
        clear hk HA11 HB11 HR11 HO11 K11
        clear HS11
        go_wp2_with fail
        refine (same_any HR12.out HO12.out).mono ?_
        rintro e w_13 ⟨rfl, hd⟩
        rw [decide_eq_true rfl]
        have hk := hd.kp; clear hd
        have HA13 := Lib.hid (HA12.out.keep hk)
        have HB13 := Lib.hid (HB12.out.keep hk)
        have K13 := Lib.hid (Kp.trans K12.out hk)
        clear hk HA12 HB12 K12
        clear HR12 HO12
        go_wp2_with fail
        refine (Gcd_any HA13.out HB13.out).mono ?_
        intro e w_14 h
        obtain ⟨⟨vg, rfl, hs⟩, hk⟩ := h
        obtain ⟨Eg, hE⟩ : ∃ E, E = resE (okB (x) (y)) (Nat.gcd (val (x)) (val (y))) := ⟨_, rfl⟩
        obtain ⟨Vg, hV⟩ : ∃ V, V = resV (okB (x) (y)) (Nat.gcd (val (x)) (val (y))) := ⟨_, rfl⟩
        rw [← hE]; rw [← hV] at hs
        have HS14 := Lib.hid hs; have HE := Lib.hid hE; have HV := Lib.hid hV; clear hs hE hV
        have HA14 := Lib.hid (HA13.out.keep hk)
        have HB14 := Lib.hid (HB13.out.keep hk)
        have K14 := Lib.hid (Kp.trans K13.out hk)
        clear hk HA13 HB13 K13
        go_wp2_with fail
        refine (rGcd_any HA14.out HB14.out).mono ?_
        intro e w_15 h
        obtain ⟨⟨ug, rfl, hs⟩, hk⟩ := h
        rw [← HE.out]; rw [← HV.out] at hs
        have HU := Lib.hid hs; clear hs HE HV
        have HA15 := Lib.hid (HA14.out.keep hk)
        have HB15 := Lib.hid (HB14.out.keep hk)
        have HS15 := Lib.hid (HS14.out.keep hk)
        have K15 := Lib.hid (Kp.trans K14.out hk)
        clear hk HA14 HB14 HS14 K14
        go_wp2_with fail
        refine (lsame_eq Eg HS15.out HU.out).mono ?_
        rintro e w_16 ⟨rfl, hk⟩
        clear HU
        have HA16 := Lib.hid (HA15.out.keep hk)
        have HB16 := Lib.hid (HB15.out.keep hk)
        have K16 := Lib.hid (Kp.trans K15.out hk)
        clear hk HA15 HB15 K15
        clear HS15
        go_wp2_with fail
        refine (awake_any w_16 (HT.out.keep K16.out)).mono ?_
        rintro e wz ⟨rfl, hk⟩
        have KZ := Lib.hid (Kp.trans K16.out hk); clear hk
        go_wp2
        go_ret
        exact ⟨rfl, KZ.out⟩
  · by_cases h3 : 40 < lb
    · skip
      go_wp2_with fail
      refine (ltrim_any HB9.out).mono ?_
      rintro e wt ⟨⟨vb2, rfl, ht⟩, rfl⟩
      obtain ⟨z, ez⟩ : ∃ z, z = limbs (val (y.take 20)) := ⟨_, rfl⟩
      rw [← ez] at ht
      clear HB9
      have HB9 := Lib.hid ht; clear ht ez
      obtain ⟨zo, cz, rfl, hcz, hmz, -⟩ := HB9.out.ex
      unfold maxLen at hmz
      obtain ⟨lz, elz⟩ : ∃ lz, lz = z.length := ⟨_, rfl⟩
      rw [← elz] at hcz HB9 ⊢
      clear elz
      go_wp2_with fail
      refine (Divide_any HA9.out HB9.out).mono ?_
      intro e w_10 h
      obtain ⟨⟨vq, vr, rfl, hs, ht, -, -⟩, hk⟩ := h
      obtain ⟨Ed, hE⟩ : ∃ E, E = divE (x) (z) := ⟨_, rfl⟩
      obtain ⟨Vq, hV⟩ : ∃ V, V = divQ (x) (z) := ⟨_, rfl⟩
      obtain ⟨Vm, hM⟩ : ∃ V, V = divM (x) (z) := ⟨_, rfl⟩
      rw [← hE]; rw [← hV] at hs; rw [← hM] at ht
      have HS10 := Lib.hid hs; have HR10 := Lib.hid ht; have HE := Lib.hid hE; have HV := Lib.hid hV; have HM := Lib.hid hM; clear hs ht hE hV hM
      have HA10 := Lib.hid (HA9.out.keep hk)
      have HB10 := Lib.hid (HB9.out.keep hk)
      have K10 := Lib.hid (Kp.trans K9.out hk)
      clear hk  K9
      go_wp2_with fail
      refine (rDivide_any HA10.out HB10.out).mono ?_
      intro e w_11 h
      obtain ⟨⟨uq, ur, rfl, hs, ht, -, -⟩, hk⟩ := h
      rw [← HE.out]; rw [← HV.out] at hs; rw [← HM.out] at ht
      have HU := Lib.hid hs; have HO11 := Lib.hid ht; clear hs ht HE HV HM
      have HA11 := Lib.hid (HA10.out.keep hk)
      have HB11 := Lib.hid (HB10.out.keep hk)
      have HS11 := Lib.hid (HS10.out.keep hk)
      have HR11 := Lib.hid (HR10.out.keep hk)
      have K11 := Lib.hid (Kp.trans K10.out hk)
      clear hk HA10 HB10 HS10 HR10 K10
      go_wp2_with fail
      refine (lsame_eq Ed HS11.out HU.out).mono ?_
      rintro e w_12 ⟨rfl, hk⟩
      clear HU
      have HA12 := Lib.hid (HA11.out.keep hk)
      have HB12 := Lib.hid (HB11.out.keep hk)
      have HR12 := Lib.hid (HR11.out.keep hk)
      have HO12 := Lib.hid (HO11.out.keep hk)
      have K12 := Lib.hid (Kp.trans K11.out hk)
      clear hk HA11 HB11 HR11 HO11 K11
      clear HS11
      go_wp2_with fail
      refine (same_any HR12.out HO12.out).mono ?_
      rintro e w_13 ⟨rfl, hd⟩
      rw [decide_eq_true rfl]
      have hk := hd.kp; clear hd
      have HA13 := Lib.hid (HA12.out.keep hk)
      have HB13 := Lib.hid (HB12.out.keep hk)
      have K13 := Lib.hid (Kp.trans K12.out hk)
      clear hk HA12 HB12 K12
      clear HR12 HO12
      go_wp2_with fail
      refine (Gcd_any HA13.out HB13.out).mono ?_
      intro e w_14 h
      obtain ⟨⟨vg, rfl, hs⟩, hk⟩ := h
      obtain ⟨Eg, hE⟩ : ∃ E, E = resE (okB (x) (z)) (Nat.gcd (val (x)) (val (z))) := ⟨_, rfl⟩
      obtain ⟨Vg, hV⟩ : ∃ V, V = resV (okB (x) (z)) (Nat.gcd (val (x)) (val (z))) := ⟨_, rfl⟩
      rw [← hE]; rw [← hV] at hs
      have HS14 := Lib.hid hs; have HE := Lib.hid hE; have HV := Lib.hid hV; clear hs hE hV
      have HA14 := Lib.hid (HA13.out.keep hk)
      have HB14 := Lib.hid (HB13.out.keep hk)
      have K14 := Lib.hid (Kp.trans K13.out hk)
      clear hk HA13 HB13 K13
      go_wp2_with fail
      refine (rGcd_any HA14.out HB14.out).mono ?_
      intro e w_15 h
      obtain ⟨⟨ug, rfl, hs⟩, hk⟩ := h
      rw [← HE.out]; rw [← HV.out] at hs
      have HU := Lib.hid hs; clear hs HE HV
      have HA15 := Lib.hid (HA14.out.keep hk)
      have HB15 := Lib.hid (HB14.out.keep hk)
      have HS15 := Lib.hid (HS14.out.keep hk)
      have K15 := Lib.hid (Kp.trans K14.out hk)
      clear hk HA14 HB14 HS14 K14
      go_wp2_with fail
      refine (lsame_eq Eg HS15.out HU.out).mono ?_
      rintro e w_16 ⟨rfl, hk⟩
      clear HU
      have HA16 := Lib.hid (HA15.out.keep hk)
      have HB16 := Lib.hid (HB15.out.keep hk)
      have K16 := Lib.hid (Kp.trans K15.out hk)
      clear hk HA15 HB15 K15
      clear HS15
      go_wp2_with fail
      refine (awake_any w_16 (HT.out.keep K16.out)).mono ?_
      rintro e wz ⟨rfl, hk⟩
      have KZ := Lib.hid (Kp.trans K16.out hk); clear hk
      go_wp2
      go_ret
      exact ⟨rfl, KZ.out⟩
    · skip
      go_wp2_with fail
      refine (Divide_any HA9.out HB9.out).mono ?_
      intro e w_10 h
      obtain ⟨⟨vq, vr, rfl, hs, ht, -, -⟩, hk⟩ := h
      obtain ⟨Ed, hE⟩ : ∃ E, E = divE (x) (y) := ⟨_, rfl⟩
      obtain ⟨Vq, hV⟩ : ∃ V, V = divQ (x) (y) := ⟨_, rfl⟩
      obtain ⟨Vm, hM⟩ : ∃ V, V = divM (x) (y) := ⟨_, rfl⟩
      rw [← hE]; rw [← hV] at hs; rw [← hM] at ht
      have HS10 := Lib.hid hs; have HR10 := Lib.hid ht; have HE := Lib.hid hE; have HV := Lib.hid hV; have HM := Lib.hid hM; clear hs ht hE hV hM
      have HA10 := Lib.hid (HA9.out.keep hk)
      have HB10 := Lib.hid (HB9.out.keep hk)
      have K10 := Lib.hid (Kp.trans K9.out hk)
      clear hk  K9
      go_wp2_with fail
      refine (rDivide_any HA10.out HB10.out).mono ?_
      intro e w_11 h
      obtain ⟨⟨uq, ur, rfl, hs, ht, -, -⟩, hk⟩ := h
      rw [← HE.out]; rw [← HV.out] at hs; rw [← HM.out] at ht
      have HU := Lib.hid hs; have HO11 := Lib.hid ht; clear hs ht HE HV HM
      have HA11 := Lib.hid (HA10.out.keep hk)
      have HB11 := Lib.hid (HB10.out.keep hk)
      have HS11 := Lib.hid (HS10.out.keep hk)
      have HR11 := Lib.hid (HR10.out.keep hk)
      have K11 := Lib.hid (Kp.trans K10.out hk)
      clear hk HA10 HB10 HS10 HR10 K10
      go_wp2_with fail
      refine (lsame_eq Ed HS11.out HU.out).mono ?_
      rintro e w_12 ⟨rfl, hk⟩
      clear HU
      have HA12 := Lib.hid (HA11.out.keep hk)
      have HB12 := Lib.hid (HB11.out.keep hk)
      have HR12 := Lib.hid (HR11.out.keep hk)
      have HO12 := Lib.hid (HO11.out.keep hk)
      have K12 := Lib.hid (Kp.trans K11.out hk)
      clear hk HA11 HB11 HR11 HO11 K11
      clear HS11
      go_wp2_with fail
      refine (same_any HR12.out HO12.out).mono ?_
      rintro e w_13 ⟨rfl, hd⟩
      rw [decide_eq_true rfl]
      have hk := hd.kp; clear hd
      have HA13 := Lib.hid (HA12.out.keep hk)
      have HB13 := Lib.hid (HB12.out.keep hk)
      have K13 := Lib.hid (Kp.trans K12.out hk)
      clear hk HA12 HB12 K12
      clear HR12 HO12
      go_wp2_with fail
      refine (Gcd_any HA13.out HB13.out).mono ?_
      intro e w_14 h
      obtain ⟨⟨vg, rfl, hs⟩, hk⟩ := h
      obtain ⟨Eg, hE⟩ : ∃ E, E = resE (okB (x) (y)) (Nat.gcd (val (x)) (val (y))) := ⟨_, rfl⟩
      obtain ⟨Vg, hV⟩ : ∃ V, V = resV (okB (x) (y)) (Nat.gcd (val (x)) (val (y))) := ⟨_, rfl⟩
      rw [← hE]; rw [← hV] at hs
      have HS14 := Lib.hid hs; have HE := Lib.hid hE; have HV := Lib.hid hV; clear hs hE hV
      have HA14 := Lib.hid (HA13.out.keep hk)
      have HB14 := Lib.hid (HB13.out.keep hk)
      have K14 := Lib.hid (Kp.trans K13.out hk)
      clear hk HA13 HB13 K13
      go_wp2_with fail
      refine (rGcd_any HA14.out HB14.out).mono ?_
      intro e w_15 h
      obtain ⟨⟨ug, rfl, hs⟩, hk⟩ := h
      rw [← HE.out]; rw [← HV.out] at hs
      have HU := Lib.hid hs; clear hs HE HV
      have HA15 := Lib.hid (HA14.out.keep hk)
      have HB15 := Lib.hid (HB14.out.keep hk)
      have HS15 := Lib.hid (HS14.out.keep hk)
      have K15 := Lib.hid (Kp.trans K14.out hk)
      clear hk HA14 HB14 HS14 K14
      go_wp2_with fail
      refine (lsame_eq Eg HS15.out HU.out).mono ?_
      rintro e w_16 ⟨rfl, hk⟩
      clear HU
      have HA16 := Lib.hid (HA15.out.keep hk)
      have HB16 := Lib.hid (HB15.out.keep hk)
      have K16 := Lib.hid (Kp.trans K15.out hk)
      clear hk HA15 HB15 K15
      clear HS15
      go_wp2_with fail
      refine (awake_any w_16 (HT.out.keep K16.out)).mono ?_
      rintro e wz ⟨rfl, hk⟩
      have KZ := Lib.hid (Kp.trans K16.out hk); clear hk
      go_wp2
      go_ret
      exact ⟨rfl, KZ.out⟩
end Go.Proofs.YtfcpfmjoelhlnaaDoor
