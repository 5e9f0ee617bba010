/- The law on sums, differences, products, quotients and the order of fractions: it returns true for all lists of digits. Condition: the library's table of powers of ten holds what its text lays. -/
import Derived.Test.YtgpochhndjadhaaGreatDoorBoth
import Derived.Test.YtgpochhndjadhaaGreatDoorFrc
import Derived.Test.YtgpochhndjadhaaGreatDoorRow
namespace Go.Proofs.YtgpochhndjadhaaGreatDoor
open Go.RowKit LimbN
set_option linter.unusedVariables false
set_option linter.unusedSimpArgs false

theorem frN_len {xs ys : List Nat} (hx : Lt xs) (o : Int) : (frN xs ys o).length ≤ 8 := by
  unfold frN
  split
  · rw [List.length_take]; omega
  · exact Nat.le_trans (limbs_mono (FracN.low_le_self _ _).1) (limbs_take hx)
theorem frD_len {xs ys : List Nat} (hy : Lt ys) (o : Int) : (frD xs ys o).length ≤ 8 := by
  unfold frD
  split
  · rw [List.length_take]; omega
  · refine Nat.le_trans (limbs_mono (FracN.low_le_self _ _).2) ?_
    split
    · decide
    · exact limbs_take hy
theorem tdiv7 {o : Int} (ho : -9223372036854775808 ≤ o ∧ o ≤ 9223372036854775807) : -9223372036854775808 ≤ o.tdiv 7 ∧ o.tdiv 7 ≤ 9223372036854775807 := by
  by_cases h : 0 ≤ o
  · obtain ⟨n, rfl⟩ : ∃ n : Nat, o = n := ⟨o.toNat, by omega⟩
    have e : (n : Int).tdiv 7 = ((n / 7 : Nat) : Int) := rfl
    rw [e]
    omega
  · obtain ⟨n, rfl⟩ : ∃ n : Nat, o = -(n : Int) := ⟨(-o).toNat, by omega⟩
    have e : (-(n : Int)).tdiv 7 = -((n / 7 : Nat) : Int) := by rw [Int.neg_tdiv]; rfl
    rw [e]
    omega
set_option maxRecDepth 100000 in
set_option maxHeartbeats 16000000 in
theorem fcomputes_any {xs ys us vs : List Nat} {vx vy vz vv : Value} {w : World} (hx : Sl w vx xs) (hy : Sl w vy ys) (hz : Sl w vz us) (hv : Sl w vv vs) (o : Int) (ho : -9223372036854775808 ≤ o ∧ o ≤ 9223372036854775807) (htab : Tab w) :
    Calls Tryz.prog 3 #[vx, vy, vz, vv, .int .i64 o] w fun e w' => e = .returned (.bool true) ∧ Kp w w' := by
  have HT := Lib.hid htab; have HX := Lib.hid hx; have HY := Lib.hid hy; have HZ := Lib.hid hz; have HV := Lib.hid hv
  clear htab hx hy hz hv
  have ho7 := tdiv7 ho
  have HO7 := Lib.hid ho7; have HO := Lib.hid ho
  clear ho7
  go_enter Tryz.func3, Tryz.ntmps3
  go_wp2_with fail
  refine (ffrac_any HX.out HY.out o HO.out).mono ?_
  rintro e w1 ⟨⟨v1, v2, rfl, h1, h2⟩, hk⟩
  obtain ⟨P, eP⟩ : ∃ P, P = frN xs ys o := ⟨_, rfl⟩
  obtain ⟨Q, eQ⟩ : ∃ Q, Q = frD xs ys o := ⟨_, rfl⟩
  rw [← eP] at h1
  rw [← eQ] at h2
  have lP : P.length ≤ 8 := by rw [eP]; exact frN_len HX.out.lt o
  have lQ : Q.length ≤ 8 := by rw [eQ]; exact frD_len HY.out.lt o
  have H1 := Lib.hid h1; have H2 := Lib.hid h2; have HK1 := Lib.hid hk; have LP := Lib.hid lP; have LQ := Lib.hid lQ
  clear h1 h2 hk eP eQ lP lQ
  go_wp2_with fail
  refine (ffrac_any (HZ.out.keep HK1.out) (HV.out.keep HK1.out) (o.tdiv 7) HO7.out).mono ?_
  rintro e w2 ⟨⟨v3, v4, rfl, h3, h4⟩, hk⟩
  obtain ⟨R, eR⟩ : ∃ R, R = frN us vs (o.tdiv 7) := ⟨_, rfl⟩
  obtain ⟨S, eS⟩ : ∃ S, S = frD us vs (o.tdiv 7) := ⟨_, rfl⟩
  rw [← eR] at h3
  rw [← eS] at h4
  have lR : R.length ≤ 8 := by rw [eR]; exact frN_len HZ.out.lt _
  have lS : S.length ≤ 8 := by rw [eS]; exact frD_len HV.out.lt _
  have h1 := H1.out.keep hk
  have h2 := H2.out.keep hk
  obtain ⟨ao, al, ac, rfl⟩ := h1.open3
  obtain ⟨bo, bl, bc, rfl⟩ := h2.open3
  obtain ⟨co, cl, cc, rfl⟩ := h3.open3
  obtain ⟨do', dl, dc, rfl⟩ := h4.open3
  obtain ⟨T, hT⟩ := cmp_both h1.lt h2.lt h3.lt h4.lt LP.out LQ.out lR lS
  obtain ⟨EA, pA, hA⟩ := add_both h1.lt h2.lt h3.lt h4.lt LP.out LQ.out lR lS
  obtain ⟨EB, pB, hB⟩ := sub_both h1.lt h2.lt h3.lt h4.lt LP.out LQ.out lR lS
  obtain ⟨EC, pC, hC⟩ := mul_both h1.lt h2.lt h3.lt h4.lt LP.out LQ.out lR lS
  obtain ⟨ED, pD, hD⟩ := div_both h1.lt h2.lt h3.lt h4.lt LP.out LQ.out lR lS
  have HCMP := Lib.hid hT; have HOPA := Lib.hid hA; have HOPB := Lib.hid hB; have HOPC := Lib.hid hC; have HOPD := Lib.hid hD
  obtain ⟨U1, hu1, HKU1, HBU1, hzu1⟩ := box2 w2 25 (.slice ao al ac) (.slice bo bl bc)
  obtain ⟨W, hu2, HKU2, HBU2, hzu2⟩ := box2 U1 25 (.slice co cl cc) (.slice do' dl dc)
  have hsz1 : U1.heap.size = w2.heap.size + 1 := by rw [hu1]; simp
  rw [hsz1] at HBU2
  have hk2 := Kp.trans HKU1.out HKU2.out
  have T1 := Lib.hid (HBU1.out.keep HKU2.out); have T2 := HBU2
  have SA := Lib.hid (h1.keep hk2); have SB := Lib.hid (h2.keep hk2); have SC := Lib.hid (h3.keep hk2); have SD := Lib.hid (h4.keep hk2)
  have K0 := Lib.hid (Kp.trans HK1.out (Kp.trans hk hk2))
  have hW : W = (w2.alloc (Obj.cells #[.slice ao al ac, .slice bo bl bc] 25)).alloc (Obj.cells #[.slice co cl cc, .slice do' dl dc] 25) := by rw [hu2, hu1]
  have c10 := T1.out.c0; have c11 := T1.out.c1; have c20 := T2.out.c0; have c21 := T2.out.c1
  have HW := Lib.hid hW
  clear h1 h2 h3 h4 hk hk2 hT hA hB hC hD hu1 hu2 hzu1 hzu2 hsz1 hW HKU1 HKU2 HBU1 lR lS eR eS ho H1 H2
  obtain ⟨g1, eg1⟩ : ∃ g1, g1 = w2.heap.size := ⟨_, rfl⟩
  go_upto_region 2 with fail
  rw [← HW.out]
  rw [← eg1] at c10 c11 c20 c21 T1 HBU2 ⊢
  clear T2 eg1 HW
  have T2 := HBU2
  clear HBU2
  go_region_held3 (fun w' => w'.cell? ⟨g1, 0, none⟩ = some (.slice ao al ac) ∧ w'.cell? ⟨g1, 1, none⟩ = some (.slice bo bl bc) ∧ w'.cell? ⟨g1 + 1, 0, none⟩ = some (.slice co cl cc) ∧ w'.cell? ⟨g1 + 1, 1, none⟩ = some (.slice do' dl dc) ∧ Kp W w')
    (first
      | exact ⟨(T1.out.keep (by first | assumption | exact Kp.refl _ | exact Kp.drewN _ 1 | exact Kp.trans (by assumption) (Kp.drewN _ 1))).c0, (T1.out.keep (by first | assumption | exact Kp.refl _ | exact Kp.drewN _ 1 | exact Kp.trans (by assumption) (Kp.drewN _ 1))).c1, (T2.out.keep (by first | assumption | exact Kp.refl _ | exact Kp.drewN _ 1 | exact Kp.trans (by assumption) (Kp.drewN _ 1))).c0, (T2.out.keep (by first | assumption | exact Kp.refl _ | exact Kp.drewN _ 1 | exact Kp.trans (by assumption) (Kp.drewN _ 1))).c1, (by first | assumption | exact Kp.refl _ | exact Kp.drewN _ 1 | exact Kp.trans (by assumption) (Kp.drewN _ 1))⟩
      | (go_split_ands; exact ⟨(T1.out.keep (by first | assumption | exact Kp.refl _ | exact Kp.drewN _ 1 | exact Kp.trans (by assumption) (Kp.drewN _ 1))).c0, (T1.out.keep (by first | assumption | exact Kp.refl _ | exact Kp.drewN _ 1 | exact Kp.trans (by assumption) (Kp.drewN _ 1))).c1, (T2.out.keep (by first | assumption | exact Kp.refl _ | exact Kp.drewN _ 1 | exact Kp.trans (by assumption) (Kp.drewN _ 1))).c0, (T2.out.keep (by first | assumption | exact Kp.refl _ | exact Kp.drewN _ 1 | exact Kp.trans (by assumption) (Kp.drewN _ 1))).c1, (by first | assumption | exact Kp.refl _ | exact Kp.drewN _ 1 | exact Kp.trans (by assumption) (Kp.drewN _ 1))⟩)
      | fail "no keep")
    (first
      | (go_at_call 9; refine ((HCMP.out _ _ _ _ _ (SA.out.keep (Kp.drewN W 1)) (SB.out.keep (Kp.drewN W 1)) (SC.out.keep (Kp.drewN W 1)) (SD.out.keep (Kp.drewN W 1))).1).mono ?_; rintro e w5 ⟨rfl, hk5⟩; have k5 : Kp W w5 := Kp.trans (Kp.drewN W 1) hk5)
      | (go_at_call 10; refine ((HCMP.out _ _ _ _ _ (SA.out.keep k5) (SB.out.keep k5) (SC.out.keep k5) (SD.out.keep k5)).2).mono ?_; rintro e w6 ⟨rfl, hk6⟩; have k6 : Kp W w6 := Kp.trans k5 hk6)
      | fail "no arm")
  have KB0 := Lib.hid k6
  clear c10 c11 c20 c21 k5 hk5 k6 hk6
  have c10 := (T1.out.keep KB0.out).c0; have c11 := (T1.out.keep KB0.out).c1
  have c20 := (T2.out.keep KB0.out).c0; have c21 := (T2.out.keep KB0.out).c1
  go_wp2_with fail
  clear c10 c11 c20 c21
  refine ((HOPA.out _ _ _ _ _ (SA.out.keep KB0.out) (SB.out.keep KB0.out) (SC.out.keep KB0.out) (SD.out.keep KB0.out)).1).mono ?_
  intro e x1 hq
  obtain ⟨⟨v1, v2, rfl, h1, h2, n1, n2⟩, hk⟩ := hq
  obtain ⟨p1o1, p1l1, p1c1, rfl⟩ := h1.open3
  obtain ⟨p2o1, p2l1, p2c1, rfl⟩ := h2.open3
  obtain ⟨W1, hw, HKs, HB, hz⟩ := box2 x1 25 (.slice p1o1 p1l1 p1c1) (.slice p2o1 p2l1 p2c1)
  have HW1 := Lib.hid hw
  have KB1 := Lib.hid (Kp.trans KB0.out (Kp.trans hk HKs.out))
  have pS1 := Lib.hid (h1.keep HKs.out); have pS2 := Lib.hid (h2.keep HKs.out)
  have TP1 := HB; have GP := Lib.hid (Nat.le_trans KB0.out.size hk.size); have GZ := Lib.hid hz
  obtain ⟨g3, eg3⟩ : ∃ g3, g3 = x1.heap.size := ⟨_, rfl⟩
  rw [← eg3] at TP1 GP GZ
  have EG3 := Lib.hid eg3
  clear h1 h2 n1 n2 hk hw HB hz HKs eg3
  skip
  have c10 := (T1.out.keep KB1.out).c0; have c11 := (T1.out.keep KB1.out).c1
  have c20 := (T2.out.keep KB1.out).c0; have c21 := (T2.out.keep KB1.out).c1
  rw [HW1.out] at c10 c11 c20 c21
  go_wp2_with fail
  rw [← HW1.out]
  rw [← EG3.out]
  clear c10 c11 c20 c21
  refine ((HOPA.out _ _ _ _ _ (SA.out.keep KB1.out) (SB.out.keep KB1.out) (SC.out.keep KB1.out) (SD.out.keep KB1.out)).2).mono ?_
  intro e x2 hq
  obtain ⟨⟨v1, v2, rfl, h1, h2, n1, n2⟩, hk⟩ := hq
  obtain ⟨q1o2, q1l2, q1c2, rfl⟩ := h1.open3
  obtain ⟨q2o2, q2l2, q2c2, rfl⟩ := h2.open3
  obtain ⟨W2, hw, HKs, HB, hz⟩ := box2 x2 25 (.slice q1o2 q1l2 q1c2) (.slice q2o2 q2l2 q2c2)
  have HW2 := Lib.hid hw
  have KB2 := Lib.hid (Kp.trans KB1.out (Kp.trans hk HKs.out))
  have qS1 := Lib.hid (h1.keep HKs.out); have qS2 := Lib.hid (h2.keep HKs.out)
  have TQ2 := HB; have GQ := Lib.hid (Nat.le_trans KB1.out.size hk.size)
  have pS1' := pS1.out.keep (Kp.trans hk HKs.out); have pS2' := pS2.out.keep (Kp.trans hk HKs.out)
  have TP2 := Lib.hid (TP1.out.keep (Kp.trans hk HKs.out))
  have GN : Hid (g3 < x2.heap.size) := Nat.lt_of_lt_of_le GZ.out hk.size
  have GZ2 := Lib.hid hz
  obtain ⟨g4, eg4⟩ : ∃ g4, g4 = x2.heap.size := ⟨_, rfl⟩
  rw [← eg4] at TQ2 GQ GN GZ2
  clear pS1 pS2
  have pS1 := Lib.hid pS1'; have pS2 := Lib.hid pS2'; have EG4 := Lib.hid eg4
  clear h1 h2 n1 n2 hk hw HB hz HKs pS1' pS2' eg4
  have c30 := TP2.out.c0; have c31 := TP2.out.c1
  have c40 := TQ2.out.c0; have c41 := TQ2.out.c1
  rw [HW2.out] at c30 c31 c40 c41
  go_wp2_with fail
  rw [← HW2.out]
  rw [← EG4.out]
  clear c30 c31 c40 c41
  refine (fsame_eq (E := EA) (p := pA) pS1.out pS2.out qS1.out qS2.out).mono ?_
  rintro e W3 ⟨rfl, hk⟩
  have KB3 := Lib.hid (Kp.trans KB2.out hk); have TP3 := Lib.hid (TP2.out.keep hk); have TQ3 := Lib.hid (TQ2.out.keep hk)
  clear hk pS1 pS2 qS1 qS2
  have c10 := (T1.out.keep KB3.out).c0; have c11 := (T1.out.keep KB3.out).c1
  have c20 := (T2.out.keep KB3.out).c0; have c21 := (T2.out.keep KB3.out).c1
  go_wp2_with fail
  clear c10 c11 c20 c21
  refine ((HOPB.out _ _ _ _ _ (SA.out.keep KB3.out) (SB.out.keep KB3.out) (SC.out.keep KB3.out) (SD.out.keep KB3.out)).1).mono ?_
  intro e x4 hq
  obtain ⟨⟨v1, v2, rfl, h1, h2, n1, n2⟩, hk⟩ := hq
  obtain ⟨p1o4, p1l4, p1c4, rfl⟩ := h1.open3
  obtain ⟨p2o4, p2l4, p2c4, rfl⟩ := h2.open3
  have hT := TP3.out.keep hk; have hTo := TQ3.out.keep hk
  have hP := Put.made hT (.slice p1o4 p1l4 p1c4) (.slice p2o4 p2l4 p2c4)
  have f0 := hT.free 0; have c0 := hT.c0; have f1 := (hT.set0 (.slice p1o4 p1l4 p1c4)).free 1; have c1 := (hT.set0 (.slice p1o4 p1l4 p1c4)).c1
  obtain ⟨W4, hw⟩ : ∃ W4, W4 = (x4.setCell ⟨g3, 0, none⟩ (.slice p1o4 p1l4 p1c4)).setCell ⟨g3, 1, none⟩ (.slice p2o4 p2l4 p2c4) := ⟨_, rfl⟩
  rw [← hw] at hP
  have KB4 := Lib.hid (hP.only.kp (Kp.trans KB3.out hk) GP.out)
  have hlt : g3 < W3.heap.size := TP3.out.lt
  have pS1' := h1.only hP.only (n1.offs hlt _); have pS2' := h2.only hP.only (n2.offs hlt _)
  have TP4 := Lib.hid hP.two; have TQ4 := Lib.hid (hTo.other hP.only (by have := GN.out; omega))
  have hlt4 : g4 < W3.heap.size := TQ3.out.lt
  have pO1 := Lib.hid (n1.offs hlt4 (limbs pB.1)); have pO2 := Lib.hid (n2.offs hlt4 (limbs pB.2))
  clear hlt4
  have pS1 := Lib.hid pS1'; have pS2 := Lib.hid pS2'; have HW4 := Lib.hid hw
  clear h1 h2 n1 n2 hk hT hTo hP hlt pS1' pS2' hw
  -- the store
  have c10 := (T1.out.keep KB4.out).c0; have c11 := (T1.out.keep KB4.out).c1
  have c20 := (T2.out.keep KB4.out).c0; have c21 := (T2.out.keep KB4.out).c1
  rw [HW4.out] at c10 c11 c20 c21
  go_wp2_with fail
  rw [← HW4.out]
  clear c10 c11 c20 c21
  refine ((HOPB.out _ _ _ _ _ (SA.out.keep KB4.out) (SB.out.keep KB4.out) (SC.out.keep KB4.out) (SD.out.keep KB4.out)).2).mono ?_
  intro e x5 hq
  obtain ⟨⟨v1, v2, rfl, h1, h2, n1, n2⟩, hk⟩ := hq
  obtain ⟨q1o5, q1l5, q1c5, rfl⟩ := h1.open3
  obtain ⟨q2o5, q2l5, q2c5, rfl⟩ := h2.open3
  have hT := TQ4.out.keep hk; have hTo := TP4.out.keep hk
  have hP := Put.made hT (.slice q1o5 q1l5 q1c5) (.slice q2o5 q2l5 q2c5)
  have f0 := hT.free 0; have c0 := hT.c0; have f1 := (hT.set0 (.slice q1o5 q1l5 q1c5)).free 1; have c1 := (hT.set0 (.slice q1o5 q1l5 q1c5)).c1
  obtain ⟨W5, hw⟩ : ∃ W5, W5 = (x5.setCell ⟨g4, 0, none⟩ (.slice q1o5 q1l5 q1c5)).setCell ⟨g4, 1, none⟩ (.slice q2o5 q2l5 q2c5) := ⟨_, rfl⟩
  rw [← hw] at hP
  have KB5 := Lib.hid (hP.only.kp (Kp.trans KB4.out hk) GQ.out)
  have hlt : g4 < W4.heap.size := TQ4.out.lt
  have qS1' := h1.only hP.only (n1.offs hlt _); have qS2' := h2.only hP.only (n2.offs hlt _)
  have TQ5 := Lib.hid hP.two; have TP5 := Lib.hid (hTo.other hP.only (by have := GN.out; omega))
  have pS1'' := (pS1.out.keep hk).only hP.only pO1.out; have pS2'' := (pS2.out.keep hk).only hP.only pO2.out
  clear pS1 pS2
  have pS1 := Lib.hid pS1''; have pS2 := Lib.hid pS2''
  clear pS1'' pS2''
  have qS1 := Lib.hid qS1'; have qS2 := Lib.hid qS2'; have HW5 := Lib.hid hw
  clear h1 h2 n1 n2 hk hT hTo hP hlt qS1' qS2' hw
  -- the store
  have c30 := TP5.out.c0; have c31 := TP5.out.c1
  have c40 := TQ5.out.c0; have c41 := TQ5.out.c1
  rw [HW5.out] at c30 c31 c40 c41
  go_wp2_with fail
  rw [← HW5.out]
  clear c30 c31 c40 c41
  refine (fsame_eq (E := EB) (p := pB) pS1.out pS2.out qS1.out qS2.out).mono ?_
  rintro e W6 ⟨rfl, hk⟩
  have KB6 := Lib.hid (Kp.trans KB5.out hk); have TP6 := Lib.hid (TP5.out.keep hk); have TQ6 := Lib.hid (TQ5.out.keep hk)
  clear hk pS1 pS2 qS1 qS2 pO1 pO2
  have c10 := (T1.out.keep KB6.out).c0; have c11 := (T1.out.keep KB6.out).c1
  have c20 := (T2.out.keep KB6.out).c0; have c21 := (T2.out.keep KB6.out).c1
  go_wp2_with fail
  clear c10 c11 c20 c21
  refine ((HOPC.out _ _ _ _ _ (SA.out.keep KB6.out) (SB.out.keep KB6.out) (SC.out.keep KB6.out) (SD.out.keep KB6.out)).1).mono ?_
  intro e x7 hq
  obtain ⟨⟨v1, v2, rfl, h1, h2, n1, n2⟩, hk⟩ := hq
  obtain ⟨p1o7, p1l7, p1c7, rfl⟩ := h1.open3
  obtain ⟨p2o7, p2l7, p2c7, rfl⟩ := h2.open3
  have hT := TP6.out.keep hk; have hTo := TQ6.out.keep hk
  have hP := Put.made hT (.slice p1o7 p1l7 p1c7) (.slice p2o7 p2l7 p2c7)
  have f0 := hT.free 0; have c0 := hT.c0; have f1 := (hT.set0 (.slice p1o7 p1l7 p1c7)).free 1; have c1 := (hT.set0 (.slice p1o7 p1l7 p1c7)).c1
  obtain ⟨W7, hw⟩ : ∃ W7, W7 = (x7.setCell ⟨g3, 0, none⟩ (.slice p1o7 p1l7 p1c7)).setCell ⟨g3, 1, none⟩ (.slice p2o7 p2l7 p2c7) := ⟨_, rfl⟩
  rw [← hw] at hP
  have KB7 := Lib.hid (hP.only.kp (Kp.trans KB6.out hk) GP.out)
  have hlt : g3 < W6.heap.size := TP6.out.lt
  have pS1' := h1.only hP.only (n1.offs hlt _); have pS2' := h2.only hP.only (n2.offs hlt _)
  have TP7 := Lib.hid hP.two; have TQ7 := Lib.hid (hTo.other hP.only (by have := GN.out; omega))
  have hlt4 : g4 < W6.heap.size := TQ6.out.lt
  have pO1 := Lib.hid (n1.offs hlt4 (limbs pC.1)); have pO2 := Lib.hid (n2.offs hlt4 (limbs pC.2))
  clear hlt4
  have pS1 := Lib.hid pS1'; have pS2 := Lib.hid pS2'; have HW7 := Lib.hid hw
  clear h1 h2 n1 n2 hk hT hTo hP hlt pS1' pS2' hw
  -- the store
  have c10 := (T1.out.keep KB7.out).c0; have c11 := (T1.out.keep KB7.out).c1
  have c20 := (T2.out.keep KB7.out).c0; have c21 := (T2.out.keep KB7.out).c1
  rw [HW7.out] at c10 c11 c20 c21
  go_wp2_with fail
  rw [← HW7.out]
  clear c10 c11 c20 c21
  refine ((HOPC.out _ _ _ _ _ (SA.out.keep KB7.out) (SB.out.keep KB7.out) (SC.out.keep KB7.out) (SD.out.keep KB7.out)).2).mono ?_
  intro e x8 hq
  obtain ⟨⟨v1, v2, rfl, h1, h2, n1, n2⟩, hk⟩ := hq
  obtain ⟨q1o8, q1l8, q1c8, rfl⟩ := h1.open3
  obtain ⟨q2o8, q2l8, q2c8, rfl⟩ := h2.open3
  have hT := TQ7.out.keep hk; have hTo := TP7.out.keep hk
  have hP := Put.made hT (.slice q1o8 q1l8 q1c8) (.slice q2o8 q2l8 q2c8)
  have f0 := hT.free 0; have c0 := hT.c0; have f1 := (hT.set0 (.slice q1o8 q1l8 q1c8)).free 1; have c1 := (hT.set0 (.slice q1o8 q1l8 q1c8)).c1
  obtain ⟨W8, hw⟩ : ∃ W8, W8 = (x8.setCell ⟨g4, 0, none⟩ (.slice q1o8 q1l8 q1c8)).setCell ⟨g4, 1, none⟩ (.slice q2o8 q2l8 q2c8) := ⟨_, rfl⟩
  rw [← hw] at hP
  have KB8 := Lib.hid (hP.only.kp (Kp.trans KB7.out hk) GQ.out)
  have hlt : g4 < W7.heap.size := TQ7.out.lt
  have qS1' := h1.only hP.only (n1.offs hlt _); have qS2' := h2.only hP.only (n2.offs hlt _)
  have TQ8 := Lib.hid hP.two; have TP8 := Lib.hid (hTo.other hP.only (by have := GN.out; omega))
  have pS1'' := (pS1.out.keep hk).only hP.only pO1.out; have pS2'' := (pS2.out.keep hk).only hP.only pO2.out
  clear pS1 pS2
  have pS1 := Lib.hid pS1''; have pS2 := Lib.hid pS2''
  clear pS1'' pS2''
  have qS1 := Lib.hid qS1'; have qS2 := Lib.hid qS2'; have HW8 := Lib.hid hw
  clear h1 h2 n1 n2 hk hT hTo hP hlt qS1' qS2' hw
  -- the store
  have c30 := TP8.out.c0; have c31 := TP8.out.c1
  have c40 := TQ8.out.c0; have c41 := TQ8.out.c1
  rw [HW8.out] at c30 c31 c40 c41
  go_wp2_with fail
  rw [← HW8.out]
  clear c30 c31 c40 c41
  refine (fsame_eq (E := EC) (p := pC) pS1.out pS2.out qS1.out qS2.out).mono ?_
  rintro e W9 ⟨rfl, hk⟩
  have KB9 := Lib.hid (Kp.trans KB8.out hk); have TP9 := Lib.hid (TP8.out.keep hk); have TQ9 := Lib.hid (TQ8.out.keep hk)
  clear hk pS1 pS2 qS1 qS2 pO1 pO2
  have c10 := (T1.out.keep KB9.out).c0; have c11 := (T1.out.keep KB9.out).c1
  have c20 := (T2.out.keep KB9.out).c0; have c21 := (T2.out.keep KB9.out).c1
  go_wp2_with fail
  clear c10 c11 c20 c21
  refine ((HOPD.out _ _ _ _ _ (SA.out.keep KB9.out) (SB.out.keep KB9.out) (SC.out.keep KB9.out) (SD.out.keep KB9.out)).1).mono ?_
  intro e x10 hq
  obtain ⟨⟨v1, v2, rfl, h1, h2, n1, n2⟩, hk⟩ := hq
  obtain ⟨p1o10, p1l10, p1c10, rfl⟩ := h1.open3
  obtain ⟨p2o10, p2l10, p2c10, rfl⟩ := h2.open3
  have hT := TP9.out.keep hk; have hTo := TQ9.out.keep hk
  have hP := Put.made hT (.slice p1o10 p1l10 p1c10) (.slice p2o10 p2l10 p2c10)
  have f0 := hT.free 0; have c0 := hT.c0; have f1 := (hT.set0 (.slice p1o10 p1l10 p1c10)).free 1; have c1 := (hT.set0 (.slice p1o10 p1l10 p1c10)).c1
  obtain ⟨W10, hw⟩ : ∃ W10, W10 = (x10.setCell ⟨g3, 0, none⟩ (.slice p1o10 p1l10 p1c10)).setCell ⟨g3, 1, none⟩ (.slice p2o10 p2l10 p2c10) := ⟨_, rfl⟩
  rw [← hw] at hP
  have KB10 := Lib.hid (hP.only.kp (Kp.trans KB9.out hk) GP.out)
  have hlt : g3 < W9.heap.size := TP9.out.lt
  have pS1' := h1.only hP.only (n1.offs hlt _); have pS2' := h2.only hP.only (n2.offs hlt _)
  have TP10 := Lib.hid hP.two; have TQ10 := Lib.hid (hTo.other hP.only (by have := GN.out; omega))
  have hlt4 : g4 < W9.heap.size := TQ9.out.lt
  have pO1 := Lib.hid (n1.offs hlt4 (limbs pD.1)); have pO2 := Lib.hid (n2.offs hlt4 (limbs pD.2))
  clear hlt4
  have pS1 := Lib.hid pS1'; have pS2 := Lib.hid pS2'; have HW10 := Lib.hid hw
  clear h1 h2 n1 n2 hk hT hTo hP hlt pS1' pS2' hw
  -- the store
  have c10 := (T1.out.keep KB10.out).c0; have c11 := (T1.out.keep KB10.out).c1
  have c20 := (T2.out.keep KB10.out).c0; have c21 := (T2.out.keep KB10.out).c1
  rw [HW10.out] at c10 c11 c20 c21
  go_wp2_with fail
  rw [← HW10.out]
  clear c10 c11 c20 c21
  refine ((HOPD.out _ _ _ _ _ (SA.out.keep KB10.out) (SB.out.keep KB10.out) (SC.out.keep KB10.out) (SD.out.keep KB10.out)).2).mono ?_
  intro e x11 hq
  obtain ⟨⟨v1, v2, rfl, h1, h2, n1, n2⟩, hk⟩ := hq
  obtain ⟨q1o11, q1l11, q1c11, rfl⟩ := h1.open3
  obtain ⟨q2o11, q2l11, q2c11, rfl⟩ := h2.open3
  have hT := TQ10.out.keep hk; have hTo := TP10.out.keep hk
  have hP := Put.made hT (.slice q1o11 q1l11 q1c11) (.slice q2o11 q2l11 q2c11)
  have f0 := hT.free 0; have c0 := hT.c0; have f1 := (hT.set0 (.slice q1o11 q1l11 q1c11)).free 1; have c1 := (hT.set0 (.slice q1o11 q1l11 q1c11)).c1
  obtain ⟨W11, hw⟩ : ∃ W11, W11 = (x11.setCell ⟨g4, 0, none⟩ (.slice q1o11 q1l11 q1c11)).setCell ⟨g4, 1, none⟩ (.slice q2o11 q2l11 q2c11) := ⟨_, rfl⟩
  rw [← hw] at hP
  have KB11 := Lib.hid (hP.only.kp (Kp.trans KB10.out hk) GQ.out)
  have hlt : g4 < W10.heap.size := TQ10.out.lt
  have qS1' := h1.only hP.only (n1.offs hlt _); have qS2' := h2.only hP.only (n2.offs hlt _)
  have TQ11 := Lib.hid hP.two; have TP11 := Lib.hid (hTo.other hP.only (by have := GN.out; omega))
  have pS1'' := (pS1.out.keep hk).only hP.only pO1.out; have pS2'' := (pS2.out.keep hk).only hP.only pO2.out
  clear pS1 pS2
  have pS1 := Lib.hid pS1''; have pS2 := Lib.hid pS2''
  clear pS1'' pS2''
  have qS1 := Lib.hid qS1'; have qS2 := Lib.hid qS2'; have HW11 := Lib.hid hw
  clear h1 h2 n1 n2 hk hT hTo hP hlt qS1' qS2' hw
  -- the store
  have c30 := TP11.out.c0; have c31 := TP11.out.c1
  have c40 := TQ11.out.c0; have c41 := TQ11.out.c1
  rw [HW11.out] at c30 c31 c40 c41
  go_wp2_with fail
  rw [← HW11.out]
  clear c30 c31 c40 c41
  refine (fsame_eq (E := ED) (p := pD) pS1.out pS2.out qS1.out qS2.out).mono ?_
  rintro e W12 ⟨rfl, hk⟩
  have KB12 := Lib.hid (Kp.trans KB11.out hk); have TP12 := Lib.hid (TP11.out.keep hk); have TQ12 := Lib.hid (TQ11.out.keep hk)
  clear hk pS1 pS2 qS1 qS2 pO1 pO2
  go_wp2_with fail
  refine (fawake_any (HT.out.keep (Kp.trans K0.out KB12.out))).mono ?_
  rintro e wZ ⟨rfl, hk⟩
  have HKZ := Lib.hid (Kp.trans (Kp.trans K0.out KB12.out) hk)
  clear hk
  go_wp2_with fail
  go_ret
  exact ⟨rfl, HKZ.out⟩
end Go.Proofs.YtgpochhndjadhaaGreatDoor
