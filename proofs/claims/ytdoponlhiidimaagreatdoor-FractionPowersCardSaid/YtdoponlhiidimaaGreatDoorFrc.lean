/- The law's fractions: trim and frac. Condition: the slices hold the digits that are named. -/
import Derived.Test.YtdoponlhiidimaaGreatDoorMakesA
import Derived.Test.YtdoponlhiidimaaGreatDoorTimes
namespace Go.Proofs.YtdoponlhiidimaaGreatDoor
open Go.RowKit LimbN
set_option linter.unusedVariables false
set_option linter.unusedSimpArgs false

set_option maxRecDepth 100000 in
set_option maxHeartbeats 1000000 in
theorem ftrim8_any {v : Value} {xs : List Nat} {w : World} (hs : Sl w v xs) :
    Calls Tryz.prog 15 #[v] w fun e w' => (∃ v', e = .returned v' ∧ Sl w v' (limbs (val (xs.take 8)))) ∧ w = w' := by
  have HS := Lib.hid hs
  clear hs
  go_enter Tryz.func15, Tryz.ntmps15
  go_wp2_with fail
  refine (cut8_any HS.out).mono ?_
  rintro e w1 ⟨⟨v1, rfl, h1⟩, rfl⟩
  obtain ⟨ys, ey⟩ : ∃ ys, ys = xs.take 8 := ⟨_, rfl⟩
  rw [← ey] at h1
  obtain ⟨⟨ao, cap, rfl, hcap, hm, ha, hno⟩, hl, hsm⟩ := h1
  have FIN : Hid (∀ k, k ≤ ys.length → ZeroFrom k ys → (k = 0 ∨ ys[k - 1]?.getD 0 ≠ 0) → Sl w (.slice ao k cap) (limbs (val (xs.take 8)))) := by
    intro k hk hz he
    rw [← ey, trim_eq hl k hk hz he]
    exact Sl.cut hcap hm ha hl hsm hno k hk
  have HAT := Lib.hid ha
  obtain ⟨len, hlen⟩ : ∃ len, len = ys.length := ⟨_, rfl⟩
  unfold maxLen at hm
  rw [← hlen] at hcap hsm ⊢
  have HL := Lib.hid hlen
  clear ha hno hl hlen ey
  go_wp2_with fail
  go_loop [0] (fun s => ∃ k : Nat, k ≤ len ∧ s = .slice ao k cap ∧ ZeroFrom k ys) (fun s => match s with | .slice _ n _ => n | _ => 0)
  case atStart => exact ⟨len, Nat.le_refl _, rfl, by rw [HL.out]; exact ZeroFrom.all ys⟩
  case round =>
    obtain ⟨k, hk, rfl, hz⟩ := hrel
    have HZ := Lib.hid hz; clear hz
    by_cases h0 : k = 0
    · subst h0
      go_wp2_with fail
      go_ret
      exact ⟨⟨_, rfl, FIN.out 0 (Nat.zero_le _) HZ.out (.inl rfl)⟩, rfl⟩
    · obtain ⟨b, off, rfl, hcells⟩ := HAT.out.cells (by have := HL.out; omega)
      have hcell := hcells (k - 1) (by have := HL.out; omega)
      clear hcells
      obtain ⟨z, ez⟩ : ∃ z, z = ys[k - 1]?.getD 0 := ⟨_, rfl⟩
      rw [← ez] at hcell
      have EZ := Lib.hid ez; clear ez
      have hk0 : (0 : Int) < (k : Int) := by omega
      have hkd : decide ((0 : Int) < (k : Int)) = true := decide_eq_true hk0
      by_cases hz0 : z = 0
      · subst hz0
        go_wp2_with fail
        go_round
        case rel => exact ⟨k - 1, by omega, by simp, ZeroFrom.down (by have := HZ.out; rwa [show k - 1 + 1 = k by omega]) EZ.out.symm⟩
        case measure => simp; omega
      · have hzf : ((z : Int) == 0) = false := beq_eq_false_iff_ne.2 (by omega)
        go_wp2_with fail
        go_ret
        exact ⟨⟨_, rfl, FIN.out k (by have := HL.out; omega) HZ.out (.inr (by rw [← EZ.out]; exact hz0))⟩, rfl⟩
theorem Sl.cut8 {u : World} {ao : Option Addr} {cap : Nat} {xs : List Nat} (h : Sl u (.slice ao xs.length cap) xs) (k : Nat) (hk : k ≤ xs.length) : Sl u (.slice ao k cap) (xs.take k) := by
  obtain ⟨⟨ao', cap', e, hcap, hm, ha, hno⟩, hl, hsm⟩ := h
  injection e with e1 e2 e3
  subst e1 e3
  exact Sl.cut hcap hm ha hl hsm hno k hk
set_option maxHeartbeats 400000 in
theorem cut8_all {v : Value} {xs : List Nat} {w : World} (hs : Sl w v xs) :
    Calls Tryz.prog 14 #[v] w fun e w' => (∃ v', e = .returned v' ∧ ∀ u, Sl u v xs → Sl u v' (xs.take 8)) ∧ w = w' := by
  obtain ⟨⟨ao, cap, rfl, hcap, hm, ha, hno⟩, hl, hsm⟩ := hs
  have HC : Hid (∀ (u : World) (k : Nat), k ≤ xs.length → Sl u (.slice ao xs.length cap) xs → Sl u (.slice ao k cap) (xs.take k)) := fun u k hk h => h.cut8 k hk
  clear ha hno hl
  unfold maxLen at hm
  obtain ⟨len, hlen⟩ : ∃ len, len = xs.length := ⟨_, rfl⟩
  rw [← hlen] at hcap hsm HC ⊢
  have HL := Lib.hid hlen; clear hlen
  by_cases h : 8 < len
  · go_enter Tryz.func14, Tryz.ntmps14
    go_wp2
    go_ret
    exact ⟨⟨_, rfl, fun u hu => HC.out u 8 (by omega) hu⟩, rfl⟩
  · go_enter Tryz.func14, Tryz.ntmps14
    go_wp2
    go_ret
    refine ⟨⟨_, rfl, fun u hu => ?_⟩, rfl⟩
    have := HC.out u len (Nat.le_refl _) hu
    rwa [List.take_of_length_le (by have := HL.out; omega)] at this ⊢
/-- The digits that frac gives: as they are, or in lowest terms. -/
def frN (xs ys : List Nat) (o : Int) : List Nat := if o.tmod 7 = 3 then xs.take 8 else limbs (FracN.low (val (xs.take 8)) (if val (ys.take 8) = 0 then 1 else val (ys.take 8))).1
def frD (xs ys : List Nat) (o : Int) : List Nat := if o.tmod 7 = 3 then ys.take 8 else limbs (FracN.low (val (xs.take 8)) (if val (ys.take 8) = 0 then 1 else val (ys.take 8))).2
theorem one_lim : (limbs 1).length ≤ 128 := by decide
theorem limbs_take {xs : List Nat} (h : Lt xs) : (limbs (val (xs.take 8))).length ≤ 8 := by
  have h1 : Lt (xs.take 8) := h.take 8
  have h2 := val_lt h1
  rw [limbs_len_le]
  refine Nat.lt_of_lt_of_le h2 (Nat.pow_le_pow_right (by decide) ?_)
  rw [List.length_take]
  omega
set_option maxRecDepth 100000 in
set_option maxHeartbeats 2000000 in
theorem ffrac_any {xs ys : List Nat} {vx vy : Value} {w : World} (hx : Sl w vx xs) (hy : Sl w vy ys) (o : Int) (ho : -9223372036854775808 ≤ o ∧ o ≤ 9223372036854775807) :
    Calls Tryz.prog 4 #[vx, vy, .int .i64 o] w fun e w' => (∃ v1 v2, e = .returned (.agg #[v1, v2]) ∧ Sl w' v1 (frN xs ys o) ∧ Sl w' v2 (frD xs ys o)) ∧ Kp w w' := by
  obtain ⟨w3, hw3, HK3, HB3, hz3⟩ := start2 w 26
  have HW3 := Lib.hid hw3; have HX := Lib.hid hx; have HY := Lib.hid hy
  clear hw3 hx hy
  have END : Hid (∀ (wk : World) (v1 v2 : Value), Kp w3 wk → Sl wk v1 (frN xs ys o) → Sl wk v2 (frD xs ys o) → ∃ ao al ac bo bl bc, v1 = .slice ao al ac ∧ v2 = .slice bo bl bc) := by
    intro wk v1 v2 _ h1 h2
    obtain ⟨ao, al, ac, rfl⟩ := h1.open3
    obtain ⟨bo, bl, bc, rfl⟩ := h2.open3
    exact ⟨_, _, _, _, _, _, rfl, rfl⟩
  by_cases h3 : o.tmod 7 = 3
  · have e1 : frN xs ys o = xs.take 8 := if_pos h3
    have e2 : frD xs ys o = ys.take 8 := if_pos h3
    have hb : (o.tmod 7 == 3) = true := by simp [h3]
    rw [e1, e2]
    clear e1 e2 END
    go_enter Tryz.func4, Tryz.ntmps4
    go_wp2_with fail
    rw [← HW3.out]
    refine (cut8_all (HX.out.keep HK3.out)).mono ?_
    rintro e w1 ⟨⟨v1, rfl, h1'⟩, rfl⟩
    have h0 := h1' w HX.out; have h1 := h1' w3 (HX.out.keep HK3.out)
    have H1 := Lib.hid h1; have H1W := Lib.hid h0
    clear h1' h0
    go_wp2_with fail
    refine (cut8_all (HY.out.keep HK3.out)).mono ?_
    rintro e w1 ⟨⟨v2, rfl, h2'⟩, rfl⟩
    have h0 := h2' w HY.out; have h2 := h2' w3 (HY.out.keep HK3.out)
    have H2W := Lib.hid h0
    clear h2' h0
    obtain ⟨ao, al, ac, rfl⟩ := h1.open3
    obtain ⟨bo, bl, bc, rfl⟩ := h2.open3
    have H2 := Lib.hid h2
    have hT := HB3.out
    have hP := Put.made hT (.slice ao al ac) (.slice bo bl bc)
    have f0 := hT.free 0; have c0 := hT.c0; have f1 := (hT.set0 (.slice ao al ac)).free 1; have c1 := (hT.set0 (.slice ao al ac)).c1
    obtain ⟨wz, hwz⟩ : ∃ wz, wz = (w3.setCell ⟨w.heap.size, 0, none⟩ (.slice ao al ac)).setCell ⟨w.heap.size, 1, none⟩ (.slice bo bl bc) := ⟨_, rfl⟩
    rw [← hwz] at hP
    have HWZ := Lib.hid hwz; have HP := Lib.hid hP
    clear h1 h2 hT hP hwz h3
    go_wp2_with fail
    rw [← HWZ.out]
    clear c0 c1 f0 f1
    have c0 := HP.out.two.c0
    have c1 := HP.out.two.c1
    have o1 : Sl wz (.slice ao al ac) (xs.take 8) := H1.out.only HP.out.only (H1W.out.off (Nat.le_refl _))
    have o2 : Sl wz (.slice bo bl bc) (ys.take 8) := H2.out.only HP.out.only (H2W.out.off (Nat.le_refl _))
    have FIN : (∃ v1 v2, Ending.returned (.agg #[.slice ao al ac, .slice bo bl bc]) = .returned (.agg #[v1, v2]) ∧ Sl wz v1 (xs.take 8) ∧ Sl wz v2 (ys.take 8)) ∧ Kp w wz := ⟨⟨_, _, rfl, o1, o2⟩, HP.out.only.kp HK3.out (Nat.le_refl _)⟩
    exact bodyPost_ret (by simp [results, Tryz.results4, go_sem, c0, c1]) rfl FIN
  · have e1 : frN xs ys o = limbs (FracN.low (val (xs.take 8)) (if val (ys.take 8) = 0 then 1 else val (ys.take 8))).1 := if_neg h3
    have e2 : frD xs ys o = limbs (FracN.low (val (xs.take 8)) (if val (ys.take 8) = 0 then 1 else val (ys.take 8))).2 := if_neg h3
    have hb : (o.tmod 7 == 3) = false := by simp [h3]
    rw [e1, e2]
    obtain ⟨N, hN⟩ : ∃ N, N = val (xs.take 8) := ⟨_, rfl⟩
    obtain ⟨D, hD⟩ : ∃ D, D = val (ys.take 8) := ⟨_, rfl⟩
    obtain ⟨M, hM⟩ : ∃ M, M = if val (ys.take 8) = 0 then 1 else val (ys.take 8) := ⟨_, rfl⟩
    rw [← hN, ← hM]
    rw [← hD] at hM
    have l1 : (limbs N).length ≤ 128 := by rw [hN]; exact Nat.le_trans (limbs_take HX.out.lt) (by decide)
    have l2 : (limbs D).length ≤ 128 := by rw [hD]; exact Nat.le_trans (limbs_take HY.out.lt) (by decide)
    have hm0 : M ≠ 0 := by rw [hM]; split <;> omega
    have lm : (limbs M).length ≤ 128 := by
      rw [hM]; split
      · exact one_lim
      · exact l2
    have HN := Lib.hid hN; have HD := Lib.hid hD; have L1 := Lib.hid l1; have LM := Lib.hid lm; have HM0 := Lib.hid hm0; have HM := Lib.hid hM
    clear hN hD e1 e2 END h3 l1 l2 lm hm0 hM
    go_enter Tryz.func4, Tryz.ntmps4
    go_wp2_with fail
    rw [← HW3.out]
    refine (ftrim8_any (HY.out.keep HK3.out)).mono ?_
    rintro e w1 ⟨⟨v1, rfl, h1⟩, rfl⟩
    rw [← HD.out] at h1
    obtain ⟨bo, bc, rfl, -⟩ := h1.ex
    have z2 := limbs_len_zero (n := D)
    obtain ⟨bl, ebl⟩ : ∃ bl, bl = (limbs D).length := ⟨_, rfl⟩
    rw [← ebl] at h1 z2 ⊢
    have H1 := Lib.hid h1
    clear h1 ebl
    by_cases hd0 : D = 0
    · have hbl : bl = 0 := z2.2 hd0
      subst hbl
      have hm1 : M = 1 := by rw [HM.out, if_pos hd0]
      have HM1 := Lib.hid hm1
      clear z2 hd0 H1 hm1
      obtain ⟨wL, hwL⟩ : ∃ wL, wL = w3.alloc (Obj.cells #[.int .u32 1] 43) := ⟨_, rfl⟩
      have hsl : Sl wL (.slice (some ⟨w3.heap.size, 0, none⟩) 1 1) (limbs M) := by
        rw [hwL, HM1.out, show limbs 1 = [1] by decide]
        exact sl_lit (w := w3) (e := 43) [1] (Lt.cons (by decide) Lt.nil) (by simp)
      have HKL : Hid (Kp w3 wL) := by show Kp _ _; rw [hwL]; exact Kp.alloc (Kp.refl _) _
      have HSL := Lib.hid hsl
      have HWL := Lib.hid hwL
      clear hsl hwL
      go_upto_region 6 with fail
      rw [← HWL.out]
      go_wp2_with fail
      refine (ftrim8_any (HX.out.keep (Kp.trans HK3.out HKL.out))).mono ?_
      rintro e w1 ⟨⟨v2, rfl, h2⟩, rfl⟩
      rw [← HN.out] at h2
      have H2 := Lib.hid h2
      clear h2
      go_wp2_with fail
      refine (rMake_any H2.out HSL.out).mono ?_
      rw [(mk_n L1.out LM.out HM0.out).1, (mk_n L1.out LM.out HM0.out).2]
      intro e w4 hq
      obtain ⟨⟨u1, u2, rfl, h1, h2, n1, n2⟩, hk⟩ := hq
      obtain ⟨no, nl, nc, rfl⟩ := h1.open3
      obtain ⟨zo, zl, zc, rfl⟩ := h2.open3
      obtain ⟨w5, hw5, HK5, HB5, hz5⟩ := box2 w4 26 (.slice no nl nc) (.slice zo zl zc)
      have hT8 := HB5.out
      have hk35 : Kp w3 w5 := Kp.trans HKL.out (Kp.trans hk HK5.out)
      have hT := HB3.out.keep hk35
      have hP := Put.made hT (.slice no nl nc) (.slice zo zl zc)
      have d0 := hT8.c0; have d1 := hT8.c1
      have f0 := hT.free 0; have c0 := hT.c0; have f1 := (hT.set0 (.slice no nl nc)).free 1; have c1 := (hT.set0 (.slice no nl nc)).c1
      rw [hw5] at d0 d1 f0 c0 f1 c1
      obtain ⟨wz, hwz⟩ : ∃ wz, wz = (w5.setCell ⟨w.heap.size, 0, none⟩ (.slice no nl nc)).setCell ⟨w.heap.size, 1, none⟩ (.slice zo zl zc) := ⟨_, rfl⟩
      rw [← hwz] at hP
      rw [hw5] at hwz
      have hlt : w.heap.size < wL.heap.size := Nat.lt_of_lt_of_le hz3 HKL.out.size
      have o1 := (h1.keep HK5.out).only hP.only (n1.offs hlt _)
      have o2 := (h2.keep HK5.out).only hP.only (n2.offs hlt _)
      have FIN : (∃ v1 v2, Ending.returned (.agg #[.slice no nl nc, .slice zo zl zc]) = .returned (.agg #[v1, v2]) ∧ Sl wz v1 (limbs (FracN.low N M).1) ∧ Sl wz v2 (limbs (FracN.low N M).2)) ∧ Kp w wz := ⟨⟨_, _, rfl, o1, o2⟩, hP.only.kp (Kp.trans HK3.out hk35) (Nat.le_refl _)⟩
      have HF := Lib.hid FIN; have HP := Lib.hid hP; have HWZ := Lib.hid hwz
      clear FIN hP hwz o1 o2 hT hT8 h1 h2 n1 n2 hk hk35 hw5 hz5 hlt
      go_wp2_with fail
      rw [← HWZ.out]
      clear c0 c1 f0 f1 d0 d1
      have c0 := HP.out.two.c0
      have c1 := HP.out.two.c1
      exact bodyPost_ret (by simp [results, Tryz.results4, go_sem, c0, c1]) rfl HF.out
    · have hbl : ((bl : Int) == 0) = false := beq_eq_false_iff_ne.2 (fun h => hd0 (z2.1 (by omega)))
      have hm1 : M = D := by rw [HM.out, if_neg hd0]
      have HM1 := Lib.hid hm1
      clear z2 hd0 hm1
      go_wp2_with fail
      refine (ftrim8_any (HX.out.keep HK3.out)).mono ?_
      rintro e w1 ⟨⟨v2, rfl, h2⟩, rfl⟩
      rw [← HN.out] at h2
      have H2 := Lib.hid h2
      clear h2
      go_wp2_with fail
      refine (rMake_any H2.out (show Sl w3 (.slice bo bl bc) (limbs M) by rw [HM1.out]; exact H1.out)).mono ?_
      rw [(mk_n L1.out LM.out HM0.out).1, (mk_n L1.out LM.out HM0.out).2]
      intro e w4 hq
      obtain ⟨⟨u1, u2, rfl, h1, h2, n1, n2⟩, hk⟩ := hq
      obtain ⟨no, nl, nc, rfl⟩ := h1.open3
      obtain ⟨zo, zl, zc, rfl⟩ := h2.open3
      obtain ⟨w5, hw5, HK5, HB5, hz5⟩ := box2 w4 26 (.slice no nl nc) (.slice zo zl zc)
      have hT8 := HB5.out
      have hk35 : Kp w3 w5 := Kp.trans hk HK5.out
      have hT := HB3.out.keep hk35
      have hP := Put.made hT (.slice no nl nc) (.slice zo zl zc)
      have d0 := hT8.c0; have d1 := hT8.c1
      have f0 := hT.free 0; have c0 := hT.c0; have f1 := (hT.set0 (.slice no nl nc)).free 1; have c1 := (hT.set0 (.slice no nl nc)).c1
      rw [hw5] at d0 d1 f0 c0 f1 c1
      obtain ⟨wz, hwz⟩ : ∃ wz, wz = (w5.setCell ⟨w.heap.size, 0, none⟩ (.slice no nl nc)).setCell ⟨w.heap.size, 1, none⟩ (.slice zo zl zc) := ⟨_, rfl⟩
      rw [← hwz] at hP
      rw [hw5] at hwz
      have hlt : w.heap.size < w3.heap.size := hz3
      have o1 := (h1.keep HK5.out).only hP.only (n1.offs hlt _)
      have o2 := (h2.keep HK5.out).only hP.only (n2.offs hlt _)
      have FIN : (∃ v1 v2, Ending.returned (.agg #[.slice no nl nc, .slice zo zl zc]) = .returned (.agg #[v1, v2]) ∧ Sl wz v1 (limbs (FracN.low N M).1) ∧ Sl wz v2 (limbs (FracN.low N M).2)) ∧ Kp w wz := ⟨⟨_, _, rfl, o1, o2⟩, hP.only.kp (Kp.trans HK3.out hk35) (Nat.le_refl _)⟩
      have HF := Lib.hid FIN; have HP := Lib.hid hP; have HWZ := Lib.hid hwz
      clear FIN hP hwz o1 o2 hT hT8 h1 h2 n1 n2 hk hk35 hw5 hz5 hlt
      go_wp2_with fail
      rw [← HWZ.out]
      clear c0 c1 f0 f1 d0 d1
      have c0 := HP.out.two.c0
      have c1 := HP.out.two.c1
      exact bodyPost_ret (by simp [results, Tryz.results4, go_sem, c0, c1]) rfl HF.out
end Go.Proofs.YtdoponlhiidimaaGreatDoor
