/- WireFrames: both sides read the same frames. Conditions: the slices hold the bytes that are named, 64-bit integers. -/
import Derived.Test.YtnjgnmfngcifpaaWFrA
import Derived.Test.YtnjgnmfngcifpaaWDam
import Derived.Test.YtnjgnmfngcifpaaWAwake
namespace Go.Proofs.Ytnjgnmfngcifpaa
namespace By
open Go.RowKit Go.Shelf WireN
set_option linter.unusedVariables false
set_option linter.unusedSimpArgs false

set_option maxRecDepth 100000 in
set_option maxHeartbeats 2000000 in
theorem frames_01 {v v2 : Value} {xs zs : List Nat} {w : World} (hs : Sl w v xs) (hz : Sl w v2 zs) (k at' : Int) (hk : -9223372036854775808 ≤ k ∧ k ≤ 9223372036854775807) (hat : -9223372036854775808 ≤ at' ∧ at' ≤ 9223372036854775807) (hl1 : xs.length ≤ 600) (hl2 : 200 < zs.length) :
    Calls Try.prog 3 #[v, .int .i64 k, v2, .int .i64 at'] w fun e w' => e = .returned (.bool true) ∧ Kp w w' := by
  obtain ⟨ao, cap, rfl, hcl, -, -⟩ := hs.open3
  obtain ⟨ao2, cap2, rfl, hcl2, -, -⟩ := hz.open3
  obtain ⟨n, hn⟩ : ∃ n, n = xs.length := ⟨_, rfl⟩
  obtain ⟨ys, hys⟩ : ∃ ys, ys = xs := ⟨_, rfl⟩
  rw [← hys] at hs hn hl1
  rw [← hn] at hs hl1
  rw [← hys, ← hn]
  have hni : (n : Int) ≤ 600 := by omega
  have HN : Hid (n = ys.length) := Lib.hid hn
  have HNB : Hid (n ≤ 600) := Lib.hid hl1
  clear hcl hys hn hl1
  have hsc2 := cut_to' hz 200 (by omega)
  obtain ⟨m2, hm2⟩ : ∃ m2, m2 = zs.length := ⟨_, rfl⟩
  obtain ⟨n2, hn2⟩ : ∃ n2 : Nat, n2 = 200 := ⟨_, rfl⟩
  obtain ⟨us, hus⟩ : ∃ us, us = zs.take 200 := ⟨_, rfl⟩
  have HN2 : Hid (n2 = us.length) := Lib.hid (by rw [hus, List.length_take]; omega)
  have HNB2 : Hid (n2 ≤ 200) := Lib.hid (by show n2 ≤ 200; omega)
  rw [← hus] at hsc2
  rw [← hm2] at hl2 hcl2 ⊢
  have hm2i : (200 : Int) < (m2 : Int) := by omega
  have hm2c : (m2 : Int) ≤ (cap2 : Int) := by omega
  clear hz
  have hz : Sl w (.slice ao2 n2 cap2) us := by rw [hn2]; exact hsc2
  clear hsc2 hus hm2 hl2 hcl2
  have HF : Hid (∃ (F : List Nat) (E : Nat), F.length ≤ 620 ∧ (∀ w', Kp w w' → Calls Try.prog 6 #[.agg #[.int .i64 k, .slice ao n cap]] w' (FrR F E w')) ∧ (∀ w', Kp w w' → Calls Try.prog 7 #[.agg #[.int .i64 k, .slice ao n cap]] w' (FrR F E w'))) := Lib.hid
    ⟨frB k ys, frE k, frB_len k (by have := HN.out; have := HNB.out; omega), fun w' hk' => Frame_both (hs.keep hk') k hk (by have := HN.out; have := HNB.out; omega), fun w' hk' => rFrame_both (hs.keep hk') k hk (by have := HN.out; have := HNB.out; omega)⟩
  obtain ⟨F, E, hfb, hfp, hfr⟩ := HF.out
  have HFP := Lib.hid hfp; have HFR := Lib.hid hfr
  obtain ⟨fl, hfl⟩ : ∃ fl, fl = F.length := ⟨_, rfl⟩
  have HFL := Lib.hid hfl
  have HFB : Hid (fl ≤ 620) := Lib.hid (by show fl ≤ 620; omega)
  have HS := Lib.hid hs; have HZ := Lib.hid hz; have HAT := Lib.hid hat
  have hflb : (fl : Int) ≤ 620 := by have := HFB.out; omega
  obtain ⟨C, hC⟩ : ∃ C, C = ck ys := ⟨_, rfl⟩
  have HC := Lib.hid hC
  have qC : ((C : Int) != (C : Int)) = false := by simp
  have qE : ((E : Int) != (E : Int)) = false := by simp
  have HKW := Lib.hid (Kp.refl w)
  clear hfb hfp hfr hfl HF hs hz hC hat hk
  subst hn2
  go_enter Try.func3, Try.ntmps3
  go_wp2_with fail
  refine (HFP.out _ HKW.out).mono ?_
  rintro e w1 ⟨⟨v9, rfl, hs9⟩, hk1⟩
  obtain ⟨a9, c9, rfl, hc9, -, -⟩ := hs9.open3
  rw [← HFL.out] at hs9 hc9 ⊢
  have HS9 := Lib.hid hs9; have HK1 := Lib.hid hk1
  clear hs9 hk1 hc9
  go_wp2_with fail
  refine (HFR.out _ HK1.out).mono ?_
  rintro e w2 ⟨⟨v11, rfl, hs11⟩, hk2⟩
  obtain ⟨a11, c11, rfl, hc11, -, -⟩ := hs11.open3
  rw [← HFL.out] at hs11 hc11 ⊢
  have HS11 := Lib.hid hs11; have HK2 := Lib.hid (Kp.trans HK1.out hk2)
  have HS9 := Lib.hid (HS9.out.keep hk2)
  clear hs11 hk2 hc11
  go_wp2_with fail
  refine (Same_any HS9.out HS11.out).mono ?_
  rintro e w' ⟨rfl, rfl⟩
  rw [decide_eq_true (rfl : F = F)]
  go_wp2_with fail
  refine (Checksum_any (HS.out.keep HK2.out)).mono ?_
  rintro e w' ⟨rfl, rfl⟩
  rw [← HC.out]
  go_wp2_with fail
  refine (rChecksum_any (HS.out.keep HK2.out)).mono ?_
  rintro e w' ⟨rfl, rfl⟩
  rw [← HC.out]
  go_wp2_with (at_builtin; refine wpList_ap (w := w2) rfl (.const (.slice none 0 0)) (.tmp 70) 22 rfl Try.underlying22 _ _ [] F rfl rfl (Own.start w2) HS9.out (by have := HFL.out; have := HFB.out; simp; omega) ?_)
  intro v71 w3 ho3
  replace ho3 : Own w2 w3 v71 F := ho3
  have HO3 := Lib.hid ho3
  have HZ3 := Lib.hid ((HZ.out.keep HK2.out).keep ho3.kp)
  obtain ⟨a71, c71, e71, -, -⟩ := ho3.form
  subst e71
  clear ho3
  go_wp2_with (at_builtin; refine wpList_ap (w := w2) rfl (.tmp 71) (.tmp 72) 22 rfl Try.underlying22 _ _ F us rfl rfl HO3.out HZ3.out (by have := HFL.out; have := HFB.out; have := HN2.out; have := HNB2.out; omega) ?_)
  intro v73 w4 ho4
  obtain ⟨X4, hX4⟩ : ∃ X, X = F ++ us := ⟨_, rfl⟩
  replace ho4 : Own w2 w4 v73 X4 := by rw [hX4]; simpa using ho4
  have HX4 : Hid (X4.length ≤ 820) := Lib.hid (by have := HFL.out; have := HFB.out; have := HN2.out; have := HNB2.out; rw [hX4, List.length_append]; omega)
  clear hX4
  have HO4 := Lib.hid ho4
  have HS94 := Lib.hid (HS9.out.keep ho4.kp)
  obtain ⟨a73, c73, e73, -, -⟩ := ho4.form
  subst e73
  clear ho4
  go_wp2_with (at_builtin; refine wpList_ap (w := w2) rfl (.tmp 73) (.tmp 74) 22 rfl Try.underlying22 _ _ X4 F rfl rfl HO4.out HS94.out (by have := HFL.out; have := HFB.out; have := HX4.out; omega) ?_)
  intro v75 w5 ho5
  obtain ⟨X, hX⟩ : ∃ X, X = X4 ++ F := ⟨_, rfl⟩
  replace ho5 : Own w2 w5 v75 X := by rw [hX]; simpa using ho5
  have HXB : Hid (X.length ≤ 2000) := Lib.hid (by have := HFL.out; have := HFB.out; have := HX4.out; rw [hX, List.length_append]; omega)
  obtain ⟨l75, hl75⟩ : ∃ l75, l75 = X.length := ⟨_, rfl⟩
  have HL75 := Lib.hid hl75
  clear hX
  have HO5 := Lib.hid ho5
  obtain ⟨a75, c75, e75, -, -⟩ := ho5.form
  rw [← hl75] at e75
  subst e75
  clear hl75
  have HZ5 := Lib.hid (((HZ.out.keep HK2.out).keep ho5.kp).keep (kp_alloc w5 (.cells #[.int .u8 247] 5)))
  have HO5F := Lib.hid (Own.fresh w5 247 (by omega))
  clear ho5
  go_wp2_with (at_builtin; refine wpList_ap (w := w5) rfl (.tmp 76) (.tmp 77) 22 rfl Try.underlying22 _ _ [247] us rfl rfl HO5F.out HZ5.out (by have := HN2.out; have := HNB2.out; simp; omega) ?_)
  intro v78 w6 ho6
  obtain ⟨Y, hY⟩ : ∃ Y, Y = [247] ++ us := ⟨_, rfl⟩
  replace ho6 : Own w5 w6 v78 Y := by rw [hY]; simpa using ho6
  have hYb : Y.length ≤ 2000 := by have := HN2.out; have := HNB2.out; rw [hY]; simp; omega
  obtain ⟨l78, hl78⟩ : ∃ l78, l78 = Y.length := ⟨_, rfl⟩
  have HO6 := Lib.hid ho6
  obtain ⟨a78, c78, e78, -, -⟩ := ho6.form
  rw [← hl78] at e78
  subst e78
  have hl75 := HL75.out; have hXb := HXB.out
  have hSX : Sl w6 (.slice a75 l75 c75) X := (HO5.out.sl (by omega)).keep ho6.kp
  have hSY : Sl w6 (.slice a78 l78 c78) Y := ho6.sl (by omega)
  have hK6 : Kp w w6 := Kp.trans HK2.out (Kp.trans HO5.out.kp ho6.kp)
  have hK26 : Kp w2 w6 := Kp.trans HO5.out.kp ho6.kp
  obtain ⟨wT, hwT⟩ : ∃ wT, wT = w6.alloc (.cells #[.slice ao n cap, .slice a75 l75 c75, .slice a78 l78 c78] 22) := ⟨_, rfl⟩
  have hbT := Blk.new w6 22 #[.slice ao n cap, .slice a75 l75 c75, .slice a78 l78 c78]
  have hkT := kp_alloc w6 (.cells #[.slice ao n cap, .slice a75 l75 c75, .slice a78 l78 c78] 22)
  rw [← hwT] at hbT hkT
  have HT : Hid (∀ c : Nat, c < 3 → ∃ (al : Option Addr) (nl cl : Nat) (ls : List Nat), wT.cell? ⟨w6.heap.size, c, none⟩ = some (.slice al nl cl) ∧ Sl wT (.slice al nl cl) ls ∧ nl = ls.length ∧ ls.length ≤ 2000) := Lib.hid (by
    intro c hc
    match c, hc with
    | 0, _ => exact ⟨ao, _, cap, ys, hbT.cell 0 rfl, (HS.out.keep hK6).keep hkT, HN.out, by have := HN.out; have := HNB.out; omega⟩
    | 1, _ => exact ⟨a75, l75, c75, X, hbT.cell 1 rfl, hSX.keep hkT, hl75, hXb⟩
    | 2, _ => exact ⟨a78, l78, c78, Y, hbT.cell 2 rfl, hSY.keep hkT, hl78, hYb⟩)
  have HKT := Lib.hid (Kp.trans hK6 hkT)
  have HWT := Lib.hid hwT
  clear ho6 hl75 hl78 hY hXb hYb hSX hSY hK6 hK26 hbT hkT hwT
  go_wp2_with fail
  rw [← HWT.out]
  go_loopw [81] (fun p wr => ∃ c : Nat, p = .int .i64 c ∧ c ≤ 3 ∧ Kp wT wr) (fun p _ => 3 - (intOf p).toNat)
  case atStart => exact ⟨0, rfl, by omega, Kp.refl _⟩
  case round =>
    obtain ⟨c, rfl, hc, hkp⟩ := hrel
    rename World => wx
    have HKX := Lib.hid hkp
    clear hkp
    by_cases hc3 : c < 3
    · have hdc : decide ((c : Int) < 3) = true := decide_eq_true (by omega)
      obtain ⟨al, nl, cl, ls, ct, hsl, hnl, hlb⟩ := HT.out c hc3
      have ct := cell_kept ct HKX.out
      have HSL := Lib.hid (hsl.keep HKX.out); have HNL := Lib.hid hnl; have HLB := Lib.hid hlb
      have hnlb : (nl : Int) ≤ 2000 := by omega
      clear hsl hnl hlb
      obtain ⟨wP, hwP⟩ : ∃ wP, wP = wx.alloc (.cells #[.int .i64 0, .int .i64 at', .int .i64 fl, .int .i64 (-1), .int .i64 nl, .int .i64 ((nl : Int) + 1)] 3) := ⟨_, rfl⟩
      have hbP := Blk.new wx 3 #[.int .i64 0, .int .i64 at', .int .i64 fl, .int .i64 (-1), .int .i64 nl, .int .i64 ((nl : Int) + 1)]
      have hkP := kp_alloc wx (.cells #[.int .i64 0, .int .i64 at', .int .i64 fl, .int .i64 (-1), .int .i64 nl, .int .i64 ((nl : Int) + 1)] 3)
      rw [← hwP] at hbP hkP
      have HP : Hid (∀ d : Nat, d < 6 → ∃ P : Int, (-9223372036854775808 ≤ P ∧ P ≤ 9223372036854775807) ∧ wP.cell? ⟨wx.heap.size, d, none⟩ = some (.int .i64 P)) := Lib.hid (by
        intro d hd
        match d, hd with
        | 0, _ => exact ⟨_, by omega, hbP.cell 0 rfl⟩
        | 1, _ => exact ⟨_, HAT.out, hbP.cell 1 rfl⟩
        | 2, _ => exact ⟨_, by have := HFB.out; omega, hbP.cell 2 rfl⟩
        | 3, _ => exact ⟨_, by omega, hbP.cell 3 rfl⟩
        | 4, _ => exact ⟨_, by omega, hbP.cell 4 rfl⟩
        | 5, _ => exact ⟨_, by omega, hbP.cell 5 rfl⟩)
      have HKP := Lib.hid hkP; have HWP := Lib.hid hwP
      clear hbP hkP hwP
      go_wp2_with fail
      rw [← HWP.out]
      go_loopw [95] (fun p wr => ∃ d : Nat, p = .int .i64 d ∧ d ≤ 6 ∧ Kp wP wr) (fun p _ => 6 - (intOf p).toNat)
      case atStart => exact ⟨0, rfl, by omega, Kp.refl _⟩
      case round =>
        obtain ⟨d, rfl, hd, hkd⟩ := hrel
        rename World => wy
        have HKD := Lib.hid hkd
        clear hkd
        by_cases hd6 : d < 6
        · obtain ⟨P, hPb, cp⟩ := HP.out d hd6
          have cp := cell_kept cp HKD.out
          have HPB := Lib.hid hPb
          have HSY := Lib.hid ((HSL.out.keep HKP.out).keep HKD.out)
          clear hPb
          go_wp2_with fail
          refine (Next_all HSY.out P HPB.out).mono ?_
          rintro e wa ⟨⟨vp, rfl, hsp, -⟩, hka⟩
          obtain ⟨⟨K, PL, NX, EE⟩, hnx⟩ : ∃ r, nx ls P = r := ⟨_, rfl⟩
          rw [hnx] at hsp ⊢
          simp only at hsp ⊢
          obtain ⟨aA, cA, rfl, -, -, -⟩ := hsp.open3
          have HNX := Lib.hid hnx
          obtain ⟨LL, hLL⟩ : ∃ LL, LL = PL.length := ⟨_, rfl⟩
          rw [← hLL] at hsp ⊢
          have HLL := Lib.hid hLL
          obtain ⟨wA, hwA⟩ : ∃ wA, wA = wa.alloc (.cells #[.int .i64 K, .slice aA LL cA] 27) := ⟨_, rfl⟩
          have hbA := Blk.new wa 27 #[.int .i64 K, .slice aA LL cA]
          have hkA := kp_alloc wa (.cells #[.int .i64 K, .slice aA LL cA] 27)
          rw [← hwA] at hbA hkA
          have HBA := Lib.hid hbA; have HKA := Lib.hid (Kp.trans hka hkA); have HWA := Lib.hid hwA; have HSA := Lib.hid (hsp.keep hkA)
          clear hbA hkA hwA hsp hka hnx hLL cp
          go_wp2_with fail
          rw [← HWA.out]
          refine (rNext_all (HSY.out.keep HKA.out) P HPB.out (by have := HLB.out; omega)).mono ?_
          rintro e wb ⟨⟨vp, rfl, hsp, -⟩, hkb⟩
          rw [HNX.out] at hsp ⊢
          simp only at hsp ⊢
          obtain ⟨aB, cB, rfl, -, -, -⟩ := hsp.open3
          rw [← HLL.out] at hsp ⊢
          obtain ⟨wB, hwB⟩ : ∃ wB, wB = wb.alloc (.cells #[.int .i64 K, .slice aB LL cB] 27) := ⟨_, rfl⟩
          have hbB := Blk.new wb 27 #[.int .i64 K, .slice aB LL cB]
          have hkB := kp_alloc wb (.cells #[.int .i64 K, .slice aB LL cB] 27)
          rw [← hwB] at hbB hkB
          have hkAB := Kp.trans hkb hkB
          have hbA2 := HBA.out.keep hkAB
          have a0 := hbA2.cell 0 rfl; have a1 := hbA2.cell 1 rfl
          have b0 := hbB.cell 0 rfl; have b1 := hbB.cell 1 rfl
          have HSA2 := Lib.hid (HSA.out.keep hkAB); have HSB2 := Lib.hid (hsp.keep hkB); have HKAB := Lib.hid (Kp.trans HKA.out hkAB); have HWB := Lib.hid hwB
          have qEE : ((EE : Int) != (EE : Int)) = false := by simp
          have qNX : ((NX : Int) != (NX : Int)) = false := by simp
          clear hbB hkB hwB hsp hkb hkAB hbA2
          rw [HWB.out] at a0 a1
          clear b0 b1
          go_wp2_with fail
          rw [← HWB.out]
          have hz1 : wb.heap.size + 1 = wB.heap.size := by rw [HWB.out]; simp
          rw [hz1]
          have hb1 : Blk ((wB.alloc (.cells #[.int .i64 K, .slice aA LL cA] 27)).alloc (.cells #[.int .i64 K, .slice aB LL cB] 27)) wB.heap.size 27 #[.int .i64 K, .slice aA LL cA] := (Blk.new wB _ _).keep (kp_alloc _ _)
          have hb2 : Blk ((wB.alloc (.cells #[.int .i64 K, .slice aA LL cA] 27)).alloc (.cells #[.int .i64 K, .slice aB LL cB] 27)) (wB.heap.size + 1) 27 #[.int .i64 K, .slice aB LL cB] := by
            have h := Blk.new (wB.alloc (.cells #[.int .i64 K, .slice aA LL cA] 27)) 27 #[.int .i64 K, .slice aB LL cB]
            rwa [show (wB.alloc (.cells #[.int .i64 K, .slice aA LL cA] 27)).heap.size = wB.heap.size + 1 by simp] at h
          refine (SameF_any (Fs.one hb1 (HSA2.out.keep (Kp.trans (kp_alloc _ _) (kp_alloc _ _)))) (Fs.one hb2 (HSB2.out.keep (Kp.trans (kp_alloc _ _) (kp_alloc _ _))))).mono ?_
          rintro e wz ⟨rfl, hkz⟩
          have HKZ := Lib.hid (Kp.trans HKD.out (Kp.trans HKAB.out (Kp.trans (kp_alloc _ _) (Kp.trans (kp_alloc _ _) hkz))))
          clear hb1 hb2 hz1 hkz a0 a1
          go_wp2_with fail
          go_roundw
          case rel => exact ⟨d + 1, by simp, by omega, HKZ.out⟩
          case measure => simp [intOf]; omega
        · have HKY := Lib.hid (Kp.trans HKP.out HKD.out)
          go_wp2_with fail
          refine (Frames_any (HSL.out.keep HKY.out) (by have := HLB.out; omega)).mono ?_
          rintro e wf ⟨⟨fs, vps, q, EE, vo, hst, rfl, hfr⟩, hkf⟩
          have HFR := Lib.hid hfr
          obtain ⟨⟨aq, lq, cq, hv⟩, -⟩ := row_form hfr.own
          subst hv
          have HST := Lib.hid hst; have HKF := Lib.hid (Kp.trans HKY.out hkf)
          clear hfr hst hkf
          go_wp2_with fail
          refine (rFrames_any (HSL.out.keep HKF.out) (by have := HLB.out; omega)).mono ?_
          rintro e wg ⟨fs', vps', q', EE', vo', hst', rfl, hrf⟩
          obtain ⟨rfl, rfl, rfl⟩ := Chain.unique HFR.out.ch HST.out hrf.ch hst'
          have HRF := Lib.hid hrf
          obtain ⟨⟨ar, lr, cr, hv⟩, -⟩ := row_form hrf.own
          subst hv
          have HKG := Lib.hid (Kp.trans HKF.out hrf.kp)
          have HF1 := Lib.hid ((HFR.out.fs (by have := HLB.out; omega)).keep hrf.kp)
          have HF2 := Lib.hid (hrf.fs (by have := HLB.out; omega))
          have qE2 : ((EE : Int) != (EE : Int)) = false := by simp
          have qQ2 : ((q : Int) != (q : Int)) = false := by simp
          clear hst' hrf
          go_wp2_with fail
          refine (SameF_any HF1.out HF2.out).mono ?_
          rintro e wz ⟨rfl, hkz⟩
          have HKZ := Lib.hid (Kp.trans HKX.out (Kp.trans HKG.out hkz))
          clear hkz
          go_wp2_with fail
          go_roundw
          case rel => exact ⟨c + 1, by simp, by omega, HKZ.out⟩
          case measure => simp [intOf]; omega
    · go_wp2_with fail
      refine (awake_any _).mono ?_
      rintro e wz ⟨rfl, hkz⟩
      have HKZ := Lib.hid (Kp.trans HKT.out (Kp.trans HKX.out hkz))
      clear hkz
      go_wp2_with fail
      go_ret
      exact ⟨rfl, HKZ.out⟩
end By
end Go.Proofs.Ytnjgnmfngcifpaa
