/- The reference's Round of a well-formed fraction; Floor, Format and Round of any fraction on both sides. Conditions: the slices hold the digits that are named; the library's table of powers of ten holds what its text lays. -/
import Derived.Test.YtgpochhndjadhaaGreatDoorTxtA
import Derived.Test.YtgpochhndjadhaaGreatDoorFBack
namespace Go.Proofs.YtgpochhndjadhaaGreatDoor
open Go.RowKit LimbN
set_option linter.unusedVariables false
set_option linter.unusedSimpArgs false

theorem dig_dec {r d : Nat} (hd : 0 < d) (i : Nat) : decS (10 * remD r d i / d) = ⟨[digB r d i].toArray⟩ := by
  have h := dig_lt (r := r) hd i
  unfold decS digB
  rw [Lib.decDigits_one h]
theorem rnd_more {n d i : Nat} (hi : i ≠ 0) (hd : 0 < d) : rndS n d i ++ decS (10 * remD (n % d) d i / d) = rndS n d (i + 1) := by
  rw [rndS_pos hi, dig_dec hd, app_bytes, rndS_succ]
theorem rnd_first {n d : Nat} (hd : 0 < d) : rndS n d 0 ++ ⟨#[46]⟩ ++ decS (10 * remD (n % d) d 0 / d) = rndS n d (0 + 1) := by
  rw [rndS_zero, pre_zero, dig_dec hd, app_bytes, rndS_succ]
theorem rnd_size {n d i : Nat} (l1 : (limbs n).length ≤ 8) (hi : i ≤ 31) : (rndS n d i).size ≤ 200 := by
  have lq : (limbs (n / d)).length ≤ 8 := Nat.le_trans (limbs_mono (Nat.div_le_self _ _)) l1
  have zq := dec_size (n / d) 8 (by decide) (limbs_len_le.1 lq)
  have e : (decS (n / d)).size = (Lib.decDigits (n / d)).length := rfl
  unfold rndS rndL
  rw [bsize, List.length_append]
  split
  · simp; omega
  · rw [List.length_cons, digsB_len]; omega
set_option maxRecDepth 100000 in
set_option maxHeartbeats 4000000 in
theorem rRound_n {n d k : Nat} {va vb : Value} {w : World} (l1 : (limbs n).length ≤ 8) (l2 : (limbs d).length ≤ 8) (d0 : d ≠ 0) (hg : Nat.gcd n d = 1) (hk : k ≤ 30) (ha : Sl w va (limbs n)) (hb : Sl w vb (limbs d)) :
    Calls Tryz.prog 32 #[.agg #[va, vb], .int .i64 k] w fun e w' => e = .returned (.tuple #[.string (rndS n d k), .int .i64 0]) ∧ Kp w w' := by
  have m1 : (limbs n).length ≤ 128 := Nat.le_trans l1 (by decide)
  have m2 : (limbs d).length ≤ 128 := Nat.le_trans l2 (by decide)
  have HOK := Lib.hid (frOk_n m1 m2 d0 hg)
  have M1 := Lib.hid m1; have M2 := Lib.hid m2; have D0 := Lib.hid d0; have L1 := Lib.hid l1; have L2 := Lib.hid l2
  have HDP := Lib.hid (Nat.pos_of_ne_zero d0)
  have q0 : decide ((k : Int) < 0) = false := decide_eq_false (by omega)
  have q1 : decide (30 < (k : Int)) = false := decide_eq_false (by omega)
  obtain ⟨ao, al, ac, rfl⟩ := ha.open3
  obtain ⟨bo, bl, bc, rfl⟩ := hb.open3
  obtain ⟨w1, hw1, HK1, HB1, hz1⟩ := box2 w 25 (.slice ao al ac) (.slice bo bl bc)
  have HA := Lib.hid (ha.keep HK1.out); have HB := Lib.hid (hb.keep HK1.out)
  have c10 := HB1.out.c0; have c11 := HB1.out.c1
  rw [hw1] at c10 c11
  have HW := Lib.hid hw1
  obtain ⟨g, eg⟩ : ∃ g, g = w.heap.size := ⟨_, rfl⟩
  have EG := Lib.hid eg
  clear ha hb hw1 hz1 l1 l2 d0 hg m1 m2 eg
  go_enter Tryz.func32, Tryz.ntmps32
  go_wp2_with fail
  rw [← HW.out]
  refine (rCheck_any HA.out HB.out).mono ?_
  rintro e w2 ⟨rfl, hk2⟩
  rw [HOK.out]
  have HK2 := Lib.hid hk2
  clear hk2 c10 c11
  have c10 := (HB1.out.keep HK2.out).c0; have c11 := (HB1.out.keep HK2.out).c1
  go_wp2_with fail
  refine (Split_any (HA.out.keep HK2.out) (HB.out.keep HK2.out) (Nat.le_trans M1.out (by decide)) D0.out).mono ?_
  intro e w3 hq
  obtain ⟨⟨vq, vr, rfl, h1, h2, -, -⟩, hk3⟩ := hq
  have H1 := Lib.hid h1; have H2 := Lib.hid h2; have HK3 := Lib.hid (Kp.trans HK2.out hk3)
  clear h1 h2 hk3 c10 c11
  go_wp2_with fail
  refine (rdigits_n H1.out (Nat.le_trans (limbs_mono (Nat.div_le_self _ _)) M1.out)).mono ?_
  rintro e w4 ⟨rfl, hk4⟩
  rw [← rndS_zero]
  have HK4 := Lib.hid (Kp.trans HK3.out hk4); have H24 := Lib.hid (H2.out.keep hk4)
  have R0 := Lib.hid (remD_zero (Nat.mod_lt n HDP.out))
  clear hk4
  obtain ⟨r, er⟩ : ∃ r, r = n % d := ⟨_, rfl⟩
  have ER := Lib.hid er
  rw [← er] at R0 H24
  clear er
  go_wp2_with fail
  rw [← EG.out]
  go_loopg [7, 8, 9] k (fun gk s7 s8 s9 wy => ∃ (i : Nat), i ≤ k ∧ gk = k - i ∧ s9 = .int .i64 i ∧ s8 = .string (rndS n d i) ∧ Sl wy s7 (limbs (remD r d i)) ∧ Kp w1 wy)
  case atStart => exact ⟨0, Nat.zero_le _, rfl, rfl, rfl, by rw [R0.out]; exact H24.out, HK4.out⟩
  case round =>
    obtain ⟨i, hi, rfl, rfl, rfl, hs, hkp⟩ := hrel
    obtain ⟨v0, hv0⟩ : ∃ v0, v0 = u7 := ⟨_, rfl⟩
    subst hv0
    have HS := Lib.hid hs; have HKP := Lib.hid hkp
    clear hs hkp
    obtain ⟨O, eO⟩ : ∃ O, O = rndS n d i := ⟨_, rfl⟩
    have zO : O.size ≤ 200 := by rw [eO]; exact rnd_size L1.out (by omega)
    rw [← eO]
    have EO := Lib.hid eO
    clear eO
    have c11 := (HB1.out.keep HKP.out).c1
    rw [← EG.out] at c11
    by_cases hik : i < k
    · obtain ⟨M, hM⟩ : ∃ M, M = remD r d i := ⟨_, rfl⟩
      rw [← hM] at HS
      have hMd : M < d := by rw [hM]; exact remD_lt HDP.out i
      have HM := Lib.hid hM; have HMD := Lib.hid hMd
      have LM := Lib.hid (Nat.le_trans (limbs_mono (Nat.le_of_lt hMd)) (Nat.le_trans L2.out (show 8 ≤ 1000 by decide)))
      clear hM hMd
      have HC : Hid (∀ {w' : World}, Kp wr w' → w'.cell? ⟨g, 1, none⟩ = some (.slice bo bl bc)) := fun hk => by rw [EG.out]; exact (HB1.out.keep (Kp.trans HKP.out hk)).c1
      have HS10 : Hid (Sl (wr.alloc (Obj.cells #[.int .u32 10] 59)) (.slice (some ⟨wr.heap.size, 0, none⟩) 1 1) (limbs 10)) := by
        show Sl _ _ _
        rw [show limbs 10 = [10] by decide]
        exact sl_lit (w := wr) (e := 59) [10] (Lt.cons (by decide) Lt.nil) (by simp)
      have l10 : (limbs (10 * M)).length ≤ 16 := mul_len8 (by decide) (Nat.le_trans (limbs_mono (Nat.le_of_lt HMD.out)) L2.out)
      have LT := Lib.hid (Nat.le_trans l10 (show 16 ≤ 1000 by decide))
      have LQ := Lib.hid (Nat.le_trans (limbs_mono (Nat.div_le_self (10 * M) d)) (Nat.le_trans l10 (show 16 ≤ 128 by decide)))
      obtain ⟨X, eX⟩ : ∃ X, X = decS (10 * M / d) := ⟨_, rfl⟩
      have HX := Lib.hid eX
      have zX : X.size = 1 := by rw [eX, HM.out, dig_dec HDP.out]; rfl
      by_cases hi0 : i = 0
      · have hend : O ++ ⟨#[46]⟩ ++ X = rndS n d (i + 1) := by rw [EO.out, eX, HM.out, hi0, ER.out]; exact rnd_first HDP.out
        have z46 : (O ++ ⟨#[46]⟩ : ByteArray).size = O.size + 1 := by rw [ByteArray.size_append]; rfl
        have hn1 : ¬ (9223372036854775807 < O.size + 1) := by omega
        have hn2 : ¬ (9223372036854775807 < O.size + 1 + X.size) := by omega
        have hi1 : ((i : Int) == 0) = true := by rw [hi0]; rfl
        have HEND := Lib.hid hend
        clear eX l10 zX hend hi0 zO
        go_wp2_with fail
        go_region_held3 (fun w' => w'.cell? ⟨g, 1, none⟩ = some (.slice bo bl bc) ∧ Kp wr w')
          (first
            | exact ⟨(HC.out (by first | assumption | exact Kp.refl _ | exact Kp.drewN _ 1 | exact Kp.trans (by assumption) (Kp.drewN _ 1) | exact Kp.alloc (Kp.refl _) _ | exact Kp.trans (Kp.alloc (Kp.refl _) _) (Kp.drewN _ 1) | exact Kp.alloc (Kp.drewN _ 1) _)), (by first | assumption | exact Kp.refl _ | exact Kp.drewN _ 1 | exact Kp.trans (by assumption) (Kp.drewN _ 1) | exact Kp.alloc (Kp.refl _) _ | exact Kp.trans (Kp.alloc (Kp.refl _) _) (Kp.drewN _ 1) | exact Kp.alloc (Kp.drewN _ 1) _)⟩
            | (go_split_ands; exact ⟨(HC.out (by first | assumption | exact Kp.refl _ | exact Kp.drewN _ 1 | exact Kp.trans (by assumption) (Kp.drewN _ 1) | exact Kp.alloc (Kp.refl _) _ | exact Kp.trans (Kp.alloc (Kp.refl _) _) (Kp.drewN _ 1) | exact Kp.alloc (Kp.drewN _ 1) _)), (by first | assumption | exact Kp.refl _ | exact Kp.drewN _ 1 | exact Kp.trans (by assumption) (Kp.drewN _ 1) | exact Kp.alloc (Kp.refl _) _ | exact Kp.trans (Kp.alloc (Kp.refl _) _) (Kp.drewN _ 1) | exact Kp.alloc (Kp.drewN _ 1) _)⟩)
            | fail "no keep")
          (first
            | (go_at_call 53; refine (rtimes_n8 (a := M) (b := 10) (HS.out.keep (by first | assumption | exact Kp.refl _ | exact Kp.drewN _ 1 | exact Kp.trans (by assumption) (Kp.drewN _ 1) | exact Kp.alloc (Kp.refl _) _ | exact Kp.trans (Kp.alloc (Kp.refl _) _) (Kp.drewN _ 1) | exact Kp.alloc (Kp.drewN _ 1) _)) (HS10.out.keep (Kp.drewN _ 1)) LM.out (by decide)).mono ?_; rintro e w5 ⟨v5, rfl, s5, n5, hk5⟩; rw [Nat.mul_comm] at s5; have k5 : Kp wr w5 := Kp.trans (by first | assumption | exact Kp.refl _ | exact Kp.drewN _ 1 | exact Kp.trans (by assumption) (Kp.drewN _ 1) | exact Kp.alloc (Kp.refl _) _ | exact Kp.trans (Kp.alloc (Kp.refl _) _) (Kp.drewN _ 1) | exact Kp.alloc (Kp.drewN _ 1) _) hk5)
            | (go_at_call 70; refine (Split_any s5 ((HB.out.keep HKP.out).keep k5) LT.out D0.out).mono ?_; intro e w6 hq6; obtain ⟨⟨vq6, vr6, rfl, h61, h62, -, -⟩, hk6⟩ := hq6; have k6 : Kp wr w6 := Kp.trans k5 hk6)
            | fail "no arm")
        rw [HM.out, remD_succ] at h62
        have H61 := Lib.hid h61; have H62 := Lib.hid h62; have K6 := Lib.hid k6
        clear s5 n5 k5 hk5 h61 h62 hk6 k6 c11
        go_wp2_with fail
        refine (rdigits_n H61.out LQ.out).mono ?_
        rintro e w7 ⟨rfl, hk7⟩
        rw [← HX.out]
        have H7 := Lib.hid (H62.out.keep hk7); have K7 := Lib.hid (Kp.trans HKP.out (Kp.trans K6.out hk7))
        clear hk7
        go_wp2_with fail
        go_roundg (k - (i + 1))
        case measure => omega
        case rel => exact ⟨i + 1, by omega, rfl, by simp, by rw [HEND.out], H7.out, K7.out⟩
      · have hend : O ++ X = rndS n d (i + 1) := by rw [EO.out, eX, HM.out, ER.out]; exact rnd_more hi0 HDP.out
        have hn2 : ¬ (9223372036854775807 < O.size + X.size) := by omega
        have hi1 : ((i : Int) == 0) = false := beq_eq_false_iff_ne.2 (by omega)
        have HEND := Lib.hid hend
        clear eX l10 zX hend hi0 zO
        go_wp2_with fail
        go_region_held3 (fun w' => w'.cell? ⟨g, 1, none⟩ = some (.slice bo bl bc) ∧ Kp wr w')
          (first
            | exact ⟨(HC.out (by first | assumption | exact Kp.refl _ | exact Kp.drewN _ 1 | exact Kp.trans (by assumption) (Kp.drewN _ 1) | exact Kp.alloc (Kp.refl _) _ | exact Kp.trans (Kp.alloc (Kp.refl _) _) (Kp.drewN _ 1) | exact Kp.alloc (Kp.drewN _ 1) _)), (by first | assumption | exact Kp.refl _ | exact Kp.drewN _ 1 | exact Kp.trans (by assumption) (Kp.drewN _ 1) | exact Kp.alloc (Kp.refl _) _ | exact Kp.trans (Kp.alloc (Kp.refl _) _) (Kp.drewN _ 1) | exact Kp.alloc (Kp.drewN _ 1) _)⟩
            | (go_split_ands; exact ⟨(HC.out (by first | assumption | exact Kp.refl _ | exact Kp.drewN _ 1 | exact Kp.trans (by assumption) (Kp.drewN _ 1) | exact Kp.alloc (Kp.refl _) _ | exact Kp.trans (Kp.alloc (Kp.refl _) _) (Kp.drewN _ 1) | exact Kp.alloc (Kp.drewN _ 1) _)), (by first | assumption | exact Kp.refl _ | exact Kp.drewN _ 1 | exact Kp.trans (by assumption) (Kp.drewN _ 1) | exact Kp.alloc (Kp.refl _) _ | exact Kp.trans (Kp.alloc (Kp.refl _) _) (Kp.drewN _ 1) | exact Kp.alloc (Kp.drewN _ 1) _)⟩)
            | fail "no keep")
          (first
            | (go_at_call 53; refine (rtimes_n8 (a := M) (b := 10) (HS.out.keep (by first | assumption | exact Kp.refl _ | exact Kp.drewN _ 1 | exact Kp.trans (by assumption) (Kp.drewN _ 1) | exact Kp.alloc (Kp.refl _) _ | exact Kp.trans (Kp.alloc (Kp.refl _) _) (Kp.drewN _ 1) | exact Kp.alloc (Kp.drewN _ 1) _)) (HS10.out.keep (Kp.drewN _ 1)) LM.out (by decide)).mono ?_; rintro e w5 ⟨v5, rfl, s5, n5, hk5⟩; rw [Nat.mul_comm] at s5; have k5 : Kp wr w5 := Kp.trans (by first | assumption | exact Kp.refl _ | exact Kp.drewN _ 1 | exact Kp.trans (by assumption) (Kp.drewN _ 1) | exact Kp.alloc (Kp.refl _) _ | exact Kp.trans (Kp.alloc (Kp.refl _) _) (Kp.drewN _ 1) | exact Kp.alloc (Kp.drewN _ 1) _) hk5)
            | (go_at_call 70; refine (Split_any s5 ((HB.out.keep HKP.out).keep k5) LT.out D0.out).mono ?_; intro e w6 hq6; obtain ⟨⟨vq6, vr6, rfl, h61, h62, -, -⟩, hk6⟩ := hq6; have k6 : Kp wr w6 := Kp.trans k5 hk6)
            | fail "no arm")
        rw [HM.out, remD_succ] at h62
        have H61 := Lib.hid h61; have H62 := Lib.hid h62; have K6 := Lib.hid k6
        clear s5 n5 k5 hk5 h61 h62 hk6 k6 c11
        go_wp2_with fail
        refine (rdigits_n H61.out LQ.out).mono ?_
        rintro e w7 ⟨rfl, hk7⟩
        rw [← HX.out]
        have H7 := Lib.hid (H62.out.keep hk7); have K7 := Lib.hid (Kp.trans HKP.out (Kp.trans K6.out hk7))
        clear hk7
        go_wp2_with fail
        go_roundg (k - (i + 1))
        case measure => omega
        case rel => exact ⟨i + 1, by omega, rfl, by simp, by rw [HEND.out], H7.out, K7.out⟩
    · obtain rfl : i = k := by omega
      have FIN : Hid ((.returned (.tuple #[.string O, .int .i64 0]) : Ending) = .returned (.tuple #[.string (rndS n d i), .int .i64 0]) ∧ Kp w wr) := ⟨by rw [EO.out], Kp.trans HK1.out HKP.out⟩
      go_wp2_with fail
      go_ret2
      exact FIN.out
/-- Both sides' Floor, Format and Round of any fraction. -/
theorem floor_both {xs ys : List Nat} (hx : Lt xs) (hy : Lt ys) (lx : xs.length ≤ 8) (ly : ys.length ≤ 8) : ∃ (E : Int) (V : List Nat), ∀ (w : World) (va vb : Value), Sl w va xs → Sl w vb ys →
    Calls Tryz.prog 28 #[.agg #[va, vb]] w (OpR E V w) ∧ Calls Tryz.prog 29 #[.agg #[va, vb]] w (OpR E V w) := by
  cases h : frOk xs ys with
  | false => exact ⟨1, [], fun w va vb s1 s2 => ⟨(FloorB_bad s1 s2 h).mono fun e w' q => ⟨⟨_, q.1, Sl.nil _⟩, q.2⟩, (rFloorB_bad s1 s2 h).mono fun e w' q => ⟨⟨_, q.1, Sl.nil _⟩, q.2⟩⟩⟩
  | true =>
    obtain ⟨a, b, rfl, rfl, b0, g1, la, lb⟩ := fr_nums8 hx hy h lx ly
    exact ⟨0, _, fun w va vb s1 s2 => ⟨(Floor_n la lb b0 g1 s1 s2).mono fun e w' q => ⟨q.1, q.2⟩, (rFloor_n la lb b0 g1 s1 s2).mono fun e w' q => ⟨q.1, q.2⟩⟩⟩
theorem format_both {xs ys : List Nat} (hx : Lt xs) (hy : Lt ys) (lx : xs.length ≤ 8) (ly : ys.length ≤ 8) : ∃ (E : Int) (s : ByteArray), s.size ≤ 200 ∧ ∀ (w : World) (va vb : Value), Tab w → Sl w va xs → Sl w vb ys →
    Calls Tryz.prog 33 #[.agg #[va, vb]] w (fun e w' => e = .returned (.tuple #[.string s, .int .i64 E]) ∧ Kp w w') ∧ Calls Tryz.prog 34 #[.agg #[va, vb]] w (fun e w' => e = .returned (.tuple #[.string s, .int .i64 E]) ∧ Kp w w') := by
  cases h : frOk xs ys with
  | false => exact ⟨1, ⟨#[]⟩, by decide, fun w va vb ht s1 s2 => ⟨FormatB_bad s1 s2 h, rFormatB_bad s1 s2 h⟩⟩
  | true =>
    obtain ⟨a, b, rfl, rfl, b0, g1, la, lb⟩ := fr_nums8 hx hy h lx ly
    refine ⟨0, _, ?_, fun w va vb ht s1 s2 => ⟨FFormat_n (len8t la) (len8t lb) b0 g1 s1 s2 ht, rFormat_n la lb b0 g1 s1 s2⟩⟩
    have z1 := dec_size a 8 (by decide) (limbs_len_le.1 la)
    have z2 := dec_size b 8 (by decide) (limbs_len_le.1 lb)
    unfold fracS; split
    · omega
    · rw [ByteArray.size_append, ByteArray.size_append]
      have : (⟨#[47]⟩ : ByteArray).size = 1 := rfl
      omega
theorem round_both {xs ys : List Nat} (hx : Lt xs) (hy : Lt ys) (lx : xs.length ≤ 8) (ly : ys.length ≤ 8) (k : Int) : ∃ (E : Int) (s : ByteArray), ∀ (w : World) (va vb : Value), Tab w → Sl w va xs → Sl w vb ys →
    Calls Tryz.prog 31 #[.agg #[va, vb], .int .i64 k] w (fun e w' => e = .returned (.tuple #[.string s, .int .i64 E]) ∧ Kp w w') ∧ Calls Tryz.prog 32 #[.agg #[va, vb], .int .i64 k] w (fun e w' => e = .returned (.tuple #[.string s, .int .i64 E]) ∧ Kp w w') := by
  cases h : frOk xs ys with
  | false => exact ⟨1, ⟨#[]⟩, fun w va vb ht s1 s2 => ⟨RoundB_bad s1 s2 k h, rRoundB_bad s1 s2 k h⟩⟩
  | true =>
    by_cases hk : k < 0 ∨ 30 < k
    · exact ⟨3, ⟨#[]⟩, fun w va vb ht s1 s2 => ⟨RoundB_rng s1 s2 k h hk, rRoundB_rng s1 s2 k h hk⟩⟩
    · obtain ⟨a, b, rfl, rfl, b0, g1, la, lb⟩ := fr_nums8 hx hy h lx ly
      obtain ⟨j, rfl⟩ : ∃ j : Nat, k = j := ⟨k.toNat, by omega⟩
      exact ⟨0, _, fun w va vb ht s1 s2 => ⟨Round_n la lb b0 g1 (by omega) s1 s2 ht, rRound_n la lb b0 g1 (by omega) s1 s2⟩⟩
end Go.Proofs.YtgpochhndjadhaaGreatDoor
