/- Parse of any text. Condition: the text is not longer than a million bytes. -/
import Derived.Test.YtgpochhndjadhaaGreatDoorPcs
namespace Go.Proofs.YtgpochhndjadhaaGreatDoor
open Go.RowKit LimbN
set_option linter.unusedVariables false
set_option linter.unusedSimpArgs false

theorem contains_c (s : ByteArray) (C : Bool) (h : C = decide (0 ≤ Lib.indexByte s.data.toList 47)) (w : World) : Calls Tryz.prog 79 #[.string s, .string ⟨#[47]⟩] w fun e w' => e = .returned (.bool C) ∧ w' = w := by
  rw [h]
  exact Tryz.strings_Contains_one s 47 w
set_option maxRecDepth 100000 in
set_option maxHeartbeats 2000000 in
theorem FParse_mid {S sn sd : ByteArray} {C : Bool} (f : Bool) (hM : Mid S sn sd C) (hs : S.size ≤ 2601) (hf : f = false → sd = ⟨#[49]⟩)
    (hcut : ∀ w, Calls Tryz.prog 77 #[.string S, .string ⟨#[47]⟩] w fun e w' => e = .returned (.tuple #[.string sn, .string (if f then sd else ⟨#[]⟩), .bool f]) ∧ Kp w w')
    (hc : C = decide (0 ≤ Lib.indexByte sd.data.toList 47)) (h1 : sn.size ≤ 1000000000) (h2 : sd.size ≤ 1000000000) (w : World) :
    Calls Tryz.prog 35 #[.string S] w (MkR (fE S) (fP S) w) := by
  obtain ⟨zl, ez⟩ : ∃ zl, zl = S.size := ⟨_, rfl⟩
  rw [← ez] at hs
  have q0 : ∀ w : World, (Builtin.len_ #[9] 3 #[.string S]).run Tryz.prog w = .ok (goInt zl) w := fun w => by rw [run_len_string w _ _ S Tryz.underlying9, ez]
  have P1 : Hid (∀ w, Calls Tryz.prog 78 #[.string sn] w (PrR sn w)) := fun w => (Parse_any sn h1 w).mono fun _ _ h => h.pr
  have P2 : Hid (∀ w, Calls Tryz.prog 78 #[.string sd] w (PrR sd w)) := fun w => (Parse_any sd h2 w).mono fun _ _ h => h.pr
  have CN := Lib.hid (contains_c sd C hc)
  have HM := Lib.hid hM
  obtain ⟨E1, hE1⟩ : ∃ E1, E1 = nE sn := ⟨_, rfl⟩
  obtain ⟨E2, hE2⟩ : ∃ E2, E2 = nE sd := ⟨_, rfl⟩
  have HE1 := Lib.hid hE1; have HE2 := Lib.hid hE2
  obtain ⟨w1, hw1, HK1, HB1, hz1⟩ := start2 w 25
  have HW1 := Lib.hid hw1
  have HCUT := Lib.hid hcut
  clear ez hw1 hcut hM hc h1 h2 hE1 hE2
  cases f with
  | false =>
    have hsd := hf rfl
    subst hsd
    clear hf
    go_enter Tryz.func35, Tryz.ntmps35
    go_wp2_with fail
    rw [← HW1.out]
    refine (HCUT.out w1).mono ?_
    rintro e w2 ⟨rfl, hk⟩
    have HK2 := Lib.hid hk
    clear hk
    go_wp2_with fail
    refine (P1.out w2).mono ?_
    intro e w3 hq
    obtain ⟨⟨v1, he, h1⟩, hk⟩ := hq
    rw [← HE1.out] at he h1
    subst he
    have H1 := Lib.hid h1; have HK3 := Lib.hid (Kp.trans HK2.out hk)
    clear h1 hk
    go_wp2_with fail
    refine (P2.out w3).mono ?_
    intro e w4 hq
    obtain ⟨⟨v2, he, h2⟩, hk⟩ := hq
    rw [← HE2.out] at he h2
    subst he
    have H2 := Lib.hid h2; have HK4 := Lib.hid (Kp.trans HK3.out hk); have HK34 := Lib.hid hk
    clear h2 hk
    go_wp2_with fail
    refine (CN.out w4).mono ?_
    rintro e w5 ⟨rfl, rfl⟩
    cases C with
    | true =>
      have hT := HB1.out.keep (HK4.out)
      have hP := Put.made hT (.slice none 0 0) (.slice none 0 0)
      obtain ⟨w9, hw9⟩ : ∃ w9, w9 = (w5.setCell ⟨w.heap.size, 0, none⟩ (.slice none 0 0)).setCell ⟨w.heap.size, 1, none⟩ (.slice none 0 0) := ⟨_, rfl⟩
      rw [← hw9] at hP
      have HW9 := Lib.hid hw9; have HP := Lib.hid hP
      have f0 := hT.free 0; have c0 := hT.c0; have f1 := (hT.set0 (.slice none 0 0)).free 1; have c1 := (hT.set0 (.slice none 0 0)).c1
      clear hT hw9 hP
      go_wp2_with fail
      have hP' := HP.out
      rw [← HW9.out]
      clear c0 c1 f0 f1
      have c0 := hP'.two.c0
      have c1 := hP'.two.c1
      have FIN2 : MkR (fE S) (fP S) w (.returned (.tuple #[.agg #[.slice none 0 0, .slice none 0 0], .int .i64 6])) w9 := by
        rw [(HM.out.six (Or.inl rfl)).1, (HM.out.six (Or.inl rfl)).2]
        exact ⟨⟨_, _, rfl, Sl.nil _, Sl.nil _, New.nil _, New.nil _⟩, hP'.only.kp (Kp.trans HK1.out (HK4.out)) (Nat.le_refl _)⟩
      exact bodyPost_ret (by simp [results, Tryz.results35, go_sem, c0, c1]) rfl FIN2
    | false =>
      by_cases e1 : E1 = 6
      · subst e1
        have hT := HB1.out.keep (HK4.out)
        have hP := Put.made hT (.slice none 0 0) (.slice none 0 0)
        obtain ⟨w9, hw9⟩ : ∃ w9, w9 = (w5.setCell ⟨w.heap.size, 0, none⟩ (.slice none 0 0)).setCell ⟨w.heap.size, 1, none⟩ (.slice none 0 0) := ⟨_, rfl⟩
        rw [← hw9] at hP
        have HW9 := Lib.hid hw9; have HP := Lib.hid hP
        have f0 := hT.free 0; have c0 := hT.c0; have f1 := (hT.set0 (.slice none 0 0)).free 1; have c1 := (hT.set0 (.slice none 0 0)).c1
        clear hT hw9 hP
        go_wp2_with fail
        have hP' := HP.out
        rw [← HW9.out]
        clear c0 c1 f0 f1
        have c0 := hP'.two.c0
        have c1 := hP'.two.c1
        have FIN2 : MkR (fE S) (fP S) w (.returned (.tuple #[.agg #[.slice none 0 0, .slice none 0 0], .int .i64 6])) w9 := by
          rw [(HM.out.six (Or.inr (Or.inl HE1.out.symm))).1, (HM.out.six (Or.inr (Or.inl HE1.out.symm))).2]
          exact ⟨⟨_, _, rfl, Sl.nil _, Sl.nil _, New.nil _, New.nil _⟩, hP'.only.kp (Kp.trans HK1.out (HK4.out)) (Nat.le_refl _)⟩
        exact bodyPost_ret (by simp [results, Tryz.results35, go_sem, c0, c1]) rfl FIN2
      · by_cases e2 : E2 = 6
        · subst e2
          have b1 : (E1 == 6) = false := beq_eq_false_iff_ne.2 e1
          have B1 := Lib.hid e1
          clear e1
          have hT := HB1.out.keep (HK4.out)
          have hP := Put.made hT (.slice none 0 0) (.slice none 0 0)
          obtain ⟨w9, hw9⟩ : ∃ w9, w9 = (w5.setCell ⟨w.heap.size, 0, none⟩ (.slice none 0 0)).setCell ⟨w.heap.size, 1, none⟩ (.slice none 0 0) := ⟨_, rfl⟩
          rw [← hw9] at hP
          have HW9 := Lib.hid hw9; have HP := Lib.hid hP
          have f0 := hT.free 0; have c0 := hT.c0; have f1 := (hT.set0 (.slice none 0 0)).free 1; have c1 := (hT.set0 (.slice none 0 0)).c1
          clear hT hw9 hP
          go_wp2_with fail
          have hP' := HP.out
          rw [← HW9.out]
          clear c0 c1 f0 f1
          have c0 := hP'.two.c0
          have c1 := hP'.two.c1
          have FIN2 : MkR (fE S) (fP S) w (.returned (.tuple #[.agg #[.slice none 0 0, .slice none 0 0], .int .i64 6])) w9 := by
            rw [(HM.out.six (Or.inr (Or.inr HE2.out.symm))).1, (HM.out.six (Or.inr (Or.inr HE2.out.symm))).2]
            exact ⟨⟨_, _, rfl, Sl.nil _, Sl.nil _, New.nil _, New.nil _⟩, hP'.only.kp (Kp.trans HK1.out (HK4.out)) (Nat.le_refl _)⟩
          exact bodyPost_ret (by simp [results, Tryz.results35, go_sem, c0, c1]) rfl FIN2
        · have b1 : (E1 == 6) = false := beq_eq_false_iff_ne.2 e1
          have b2 : (E2 == 6) = false := beq_eq_false_iff_ne.2 e2
          by_cases z1 : E1 = 0
          · subst z1
            by_cases z2 : E2 = 0
            · subst z2
              clear b1 b2 e1 e2
              obtain ⟨s1, L1⟩ := H1.out rfl
              obtain ⟨s2, L2⟩ := H2.out rfl
              have S1 := Lib.hid (s1.keep HK34.out); have S2 := Lib.hid s2; have HL1 := Lib.hid L1; have HL2 := Lib.hid L2
              clear s1 s2 L1 L2
              go_wp2_with fail
              refine (Make_any S1.out S2.out).mono ?_
              intro e w6 hq
              have hq2 : MkR (fE S) (fP S) w5 e w6 := by
                by_cases d0 : pv ⟨#[49]⟩ (⟨#[49]⟩ : ByteArray).size = 0
                · have h4 : divE (limbs (pv sn sn.size)) (limbs (pv ⟨#[49]⟩ (⟨#[49]⟩ : ByteArray).size)) = 4 := divE_zero (wf_limbs HL1.out) (wf_limbs HL2.out) (by rw [val_limbs]; exact d0)
                  have hx := HM.out.zero rfl HE1.out.symm HE2.out.symm d0
                  have hp : mkP (limbs (pv sn sn.size)) (limbs (pv ⟨#[49]⟩ (⟨#[49]⟩ : ByteArray).size)) = (0, 0) := by unfold mkP; rw [h4, if_neg (by decide)]
                  rw [h4, hp] at hq
                  rw [hx.1, hx.2]
                  exact hq
                · have hm := mk_n HL1.out HL2.out d0
                  have hx := HM.out.ok rfl HE1.out.symm HE2.out.symm d0
                  rw [hm.1, hm.2] at hq
                  rw [hx.1, hx.2]
                  exact hq
              clear hq
              obtain ⟨⟨u1, u2, rfl, h1, h2, n1, n2⟩, hk⟩ := hq2
              obtain ⟨no, nl, nc, rfl⟩ := h1.open3
              obtain ⟨zo, zc', zc, rfl⟩ := h2.open3
              obtain ⟨EF, hEF⟩ : ∃ EF, EF = fE S := ⟨_, rfl⟩
              obtain ⟨PF, hPF⟩ : ∃ PF, PF = fP S := ⟨_, rfl⟩
              rw [← hPF] at h1 h2
              try rw [← hEF]
              have hT := HB1.out.keep (Kp.trans HK4.out hk)
              have hP := Put.made hT (.slice no nl nc) (.slice zo zc' zc)
              have f0 := hT.free 0; have c0 := hT.c0; have f1 := (hT.set0 (.slice no nl nc)).free 1; have c1 := (hT.set0 (.slice no nl nc)).c1
              obtain ⟨wz, hwz⟩ : ∃ wz, wz = (w6.setCell ⟨w.heap.size, 0, none⟩ (.slice no nl nc)).setCell ⟨w.heap.size, 1, none⟩ (.slice zo zc' zc) := ⟨_, rfl⟩
              rw [← hwz] at hP
              have hlt := Nat.lt_of_lt_of_le hz1 HK4.out.size
              have o1 := h1.only hP.only (n1.offs hlt _)
              have o2 := h2.only hP.only (n2.offs hlt _)
              have FIN : MkR (fE S) (fP S) w (.returned (.tuple #[.agg #[.slice no nl nc, .slice zo zc' zc], .int .i64 EF])) wz := by
                rw [← hEF, ← hPF]
                exact ⟨⟨_, _, rfl, o1, o2, n1.mono (Nat.le_of_lt hlt), n2.mono (Nat.le_of_lt hlt)⟩, hP.only.kp (Kp.trans HK1.out (Kp.trans HK4.out hk)) (Nat.le_refl _)⟩
              have HF := Lib.hid FIN; have HP := Lib.hid hP; have HWZ := Lib.hid hwz
              clear FIN hP hwz o1 o2 hT h1 h2 n1 n2 hk hlt hEF hPF
              go_wp2_with fail
              rw [← HWZ.out]
              clear c0 c1 f0 f1
              have c0 := HP.out.two.c0
              have c1 := HP.out.two.c1
              exact bodyPost_ret (by simp [results, Tryz.results35, go_sem, c0, c1]) rfl HF.out
            · have b3 : (E2 == 0) = false := beq_eq_false_iff_ne.2 z2
              have HX := Lib.hid (HM.out.two rfl (by rw [← HE1.out]; exact e1) (by rw [← HE2.out]; exact e2) (Or.inr (by rw [← HE2.out]; exact z2)))
              clear e1 e2 z2 b1
              have hT := HB1.out.keep (HK4.out)
              have hP := Put.made hT (.slice none 0 0) (.slice none 0 0)
              obtain ⟨w9, hw9⟩ : ∃ w9, w9 = (w5.setCell ⟨w.heap.size, 0, none⟩ (.slice none 0 0)).setCell ⟨w.heap.size, 1, none⟩ (.slice none 0 0) := ⟨_, rfl⟩
              rw [← hw9] at hP
              have HW9 := Lib.hid hw9; have HP := Lib.hid hP
              have f0 := hT.free 0; have c0 := hT.c0; have f1 := (hT.set0 (.slice none 0 0)).free 1; have c1 := (hT.set0 (.slice none 0 0)).c1
              clear hT hw9 hP
              go_wp2_with fail
              have hP' := HP.out
              rw [← HW9.out]
              clear c0 c1 f0 f1
              have c0 := hP'.two.c0
              have c1 := hP'.two.c1
              have FIN2 : MkR (fE S) (fP S) w (.returned (.tuple #[.agg #[.slice none 0 0, .slice none 0 0], .int .i64 2])) w9 := by
                rw [(HX.out).1, (HX.out).2]
                exact ⟨⟨_, _, rfl, Sl.nil _, Sl.nil _, New.nil _, New.nil _⟩, hP'.only.kp (Kp.trans HK1.out (HK4.out)) (Nat.le_refl _)⟩
              exact bodyPost_ret (by simp [results, Tryz.results35, go_sem, c0, c1]) rfl FIN2
          · have b3 : (E1 == 0) = false := beq_eq_false_iff_ne.2 z1
            have HX := Lib.hid (HM.out.two rfl (by rw [← HE1.out]; exact e1) (by rw [← HE2.out]; exact e2) (Or.inl (by rw [← HE1.out]; exact z1)))
            clear e1 e2 z1
            have hT := HB1.out.keep (HK4.out)
            have hP := Put.made hT (.slice none 0 0) (.slice none 0 0)
            obtain ⟨w9, hw9⟩ : ∃ w9, w9 = (w5.setCell ⟨w.heap.size, 0, none⟩ (.slice none 0 0)).setCell ⟨w.heap.size, 1, none⟩ (.slice none 0 0) := ⟨_, rfl⟩
            rw [← hw9] at hP
            have HW9 := Lib.hid hw9; have HP := Lib.hid hP
            have f0 := hT.free 0; have c0 := hT.c0; have f1 := (hT.set0 (.slice none 0 0)).free 1; have c1 := (hT.set0 (.slice none 0 0)).c1
            clear hT hw9 hP
            go_wp2_with fail
            have hP' := HP.out
            rw [← HW9.out]
            clear c0 c1 f0 f1
            have c0 := hP'.two.c0
            have c1 := hP'.two.c1
            have FIN2 : MkR (fE S) (fP S) w (.returned (.tuple #[.agg #[.slice none 0 0, .slice none 0 0], .int .i64 2])) w9 := by
              rw [(HX.out).1, (HX.out).2]
              exact ⟨⟨_, _, rfl, Sl.nil _, Sl.nil _, New.nil _, New.nil _⟩, hP'.only.kp (Kp.trans HK1.out (HK4.out)) (Nat.le_refl _)⟩
            exact bodyPost_ret (by simp [results, Tryz.results35, go_sem, c0, c1]) rfl FIN2
  | true =>
    clear hf
    go_enter Tryz.func35, Tryz.ntmps35
    go_wp2_with fail
    rw [← HW1.out]
    refine (HCUT.out w1).mono ?_
    rintro e w2 ⟨rfl, hk⟩
    have HK2 := Lib.hid hk
    clear hk
    go_wp2_with fail
    refine (P1.out w2).mono ?_
    intro e w3 hq
    obtain ⟨⟨v1, he, h1⟩, hk⟩ := hq
    rw [← HE1.out] at he h1
    subst he
    have H1 := Lib.hid h1; have HK3 := Lib.hid (Kp.trans HK2.out hk)
    clear h1 hk
    go_wp2_with fail
    refine (P2.out w3).mono ?_
    intro e w4 hq
    obtain ⟨⟨v2, he, h2⟩, hk⟩ := hq
    rw [← HE2.out] at he h2
    subst he
    have H2 := Lib.hid h2; have HK4 := Lib.hid (Kp.trans HK3.out hk); have HK34 := Lib.hid hk
    clear h2 hk
    go_wp2_with fail
    refine (CN.out w4).mono ?_
    rintro e w5 ⟨rfl, rfl⟩
    cases C with
    | true =>
      have hT := HB1.out.keep (HK4.out)
      have hP := Put.made hT (.slice none 0 0) (.slice none 0 0)
      obtain ⟨w9, hw9⟩ : ∃ w9, w9 = (w5.setCell ⟨w.heap.size, 0, none⟩ (.slice none 0 0)).setCell ⟨w.heap.size, 1, none⟩ (.slice none 0 0) := ⟨_, rfl⟩
      rw [← hw9] at hP
      have HW9 := Lib.hid hw9; have HP := Lib.hid hP
      have f0 := hT.free 0; have c0 := hT.c0; have f1 := (hT.set0 (.slice none 0 0)).free 1; have c1 := (hT.set0 (.slice none 0 0)).c1
      clear hT hw9 hP
      go_wp2_with fail
      have hP' := HP.out
      rw [← HW9.out]
      clear c0 c1 f0 f1
      have c0 := hP'.two.c0
      have c1 := hP'.two.c1
      have FIN2 : MkR (fE S) (fP S) w (.returned (.tuple #[.agg #[.slice none 0 0, .slice none 0 0], .int .i64 6])) w9 := by
        rw [(HM.out.six (Or.inl rfl)).1, (HM.out.six (Or.inl rfl)).2]
        exact ⟨⟨_, _, rfl, Sl.nil _, Sl.nil _, New.nil _, New.nil _⟩, hP'.only.kp (Kp.trans HK1.out (HK4.out)) (Nat.le_refl _)⟩
      exact bodyPost_ret (by simp [results, Tryz.results35, go_sem, c0, c1]) rfl FIN2
    | false =>
      by_cases e1 : E1 = 6
      · subst e1
        have hT := HB1.out.keep (HK4.out)
        have hP := Put.made hT (.slice none 0 0) (.slice none 0 0)
        obtain ⟨w9, hw9⟩ : ∃ w9, w9 = (w5.setCell ⟨w.heap.size, 0, none⟩ (.slice none 0 0)).setCell ⟨w.heap.size, 1, none⟩ (.slice none 0 0) := ⟨_, rfl⟩
        rw [← hw9] at hP
        have HW9 := Lib.hid hw9; have HP := Lib.hid hP
        have f0 := hT.free 0; have c0 := hT.c0; have f1 := (hT.set0 (.slice none 0 0)).free 1; have c1 := (hT.set0 (.slice none 0 0)).c1
        clear hT hw9 hP
        go_wp2_with fail
        have hP' := HP.out
        rw [← HW9.out]
        clear c0 c1 f0 f1
        have c0 := hP'.two.c0
        have c1 := hP'.two.c1
        have FIN2 : MkR (fE S) (fP S) w (.returned (.tuple #[.agg #[.slice none 0 0, .slice none 0 0], .int .i64 6])) w9 := by
          rw [(HM.out.six (Or.inr (Or.inl HE1.out.symm))).1, (HM.out.six (Or.inr (Or.inl HE1.out.symm))).2]
          exact ⟨⟨_, _, rfl, Sl.nil _, Sl.nil _, New.nil _, New.nil _⟩, hP'.only.kp (Kp.trans HK1.out (HK4.out)) (Nat.le_refl _)⟩
        exact bodyPost_ret (by simp [results, Tryz.results35, go_sem, c0, c1]) rfl FIN2
      · by_cases e2 : E2 = 6
        · subst e2
          have b1 : (E1 == 6) = false := beq_eq_false_iff_ne.2 e1
          have B1 := Lib.hid e1
          clear e1
          have hT := HB1.out.keep (HK4.out)
          have hP := Put.made hT (.slice none 0 0) (.slice none 0 0)
          obtain ⟨w9, hw9⟩ : ∃ w9, w9 = (w5.setCell ⟨w.heap.size, 0, none⟩ (.slice none 0 0)).setCell ⟨w.heap.size, 1, none⟩ (.slice none 0 0) := ⟨_, rfl⟩
          rw [← hw9] at hP
          have HW9 := Lib.hid hw9; have HP := Lib.hid hP
          have f0 := hT.free 0; have c0 := hT.c0; have f1 := (hT.set0 (.slice none 0 0)).free 1; have c1 := (hT.set0 (.slice none 0 0)).c1
          clear hT hw9 hP
          go_wp2_with fail
          have hP' := HP.out
          rw [← HW9.out]
          clear c0 c1 f0 f1
          have c0 := hP'.two.c0
          have c1 := hP'.two.c1
          have FIN2 : MkR (fE S) (fP S) w (.returned (.tuple #[.agg #[.slice none 0 0, .slice none 0 0], .int .i64 6])) w9 := by
            rw [(HM.out.six (Or.inr (Or.inr HE2.out.symm))).1, (HM.out.six (Or.inr (Or.inr HE2.out.symm))).2]
            exact ⟨⟨_, _, rfl, Sl.nil _, Sl.nil _, New.nil _, New.nil _⟩, hP'.only.kp (Kp.trans HK1.out (HK4.out)) (Nat.le_refl _)⟩
          exact bodyPost_ret (by simp [results, Tryz.results35, go_sem, c0, c1]) rfl FIN2
        · have b1 : (E1 == 6) = false := beq_eq_false_iff_ne.2 e1
          have b2 : (E2 == 6) = false := beq_eq_false_iff_ne.2 e2
          by_cases z1 : E1 = 0
          · subst z1
            by_cases z2 : E2 = 0
            · subst z2
              clear b1 b2 e1 e2
              obtain ⟨s1, L1⟩ := H1.out rfl
              obtain ⟨s2, L2⟩ := H2.out rfl
              have S1 := Lib.hid (s1.keep HK34.out); have S2 := Lib.hid s2; have HL1 := Lib.hid L1; have HL2 := Lib.hid L2
              clear s1 s2 L1 L2
              go_wp2_with fail
              refine (Make_any S1.out S2.out).mono ?_
              intro e w6 hq
              have hq2 : MkR (fE S) (fP S) w5 e w6 := by
                by_cases d0 : pv sd (sd : ByteArray).size = 0
                · have h4 : divE (limbs (pv sn sn.size)) (limbs (pv sd (sd : ByteArray).size)) = 4 := divE_zero (wf_limbs HL1.out) (wf_limbs HL2.out) (by rw [val_limbs]; exact d0)
                  have hx := HM.out.zero rfl HE1.out.symm HE2.out.symm d0
                  have hp : mkP (limbs (pv sn sn.size)) (limbs (pv sd (sd : ByteArray).size)) = (0, 0) := by unfold mkP; rw [h4, if_neg (by decide)]
                  rw [h4, hp] at hq
                  rw [hx.1, hx.2]
                  exact hq
                · have hm := mk_n HL1.out HL2.out d0
                  have hx := HM.out.ok rfl HE1.out.symm HE2.out.symm d0
                  rw [hm.1, hm.2] at hq
                  rw [hx.1, hx.2]
                  exact hq
              clear hq
              obtain ⟨⟨u1, u2, rfl, h1, h2, n1, n2⟩, hk⟩ := hq2
              obtain ⟨no, nl, nc, rfl⟩ := h1.open3
              obtain ⟨zo, zc', zc, rfl⟩ := h2.open3
              obtain ⟨EF, hEF⟩ : ∃ EF, EF = fE S := ⟨_, rfl⟩
              obtain ⟨PF, hPF⟩ : ∃ PF, PF = fP S := ⟨_, rfl⟩
              rw [← hPF] at h1 h2
              try rw [← hEF]
              have hT := HB1.out.keep (Kp.trans HK4.out hk)
              have hP := Put.made hT (.slice no nl nc) (.slice zo zc' zc)
              have f0 := hT.free 0; have c0 := hT.c0; have f1 := (hT.set0 (.slice no nl nc)).free 1; have c1 := (hT.set0 (.slice no nl nc)).c1
              obtain ⟨wz, hwz⟩ : ∃ wz, wz = (w6.setCell ⟨w.heap.size, 0, none⟩ (.slice no nl nc)).setCell ⟨w.heap.size, 1, none⟩ (.slice zo zc' zc) := ⟨_, rfl⟩
              rw [← hwz] at hP
              have hlt := Nat.lt_of_lt_of_le hz1 HK4.out.size
              have o1 := h1.only hP.only (n1.offs hlt _)
              have o2 := h2.only hP.only (n2.offs hlt _)
              have FIN : MkR (fE S) (fP S) w (.returned (.tuple #[.agg #[.slice no nl nc, .slice zo zc' zc], .int .i64 EF])) wz := by
                rw [← hEF, ← hPF]
                exact ⟨⟨_, _, rfl, o1, o2, n1.mono (Nat.le_of_lt hlt), n2.mono (Nat.le_of_lt hlt)⟩, hP.only.kp (Kp.trans HK1.out (Kp.trans HK4.out hk)) (Nat.le_refl _)⟩
              have HF := Lib.hid FIN; have HP := Lib.hid hP; have HWZ := Lib.hid hwz
              clear FIN hP hwz o1 o2 hT h1 h2 n1 n2 hk hlt hEF hPF
              go_wp2_with fail
              rw [← HWZ.out]
              clear c0 c1 f0 f1
              have c0 := HP.out.two.c0
              have c1 := HP.out.two.c1
              exact bodyPost_ret (by simp [results, Tryz.results35, go_sem, c0, c1]) rfl HF.out
            · have b3 : (E2 == 0) = false := beq_eq_false_iff_ne.2 z2
              have HX := Lib.hid (HM.out.two rfl (by rw [← HE1.out]; exact e1) (by rw [← HE2.out]; exact e2) (Or.inr (by rw [← HE2.out]; exact z2)))
              clear e1 e2 z2 b1
              have hT := HB1.out.keep (HK4.out)
              have hP := Put.made hT (.slice none 0 0) (.slice none 0 0)
              obtain ⟨w9, hw9⟩ : ∃ w9, w9 = (w5.setCell ⟨w.heap.size, 0, none⟩ (.slice none 0 0)).setCell ⟨w.heap.size, 1, none⟩ (.slice none 0 0) := ⟨_, rfl⟩
              rw [← hw9] at hP
              have HW9 := Lib.hid hw9; have HP := Lib.hid hP
              have f0 := hT.free 0; have c0 := hT.c0; have f1 := (hT.set0 (.slice none 0 0)).free 1; have c1 := (hT.set0 (.slice none 0 0)).c1
              clear hT hw9 hP
              go_wp2_with fail
              have hP' := HP.out
              rw [← HW9.out]
              clear c0 c1 f0 f1
              have c0 := hP'.two.c0
              have c1 := hP'.two.c1
              have FIN2 : MkR (fE S) (fP S) w (.returned (.tuple #[.agg #[.slice none 0 0, .slice none 0 0], .int .i64 2])) w9 := by
                rw [(HX.out).1, (HX.out).2]
                exact ⟨⟨_, _, rfl, Sl.nil _, Sl.nil _, New.nil _, New.nil _⟩, hP'.only.kp (Kp.trans HK1.out (HK4.out)) (Nat.le_refl _)⟩
              exact bodyPost_ret (by simp [results, Tryz.results35, go_sem, c0, c1]) rfl FIN2
          · have b3 : (E1 == 0) = false := beq_eq_false_iff_ne.2 z1
            have HX := Lib.hid (HM.out.two rfl (by rw [← HE1.out]; exact e1) (by rw [← HE2.out]; exact e2) (Or.inl (by rw [← HE1.out]; exact z1)))
            clear e1 e2 z1
            have hT := HB1.out.keep (HK4.out)
            have hP := Put.made hT (.slice none 0 0) (.slice none 0 0)
            obtain ⟨w9, hw9⟩ : ∃ w9, w9 = (w5.setCell ⟨w.heap.size, 0, none⟩ (.slice none 0 0)).setCell ⟨w.heap.size, 1, none⟩ (.slice none 0 0) := ⟨_, rfl⟩
            rw [← hw9] at hP
            have HW9 := Lib.hid hw9; have HP := Lib.hid hP
            have f0 := hT.free 0; have c0 := hT.c0; have f1 := (hT.set0 (.slice none 0 0)).free 1; have c1 := (hT.set0 (.slice none 0 0)).c1
            clear hT hw9 hP
            go_wp2_with fail
            have hP' := HP.out
            rw [← HW9.out]
            clear c0 c1 f0 f1
            have c0 := hP'.two.c0
            have c1 := hP'.two.c1
            have FIN2 : MkR (fE S) (fP S) w (.returned (.tuple #[.agg #[.slice none 0 0, .slice none 0 0], .int .i64 2])) w9 := by
              rw [(HX.out).1, (HX.out).2]
              exact ⟨⟨_, _, rfl, Sl.nil _, Sl.nil _, New.nil _, New.nil _⟩, hP'.only.kp (Kp.trans HK1.out (HK4.out)) (Nat.le_refl _)⟩
            exact bodyPost_ret (by simp [results, Tryz.results35, go_sem, c0, c1]) rfl FIN2
set_option maxRecDepth 100000 in
theorem FParse_any (S : ByteArray) (hs : S.size ≤ 1000000) (w : World) :
    Calls Tryz.prog 35 #[.string S] w (MkR (fE S) (fP S) w) := by
  by_cases h : 2601 < S.size
  · have HX := Lib.hid (fE_long h)
    obtain ⟨zl, ez⟩ : ∃ zl, zl = S.size := ⟨_, rfl⟩
    rw [← ez] at hs h
    have q0 : ∀ w : World, (Builtin.len_ #[9] 3 #[.string S]).run Tryz.prog w = .ok (goInt zl) w := fun w => by rw [run_len_string w _ _ S Tryz.underlying9, ez]
    obtain ⟨w1, hw1, HK1, HB1, hz1⟩ := start2 w 25
    have HW1 := Lib.hid hw1
    clear ez hw1
    go_enter Tryz.func35, Tryz.ntmps35
    go_wp2_with fail
    rw [← HW1.out]
    have c0 := HB1.out.c0
    have c1 := HB1.out.c1
    have FIN2 : MkR (fE S) (fP S) w (.returned (.tuple #[.agg #[.slice none 0 0, .slice none 0 0], .int .i64 2])) w1 := by
      rw [HX.out.1, HX.out.2]
      exact ⟨⟨_, _, rfl, Sl.nil _, Sl.nil _, New.nil _, New.nil _⟩, HK1.out⟩
    exact bodyPost_ret (by simp [results, Tryz.results35, go_sem, c0, c1]) rfl FIN2
  · obtain ⟨l, hl⟩ : ∃ l : List UInt8, S = ⟨l.toArray⟩ := ⟨S.data.toList, by apply bext; simp⟩
    have hz : S.size = l.length := by rw [hl]; rfl
    rcases stroke l with hn | ⟨a, m, hm, ha⟩
    · have hM : Mid S S ⟨#[49]⟩ false := by
        rw [hl] at h ⊢
        exact Mid.one hn h
      exact FParse_mid false hM (by omega) (fun _ => rfl) (fun w => (sCut_none S ⟨l, hl, hn⟩ w).mono (by rintro e w' ⟨rfl, rfl⟩; exact ⟨rfl, Kp.refl _⟩)) (by decide) (by omega) (by decide) w
    · have hz2 : l.length = a.length + (m.length + 1) := by rw [hm]; simp
      have hcut : ∀ w, Calls Tryz.prog 77 #[.string S, .string ⟨#[47]⟩] w fun e w' => e = .returned (.tuple #[.string ⟨a.toArray⟩, .string (if true then ⟨m.toArray⟩ else ⟨#[]⟩), .bool true]) ∧ Kp w w' := fun w =>
        sCut_at S ⟨a.toArray⟩ ⟨m.toArray⟩ ⟨a, m, by rw [hl, hm], rfl, rfl, ha, by omega, by omega⟩ w
      rcases stroke m with hn | ⟨b, r, hr, hb⟩
      · have hM : Mid S ⟨a.toArray⟩ ⟨m.toArray⟩ false := by
          rw [hl, hm] at h ⊢
          exact Mid.two' ha hn h
        refine FParse_mid true hM (by omega) (fun h => absurd h (by decide)) hcut ?_ (by rw [bsize]; omega) (by rw [bsize]; omega) w
        have : Lib.indexByte (⟨m.toArray⟩ : ByteArray).data.toList 47 = -1 := ib_none hn
        rw [this]
        rfl
      · have hM : Mid S ⟨a.toArray⟩ ⟨m.toArray⟩ true := by
          rw [hl, hm, hr] at h ⊢
          exact Mid.more ha hb h
        refine FParse_mid true hM (by omega) (fun h => absurd h (by decide)) hcut ?_ (by rw [bsize]; omega) (by rw [bsize]; omega) w
        have : Lib.indexByte (⟨m.toArray⟩ : ByteArray).data.toList 47 = (b.length : Int) := by rw [hr]; exact ib_at hb
        rw [this]
        simp
end Go.Proofs.YtgpochhndjadhaaGreatDoor
