/- The reference's Parse of any text. Condition: the text is not longer than a million bytes. -/
import Derived.Test.YtgpochhndjadhaaGreatDoorOwnP
namespace Go.Proofs.YtgpochhndjadhaaGreatDoor
open Go.RowKit LimbN
set_option linter.unusedVariables false
set_option linter.unusedSimpArgs false

set_option maxRecDepth 100000 in
set_option maxHeartbeats 4000000 in
theorem rFParse_any (S : ByteArray) (hs : S.size ≤ 1000000) (w : World) :
    Calls Tryz.prog 36 #[.string S] w (MkR (fE S) (fP S) w) := by
  obtain ⟨zl, ez⟩ : ∃ zl, zl = S.size := ⟨_, rfl⟩
  have q0 : ∀ w : World, (Builtin.len_ #[9] 3 #[.string S]).run Tryz.prog w = .ok (goInt zl) w := fun w => by rw [run_len_string w _ _ S Tryz.underlying9, ez]
  obtain ⟨w1, hw1, HK1, HB1, hz1⟩ := start2 w 25
  have HW1 := Lib.hid hw1
  have EZ := Lib.hid ez
  by_cases h : 2601 < S.size
  · have HX := Lib.hid (fE_long h)
    rw [← ez] at hs h
    clear ez hw1
    go_enter Tryz.func36, Tryz.ntmps36
    go_wp2_with fail
    rw [← HW1.out]
    have c0 := HB1.out.c0
    have c1 := HB1.out.c1
    have FIN2 : MkR (fE S) (fP S) w (.returned (.tuple #[.agg #[.slice none 0 0, .slice none 0 0], .int .i64 2])) w1 := by
      rw [HX.out.1, HX.out.2]
      exact ⟨⟨_, _, rfl, Sl.nil _, Sl.nil _, New.nil _, New.nil _⟩, HK1.out⟩
    exact bodyPost_ret (by simp [results, Tryz.results36, go_sem, c0, c1]) rfl FIN2
  · have HS := Lib.hid h
    rw [← ez] at hs h
    clear ez hw1
    obtain ⟨L, hL⟩ : ∃ L, L = S.data.toList := ⟨_, rfl⟩
    have HL := Lib.hid hL
    have hlen : L.length = zl := by rw [hL, EZ.out]; exact Array.length_toList
    clear hL
    go_enter Tryz.func36, Tryz.ntmps36
    go_wp2_with fail
    rw [← HW1.out]
    have e1 : w.heap.size + 1 = w1.heap.size := by rw [HW1.out]; simp
    rw [e1]
    go_loopw [4, 5] (fun pv iv wy => ∃ i : Nat, i ≤ zl ∧ iv = .int .i64 i ∧ OwnP w1 wy pv (pcs (L.take i))) (fun _ iv _ => zl - (intOf iv).toNat)
    case atStart => exact ⟨0, by omega, rfl, OwnP.start (Kp.refl w1)⟩
    case round =>
      obtain ⟨i, hi, rfl, hown⟩ := hrel
      have hsz := hown.kp.size
      have hpl := pcs_len (L.take i)
      rw [List.length_take] at hpl
      obtain ⟨q, eq⟩ : ∃ q, q = pcs (L.take i) := ⟨_, rfl⟩
      rw [← eq] at hown hpl
      obtain ⟨P, x⟩ := q
      simp only [] at hpl
      have EQ := Lib.hid eq
      have HOWN := Lib.hid hown
      obtain ⟨k, ek⟩ : ∃ k, k = P.length := ⟨_, rfl⟩
      rw [← ek] at hpl
      obtain ⟨g, cap, cur, rfl, hb, hg, hcap, hmax, hcz, ht⟩ := hown.formk ek
      have EK := Lib.hid ek
      by_cases hil : i < zl
      · have hiL : i < L.length := by omega
        have hiS : i < S.data.toList.length := by rw [← HL.out]; exact hiL
        have qk : ∀ w, (Instr.index 9 (.string S) (.int .i64 (i : Int))).run Tryz.prog w = .ok (.int .u8 (sb S i : Nat)) w := fun w => idx_str S i (by have := EZ.out; omega) w
        obtain ⟨c, ec⟩ : ∃ c, c = L[i] := ⟨_, rfl⟩
        have hcs : sb S i = c.toNat := by
          rw [sb_list S i hiS, ec]
          simp only [HL.out]
        rw [hcs] at qk
        have NEXT : Hid (pcs (L.take (i + 1)) = stepQ (P, x) c) := by
          show _ = _
          rw [pcs_succ hiL, EQ.out, ec]
        by_cases h47 : c = 47
        · have b47 : (((c.toNat : Nat) : Int) == 47) = true := by rw [h47]; rfl
          have NX : Hid (pcs (L.take (i + 1)) = (P ++ [x], [])) := by
            show _ = _
            rw [NEXT.out]; unfold stepQ; rw [if_pos h47]
          have ho := HOWN.out.owns
          simp only [] at ho
          rw [← ek] at ho
          have HO := Lib.hid ho
          clear ho hown ht hcs ec eq hg h47 ek
          go_wp2_with (at_builtin; refine wpList_appS rfl (.tmp 25) (.tmp 26) rfl w1.heap.size _ (k + 1) _ rfl _ (HO.out.alloc _) rfl (by omega) (by omega) ?_)
          intro v' w5 hown' hgr
          have hn : OwnP w1 w5 v' (P ++ [x], []) := OwnP.app HOWN.out (by rw [← EK.out]; simpa [bV, bS] using hown') hgr
          have HN := Lib.hid hn
          clear hn hown' hgr
          go_wp2_with fail
          go_roundw
          case rel => exact ⟨i + 1, by omega, vint (by omega), by rw [NX.out]; exact HN.out⟩
          case measure => simp [intOf]; omega
        · have b47 : (((c.toNat : Nat) : Int) == 47) = false := beq_eq_false_iff_ne.2 (fun h => h47 (UInt8.toNat_inj.1 (by have : (47 : UInt8).toNat = 47 := rfl; omega)))
          have NX : Hid (pcs (L.take (i + 1)) = (P, x ++ [c])) := by
            show _ = _
            rw [NEXT.out]; unfold stepQ; rw [if_neg h47]
          have hcell : wr.cell? ⟨g, k, none⟩ = some (.string (bS x)) := own_cell hg ht k (Nat.lt_succ_self _) _ (by rw [ek]; simp [bV])
          have hfree : wr.frozen? ⟨g, k, none⟩ = false := frozen_of_row wr g k _ 9 hg
          have qs : ∀ w : World, (Instr.slice 9 (.string S) (some (.int .i64 (i : Int))) (some (.int .i64 ((i : Int) + 1))) none).run Tryz.prog w = .ok (.string (bS [c])) w := fun w => by
            rw [run_slice_string w 9 S .i64 .i64 i ((i : Int) + 1) Tryz.underlying9 (by omega) (by omega) (by have := EZ.out; omega), show ((i : Int) + 1).toNat = i + 1 by omega, Int.toNat_natCast, ext_one S i hiS]
            simp only [ec, HL.out]
          obtain ⟨X, eX⟩ : ∃ X, X = bS x := ⟨_, rfl⟩
          obtain ⟨C, eC⟩ : ∃ C, C = bS [c] := ⟨_, rfl⟩
          have hXC : X ++ C = bS (x ++ [c]) := by rw [eX, eC, bS_app]
          have zX : X.size ≤ 2601 := by rw [eX, bS_size]; omega
          have zC : C.size = 1 := by rw [eC]; rfl
          have hn2 : ¬ (9223372036854775807 < X.size + C.size) := by omega
          rw [← eC] at qs
          rw [← eX] at hcell
          have HXC := Lib.hid hXC
          have hset := OwnP.set ek HOWN.out (x ++ [c])
          unfold bV at hset
          rw [← hXC] at hset
          have HSET := Lib.hid hset
          have NW : Hid (∀ n, OwnP w1 ((wr.setCell ⟨g, k, none⟩ (.string (X ++ C))).drewN n) (.slice (some ⟨g, 0, none⟩) (k + 1) cap) (P, x ++ [c])) := fun n => HSET.out.keep (Kp.drewN _ n)
          clear eX eC hXC hset HOWN zX zC
          clear hown ht hcs ec eq h47 ek
          go_wp2_with fail
          go_region
          go_wp2_with fail
          go_roundw
          case rel => exact ⟨i + 1, by omega, vint (by omega), by rw [NX.out]; exact NW.out _⟩
          case measure => simp [intOf]; omega
      · have hiz : i = zl := by omega
        have hq : pcs S.data.toList = (P, x) := by rw [EQ.out, List.take_of_length_le (by omega), HL.out]
        have zx : x.length ≤ 2601 := by omega
        have zP : (pcs S.data.toList).1.length ≤ 2601 := by rw [hq]; show P.length ≤ 2601; omega
        have zA : ∀ a, P = [a] → a.length ≤ 2601 := by
          intro a ha
          have h5 : pcs S.data.toList = ([a], x) := by rw [hq, ha]
          exact pcs_first h5 (by rw [← HL.out]; omega)
        have HQ := Lib.hid hq
        clear hiz eq hq zP ek
        rcases P with _ | ⟨a, _ | ⟨b, r⟩⟩
        · obtain rfl : k = 0 := EK.out
          have hM := Mid.q1 HS.out HQ.out
          have ho := HOWN.out.owns
          have HO := Lib.hid ho
          clear ho hown ht hg zA
          go_wp2_with (at_builtin; refine wpList_appS rfl (.tmp 48) (.tmp 49) rfl w1.heap.size _ 1 _ rfl _ (HO.out.alloc _) rfl (by omega) (by omega) ?_)
          intro v' w2 hown' hgr
          have hn : OwnP w1 w2 v' ([x], [49]) := OwnP.app HOWN.out (by simpa [bV, bS] using hown') hgr
          have HK2 := Lib.hid hn.kp
          clear hown' hgr
          obtain ⟨g2, cap2, cur2, rfl, hb2, hg2, hcap2, hmax2, hcz2, ht2⟩ := hn.formk (k := 1) rfl
          clear hn
          have HM := Lib.hid hM
          obtain ⟨sn, esn⟩ : ∃ sn, sn = bS x := ⟨_, rfl⟩
          obtain ⟨sd, esd⟩ : ∃ sd, sd = bS [49] := ⟨_, rfl⟩
          rw [← esn, ← esd] at HM
          have P1 : Hid (∀ w, Calls Tryz.prog 81 #[.string sn] w (PrR sn w)) := fun w => (rParse_any sn (by rw [esn, bS_size]; omega) w).mono fun _ _ h => h.pr
          have P2 : Hid (∀ w, Calls Tryz.prog 81 #[.string sd] w (PrR sd w)) := fun w => (rParse_any sd (by rw [esd]; decide) w).mono fun _ _ h => h.pr
          obtain ⟨E1, hE1⟩ : ∃ E1, E1 = nE sn := ⟨_, rfl⟩
          obtain ⟨E2, hE2⟩ : ∃ E2, E2 = nE sd := ⟨_, rfl⟩
          have HE1 := Lib.hid hE1; have HE2 := Lib.hid hE2
          clear hM hE1 hE2
          have cA : w2.cell? ⟨g2, 0, none⟩ = some (.string sn) := own_cell hg2 ht2 0 (by decide) _ (by rw [esn]; rfl)
          have HG2 := Lib.hid hg2; have HT2 := Lib.hid ht2; have ESD := Lib.hid esd
          clear hg2 ht2 esn esd
          go_wp2_with fail
          refine (P1.out w2).mono ?_
          intro e w3 hq
          obtain ⟨⟨v1, he, h1⟩, hk⟩ := hq
          rw [← HE1.out] at he h1
          subst he
          have H1 := Lib.hid h1; have HK3 := Lib.hid (Kp.trans HK2.out hk)
          have cB : w3.cell? ⟨g2, 1, none⟩ = some (.string sd) := own_cell ((hk.block _ (lt_of_block HG2.out)).trans HG2.out) HT2.out 1 (by decide) _ (by rw [ESD.out]; rfl)
          clear h1 hk cA
          go_wp2_with fail
          refine (P2.out w3).mono ?_
          intro e w4 hq
          obtain ⟨⟨v2, he, h2⟩, hk⟩ := hq
          rw [← HE2.out] at he h2
          subst he
          have H2 := Lib.hid h2; have HK4 := Lib.hid (Kp.trans HK3.out hk); have HK34 := Lib.hid hk
          clear h2 hk cB
          by_cases e1 : E1 = 6
          · subst e1
            have hT := HB1.out.keep (HK4.out)
            have hP := Put.made hT (.slice none 0 0) (.slice none 0 0)
            obtain ⟨w9, hw9⟩ : ∃ w9, w9 = (w4.setCell ⟨w.heap.size, 0, none⟩ (.slice none 0 0)).setCell ⟨w.heap.size, 1, none⟩ (.slice none 0 0) := ⟨_, rfl⟩
            rw [← hw9] at hP
            have HW9 := Lib.hid hw9; have HP := Lib.hid hP
            have f0 := hT.free 0; have c0 := hT.c0; have f1 := (hT.set0 (.slice none 0 0)).free 1; have c1 := (hT.set0 (.slice none 0 0)).c1
            clear hT hw9 hP
            go_wp2_with fail
            have hP' := HP.out
            rw [← HW9.out]
            clear c0 c1 f0 f1
            have c0 := hP'.two.c0
            have c1 := hP'.two.c1
            have FIN2 : MkR (fE S) (fP S) w (.returned (.tuple #[.agg #[.slice none 0 0, .slice none 0 0], .int .i64 6])) w9 := by
              rw [(HM.out.six (Or.inr (Or.inl HE1.out.symm))).1, (HM.out.six (Or.inr (Or.inl HE1.out.symm))).2]
              exact ⟨⟨_, _, rfl, Sl.nil _, Sl.nil _, New.nil _, New.nil _⟩, hP'.only.kp (Kp.trans HK1.out (HK4.out)) (Nat.le_refl _)⟩
            exact bodyPost_ret (by simp [results, Tryz.results36, go_sem, c0, c1]) rfl FIN2
          · by_cases e2 : E2 = 6
            · subst e2
              have b1 : (E1 == 6) = false := beq_eq_false_iff_ne.2 e1
              clear e1
              have hT := HB1.out.keep (HK4.out)
              have hP := Put.made hT (.slice none 0 0) (.slice none 0 0)
              obtain ⟨w9, hw9⟩ : ∃ w9, w9 = (w4.setCell ⟨w.heap.size, 0, none⟩ (.slice none 0 0)).setCell ⟨w.heap.size, 1, none⟩ (.slice none 0 0) := ⟨_, rfl⟩
              rw [← hw9] at hP
              have HW9 := Lib.hid hw9; have HP := Lib.hid hP
              have f0 := hT.free 0; have c0 := hT.c0; have f1 := (hT.set0 (.slice none 0 0)).free 1; have c1 := (hT.set0 (.slice none 0 0)).c1
              clear hT hw9 hP
              go_wp2_with fail
              have hP' := HP.out
              rw [← HW9.out]
              clear c0 c1 f0 f1
              have c0 := hP'.two.c0
              have c1 := hP'.two.c1
              have FIN2 : MkR (fE S) (fP S) w (.returned (.tuple #[.agg #[.slice none 0 0, .slice none 0 0], .int .i64 6])) w9 := by
                rw [(HM.out.six (Or.inr (Or.inr HE2.out.symm))).1, (HM.out.six (Or.inr (Or.inr HE2.out.symm))).2]
                exact ⟨⟨_, _, rfl, Sl.nil _, Sl.nil _, New.nil _, New.nil _⟩, hP'.only.kp (Kp.trans HK1.out (HK4.out)) (Nat.le_refl _)⟩
              exact bodyPost_ret (by simp [results, Tryz.results36, go_sem, c0, c1]) rfl FIN2
            · have b1 : (E1 == 6) = false := beq_eq_false_iff_ne.2 e1
              have b2 : (E2 == 6) = false := beq_eq_false_iff_ne.2 e2
              by_cases z1 : E1 = 0
              · subst z1
                by_cases z2 : E2 = 0
                · subst z2
                  clear b1 b2 e1 e2
                  obtain ⟨s1, L1⟩ := H1.out rfl
                  obtain ⟨s2, L2⟩ := H2.out rfl
                  have S1 := Lib.hid (s1.keep HK34.out); have S2 := Lib.hid s2; have HL1 := Lib.hid L1; have HL2 := Lib.hid L2
                  obtain ⟨a2, c2, rfl, -⟩ := s2.ex
                  clear s1 s2 L1 L2
                  obtain ⟨l2, el2⟩ : ∃ l2, l2 = (limbs (pv sd sd.size)).length := ⟨_, rfl⟩
                  rw [← el2] at S2 ⊢
                  by_cases d0 : pv sd sd.size = 0
                  · have h0 : ((l2 : Int) == 0) = true := by rw [el2, d0]; rfl
                    have HX := Lib.hid (HM.out.zero rfl HE1.out.symm HE2.out.symm d0)
                    clear d0 el2
                    have hT := HB1.out.keep (HK4.out)
                    have hP := Put.made hT (.slice none 0 0) (.slice none 0 0)
                    obtain ⟨w9, hw9⟩ : ∃ w9, w9 = (w4.setCell ⟨w.heap.size, 0, none⟩ (.slice none 0 0)).setCell ⟨w.heap.size, 1, none⟩ (.slice none 0 0) := ⟨_, rfl⟩
                    rw [← hw9] at hP
                    have HW9 := Lib.hid hw9; have HP := Lib.hid hP
                    have f0 := hT.free 0; have c0 := hT.c0; have f1 := (hT.set0 (.slice none 0 0)).free 1; have c1 := (hT.set0 (.slice none 0 0)).c1
                    clear hT hw9 hP
                    go_wp2_with fail
                    have hP' := HP.out
                    rw [← HW9.out]
                    clear c0 c1 f0 f1
                    have c0 := hP'.two.c0
                    have c1 := hP'.two.c1
                    have FIN2 : MkR (fE S) (fP S) w (.returned (.tuple #[.agg #[.slice none 0 0, .slice none 0 0], .int .i64 4])) w9 := by
                      rw [(HX.out).1, (HX.out).2]
                      exact ⟨⟨_, _, rfl, Sl.nil _, Sl.nil _, New.nil _, New.nil _⟩, hP'.only.kp (Kp.trans HK1.out (HK4.out)) (Nat.le_refl _)⟩
                    exact bodyPost_ret (by simp [results, Tryz.results36, go_sem, c0, c1]) rfl FIN2
                  · have hl2 := limbs_len_pos.2 d0
                    have h0 : ((l2 : Int) == 0) = false := beq_eq_false_iff_ne.2 (by omega)
                    have HX := Lib.hid (HM.out.ok rfl HE1.out.symm HE2.out.symm d0)
                    have LOW := Lib.hid (lowest_n S1.out S2.out (Nat.le_trans HL1.out (by decide)) (Nat.le_trans HL2.out (by decide)) d0)
                    clear d0 el2 hl2
                    go_wp2_with fail
                    refine LOW.out.mono ?_
                    intro e w6 hq
                    obtain ⟨⟨u1, u2, rfl, h1, h2, n1, n2⟩, hk⟩ := hq
                    obtain ⟨no, nl, nc, rfl⟩ := h1.open3
                    obtain ⟨zo, zc', zc, rfl⟩ := h2.open3
                    have hT := HB1.out.keep (Kp.trans HK4.out hk)
                    have hP := Put.made hT (.slice no nl nc) (.slice zo zc' zc)
                    have f0 := hT.free 0; have c0 := hT.c0; have f1 := (hT.set0 (.slice no nl nc)).free 1; have c1 := (hT.set0 (.slice no nl nc)).c1
                    obtain ⟨wz, hwz⟩ : ∃ wz, wz = (w6.setCell ⟨w.heap.size, 0, none⟩ (.slice no nl nc)).setCell ⟨w.heap.size, 1, none⟩ (.slice zo zc' zc) := ⟨_, rfl⟩
                    rw [← hwz] at hP
                    have hlt := Nat.lt_of_lt_of_le hz1 HK4.out.size
                    have o1 := h1.only hP.only (n1.offs hlt _)
                    have o2 := h2.only hP.only (n2.offs hlt _)
                    have FIN : MkR (fE S) (fP S) w (.returned (.tuple #[.agg #[.slice no nl nc, .slice zo zc' zc], .int .i64 0])) wz := by
                      rw [HX.out.1, HX.out.2]
                      exact ⟨⟨_, _, rfl, o1, o2, n1.mono (Nat.le_of_lt hlt), n2.mono (Nat.le_of_lt hlt)⟩, hP.only.kp (Kp.trans HK1.out (Kp.trans HK4.out hk)) (Nat.le_refl _)⟩
                    have HF := Lib.hid FIN; have HP := Lib.hid hP; have HWZ := Lib.hid hwz
                    clear FIN hP hwz o1 o2 hT h1 h2 n1 n2 hk hlt
                    go_wp2_with fail
                    rw [← HWZ.out]
                    clear c0 c1 f0 f1
                    have c0 := HP.out.two.c0
                    have c1 := HP.out.two.c1
                    exact bodyPost_ret (by simp [results, Tryz.results36, go_sem, c0, c1]) rfl HF.out
                · have b3 : (E2 == 0) = false := beq_eq_false_iff_ne.2 z2
                  have HX := Lib.hid (HM.out.two rfl (by rw [← HE1.out]; exact e1) (by rw [← HE2.out]; exact e2) (Or.inr (by rw [← HE2.out]; exact z2)))
                  clear e1 e2 z2 b1
                  have hT := HB1.out.keep (HK4.out)
                  have hP := Put.made hT (.slice none 0 0) (.slice none 0 0)
                  obtain ⟨w9, hw9⟩ : ∃ w9, w9 = (w4.setCell ⟨w.heap.size, 0, none⟩ (.slice none 0 0)).setCell ⟨w.heap.size, 1, none⟩ (.slice none 0 0) := ⟨_, rfl⟩
                  rw [← hw9] at hP
                  have HW9 := Lib.hid hw9; have HP := Lib.hid hP
                  have f0 := hT.free 0; have c0 := hT.c0; have f1 := (hT.set0 (.slice none 0 0)).free 1; have c1 := (hT.set0 (.slice none 0 0)).c1
                  clear hT hw9 hP
                  go_wp2_with fail
                  have hP' := HP.out
                  rw [← HW9.out]
                  clear c0 c1 f0 f1
                  have c0 := hP'.two.c0
                  have c1 := hP'.two.c1
                  have FIN2 : MkR (fE S) (fP S) w (.returned (.tuple #[.agg #[.slice none 0 0, .slice none 0 0], .int .i64 2])) w9 := by
                    rw [(HX.out).1, (HX.out).2]
                    exact ⟨⟨_, _, rfl, Sl.nil _, Sl.nil _, New.nil _, New.nil _⟩, hP'.only.kp (Kp.trans HK1.out (HK4.out)) (Nat.le_refl _)⟩
                  exact bodyPost_ret (by simp [results, Tryz.results36, go_sem, c0, c1]) rfl FIN2
              · have b3 : (E1 == 0) = false := beq_eq_false_iff_ne.2 z1
                have HX := Lib.hid (HM.out.two rfl (by rw [← HE1.out]; exact e1) (by rw [← HE2.out]; exact e2) (Or.inl (by rw [← HE1.out]; exact z1)))
                clear e1 e2 z1
                have hT := HB1.out.keep (HK4.out)
                have hP := Put.made hT (.slice none 0 0) (.slice none 0 0)
                obtain ⟨w9, hw9⟩ : ∃ w9, w9 = (w4.setCell ⟨w.heap.size, 0, none⟩ (.slice none 0 0)).setCell ⟨w.heap.size, 1, none⟩ (.slice none 0 0) := ⟨_, rfl⟩
                rw [← hw9] at hP
                have HW9 := Lib.hid hw9; have HP := Lib.hid hP
                have f0 := hT.free 0; have c0 := hT.c0; have f1 := (hT.set0 (.slice none 0 0)).free 1; have c1 := (hT.set0 (.slice none 0 0)).c1
                clear hT hw9 hP
                go_wp2_with fail
                have hP' := HP.out
                rw [← HW9.out]
                clear c0 c1 f0 f1
                have c0 := hP'.two.c0
                have c1 := hP'.two.c1
                have FIN2 : MkR (fE S) (fP S) w (.returned (.tuple #[.agg #[.slice none 0 0, .slice none 0 0], .int .i64 2])) w9 := by
                  rw [(HX.out).1, (HX.out).2]
                  exact ⟨⟨_, _, rfl, Sl.nil _, Sl.nil _, New.nil _, New.nil _⟩, hP'.only.kp (Kp.trans HK1.out (HK4.out)) (Nat.le_refl _)⟩
                exact bodyPost_ret (by simp [results, Tryz.results36, go_sem, c0, c1]) rfl FIN2
        · obtain rfl : k = 1 := EK.out
          have hM := Mid.q2 HS.out HQ.out
          have HK2 := Lib.hid HOWN.out.kp
          have hg2 := hg
          have ht2 := ht
          have za := zA a rfl
          clear hown ht hg zA
          have HM := Lib.hid hM
          obtain ⟨sn, esn⟩ : ∃ sn, sn = bS a := ⟨_, rfl⟩
          obtain ⟨sd, esd⟩ : ∃ sd, sd = bS x := ⟨_, rfl⟩
          rw [← esn, ← esd] at HM
          have P1 : Hid (∀ w, Calls Tryz.prog 81 #[.string sn] w (PrR sn w)) := fun w => (rParse_any sn (by rw [esn, bS_size]; omega) w).mono fun _ _ h => h.pr
          have P2 : Hid (∀ w, Calls Tryz.prog 81 #[.string sd] w (PrR sd w)) := fun w => (rParse_any sd (by rw [esd, bS_size]; omega) w).mono fun _ _ h => h.pr
          obtain ⟨E1, hE1⟩ : ∃ E1, E1 = nE sn := ⟨_, rfl⟩
          obtain ⟨E2, hE2⟩ : ∃ E2, E2 = nE sd := ⟨_, rfl⟩
          have HE1 := Lib.hid hE1; have HE2 := Lib.hid hE2
          clear hM hE1 hE2
          have cA : wr.cell? ⟨g, 0, none⟩ = some (.string sn) := own_cell hg2 ht2 0 (by decide) _ (by rw [esn]; rfl)
          have HG2 := Lib.hid hg2; have HT2 := Lib.hid ht2; have ESD := Lib.hid esd
          clear hg2 ht2 esn esd
          go_wp2_with fail
          refine (P1.out wr).mono ?_
          intro e w3 hq
          obtain ⟨⟨v1, he, h1⟩, hk⟩ := hq
          rw [← HE1.out] at he h1
          subst he
          have H1 := Lib.hid h1; have HK3 := Lib.hid (Kp.trans HK2.out hk)
          have cB : w3.cell? ⟨g, 1, none⟩ = some (.string sd) := own_cell ((hk.block _ (lt_of_block HG2.out)).trans HG2.out) HT2.out 1 (by decide) _ (by rw [ESD.out]; rfl)
          clear h1 hk cA
          go_wp2_with fail
          refine (P2.out w3).mono ?_
          intro e w4 hq
          obtain ⟨⟨v2, he, h2⟩, hk⟩ := hq
          rw [← HE2.out] at he h2
          subst he
          have H2 := Lib.hid h2; have HK4 := Lib.hid (Kp.trans HK3.out hk); have HK34 := Lib.hid hk
          clear h2 hk cB
          by_cases e1 : E1 = 6
          · subst e1
            have hT := HB1.out.keep (HK4.out)
            have hP := Put.made hT (.slice none 0 0) (.slice none 0 0)
            obtain ⟨w9, hw9⟩ : ∃ w9, w9 = (w4.setCell ⟨w.heap.size, 0, none⟩ (.slice none 0 0)).setCell ⟨w.heap.size, 1, none⟩ (.slice none 0 0) := ⟨_, rfl⟩
            rw [← hw9] at hP
            have HW9 := Lib.hid hw9; have HP := Lib.hid hP
            have f0 := hT.free 0; have c0 := hT.c0; have f1 := (hT.set0 (.slice none 0 0)).free 1; have c1 := (hT.set0 (.slice none 0 0)).c1
            clear hT hw9 hP
            go_wp2_with fail
            have hP' := HP.out
            rw [← HW9.out]
            clear c0 c1 f0 f1
            have c0 := hP'.two.c0
            have c1 := hP'.two.c1
            have FIN2 : MkR (fE S) (fP S) w (.returned (.tuple #[.agg #[.slice none 0 0, .slice none 0 0], .int .i64 6])) w9 := by
              rw [(HM.out.six (Or.inr (Or.inl HE1.out.symm))).1, (HM.out.six (Or.inr (Or.inl HE1.out.symm))).2]
              exact ⟨⟨_, _, rfl, Sl.nil _, Sl.nil _, New.nil _, New.nil _⟩, hP'.only.kp (Kp.trans HK1.out (HK4.out)) (Nat.le_refl _)⟩
            exact bodyPost_ret (by simp [results, Tryz.results36, go_sem, c0, c1]) rfl FIN2
          · by_cases e2 : E2 = 6
            · subst e2
              have b1 : (E1 == 6) = false := beq_eq_false_iff_ne.2 e1
              clear e1
              have hT := HB1.out.keep (HK4.out)
              have hP := Put.made hT (.slice none 0 0) (.slice none 0 0)
              obtain ⟨w9, hw9⟩ : ∃ w9, w9 = (w4.setCell ⟨w.heap.size, 0, none⟩ (.slice none 0 0)).setCell ⟨w.heap.size, 1, none⟩ (.slice none 0 0) := ⟨_, rfl⟩
              rw [← hw9] at hP
              have HW9 := Lib.hid hw9; have HP := Lib.hid hP
              have f0 := hT.free 0; have c0 := hT.c0; have f1 := (hT.set0 (.slice none 0 0)).free 1; have c1 := (hT.set0 (.slice none 0 0)).c1
              clear hT hw9 hP
              go_wp2_with fail
              have hP' := HP.out
              rw [← HW9.out]
              clear c0 c1 f0 f1
              have c0 := hP'.two.c0
              have c1 := hP'.two.c1
              have FIN2 : MkR (fE S) (fP S) w (.returned (.tuple #[.agg #[.slice none 0 0, .slice none 0 0], .int .i64 6])) w9 := by
                rw [(HM.out.six (Or.inr (Or.inr HE2.out.symm))).1, (HM.out.six (Or.inr (Or.inr HE2.out.symm))).2]
                exact ⟨⟨_, _, rfl, Sl.nil _, Sl.nil _, New.nil _, New.nil _⟩, hP'.only.kp (Kp.trans HK1.out (HK4.out)) (Nat.le_refl _)⟩
              exact bodyPost_ret (by simp [results, Tryz.results36, go_sem, c0, c1]) rfl FIN2
            · have b1 : (E1 == 6) = false := beq_eq_false_iff_ne.2 e1
              have b2 : (E2 == 6) = false := beq_eq_false_iff_ne.2 e2
              by_cases z1 : E1 = 0
              · subst z1
                by_cases z2 : E2 = 0
                · subst z2
                  clear b1 b2 e1 e2
                  obtain ⟨s1, L1⟩ := H1.out rfl
                  obtain ⟨s2, L2⟩ := H2.out rfl
                  have S1 := Lib.hid (s1.keep HK34.out); have S2 := Lib.hid s2; have HL1 := Lib.hid L1; have HL2 := Lib.hid L2
                  obtain ⟨a2, c2, rfl, -⟩ := s2.ex
                  clear s1 s2 L1 L2
                  obtain ⟨l2, el2⟩ : ∃ l2, l2 = (limbs (pv sd sd.size)).length := ⟨_, rfl⟩
                  rw [← el2] at S2 ⊢
                  by_cases d0 : pv sd sd.size = 0
                  · have h0 : ((l2 : Int) == 0) = true := by rw [el2, d0]; rfl
                    have HX := Lib.hid (HM.out.zero rfl HE1.out.symm HE2.out.symm d0)
                    clear d0 el2
                    have hT := HB1.out.keep (HK4.out)
                    have hP := Put.made hT (.slice none 0 0) (.slice none 0 0)
                    obtain ⟨w9, hw9⟩ : ∃ w9, w9 = (w4.setCell ⟨w.heap.size, 0, none⟩ (.slice none 0 0)).setCell ⟨w.heap.size, 1, none⟩ (.slice none 0 0) := ⟨_, rfl⟩
                    rw [← hw9] at hP
                    have HW9 := Lib.hid hw9; have HP := Lib.hid hP
                    have f0 := hT.free 0; have c0 := hT.c0; have f1 := (hT.set0 (.slice none 0 0)).free 1; have c1 := (hT.set0 (.slice none 0 0)).c1
                    clear hT hw9 hP
                    go_wp2_with fail
                    have hP' := HP.out
                    rw [← HW9.out]
                    clear c0 c1 f0 f1
                    have c0 := hP'.two.c0
                    have c1 := hP'.two.c1
                    have FIN2 : MkR (fE S) (fP S) w (.returned (.tuple #[.agg #[.slice none 0 0, .slice none 0 0], .int .i64 4])) w9 := by
                      rw [(HX.out).1, (HX.out).2]
                      exact ⟨⟨_, _, rfl, Sl.nil _, Sl.nil _, New.nil _, New.nil _⟩, hP'.only.kp (Kp.trans HK1.out (HK4.out)) (Nat.le_refl _)⟩
                    exact bodyPost_ret (by simp [results, Tryz.results36, go_sem, c0, c1]) rfl FIN2
                  · have hl2 := limbs_len_pos.2 d0
                    have h0 : ((l2 : Int) == 0) = false := beq_eq_false_iff_ne.2 (by omega)
                    have HX := Lib.hid (HM.out.ok rfl HE1.out.symm HE2.out.symm d0)
                    have LOW := Lib.hid (lowest_n S1.out S2.out (Nat.le_trans HL1.out (by decide)) (Nat.le_trans HL2.out (by decide)) d0)
                    clear d0 el2 hl2
                    go_wp2_with fail
                    refine LOW.out.mono ?_
                    intro e w6 hq
                    obtain ⟨⟨u1, u2, rfl, h1, h2, n1, n2⟩, hk⟩ := hq
                    obtain ⟨no, nl, nc, rfl⟩ := h1.open3
                    obtain ⟨zo, zc', zc, rfl⟩ := h2.open3
                    have hT := HB1.out.keep (Kp.trans HK4.out hk)
                    have hP := Put.made hT (.slice no nl nc) (.slice zo zc' zc)
                    have f0 := hT.free 0; have c0 := hT.c0; have f1 := (hT.set0 (.slice no nl nc)).free 1; have c1 := (hT.set0 (.slice no nl nc)).c1
                    obtain ⟨wz, hwz⟩ : ∃ wz, wz = (w6.setCell ⟨w.heap.size, 0, none⟩ (.slice no nl nc)).setCell ⟨w.heap.size, 1, none⟩ (.slice zo zc' zc) := ⟨_, rfl⟩
                    rw [← hwz] at hP
                    have hlt := Nat.lt_of_lt_of_le hz1 HK4.out.size
                    have o1 := h1.only hP.only (n1.offs hlt _)
                    have o2 := h2.only hP.only (n2.offs hlt _)
                    have FIN : MkR (fE S) (fP S) w (.returned (.tuple #[.agg #[.slice no nl nc, .slice zo zc' zc], .int .i64 0])) wz := by
                      rw [HX.out.1, HX.out.2]
                      exact ⟨⟨_, _, rfl, o1, o2, n1.mono (Nat.le_of_lt hlt), n2.mono (Nat.le_of_lt hlt)⟩, hP.only.kp (Kp.trans HK1.out (Kp.trans HK4.out hk)) (Nat.le_refl _)⟩
                    have HF := Lib.hid FIN; have HP := Lib.hid hP; have HWZ := Lib.hid hwz
                    clear FIN hP hwz o1 o2 hT h1 h2 n1 n2 hk hlt
                    go_wp2_with fail
                    rw [← HWZ.out]
                    clear c0 c1 f0 f1
                    have c0 := HP.out.two.c0
                    have c1 := HP.out.two.c1
                    exact bodyPost_ret (by simp [results, Tryz.results36, go_sem, c0, c1]) rfl HF.out
                · have b3 : (E2 == 0) = false := beq_eq_false_iff_ne.2 z2
                  have HX := Lib.hid (HM.out.two rfl (by rw [← HE1.out]; exact e1) (by rw [← HE2.out]; exact e2) (Or.inr (by rw [← HE2.out]; exact z2)))
                  clear e1 e2 z2 b1
                  have hT := HB1.out.keep (HK4.out)
                  have hP := Put.made hT (.slice none 0 0) (.slice none 0 0)
                  obtain ⟨w9, hw9⟩ : ∃ w9, w9 = (w4.setCell ⟨w.heap.size, 0, none⟩ (.slice none 0 0)).setCell ⟨w.heap.size, 1, none⟩ (.slice none 0 0) := ⟨_, rfl⟩
                  rw [← hw9] at hP
                  have HW9 := Lib.hid hw9; have HP := Lib.hid hP
                  have f0 := hT.free 0; have c0 := hT.c0; have f1 := (hT.set0 (.slice none 0 0)).free 1; have c1 := (hT.set0 (.slice none 0 0)).c1
                  clear hT hw9 hP
                  go_wp2_with fail
                  have hP' := HP.out
                  rw [← HW9.out]
                  clear c0 c1 f0 f1
                  have c0 := hP'.two.c0
                  have c1 := hP'.two.c1
                  have FIN2 : MkR (fE S) (fP S) w (.returned (.tuple #[.agg #[.slice none 0 0, .slice none 0 0], .int .i64 2])) w9 := by
                    rw [(HX.out).1, (HX.out).2]
                    exact ⟨⟨_, _, rfl, Sl.nil _, Sl.nil _, New.nil _, New.nil _⟩, hP'.only.kp (Kp.trans HK1.out (HK4.out)) (Nat.le_refl _)⟩
                  exact bodyPost_ret (by simp [results, Tryz.results36, go_sem, c0, c1]) rfl FIN2
              · have b3 : (E1 == 0) = false := beq_eq_false_iff_ne.2 z1
                have HX := Lib.hid (HM.out.two rfl (by rw [← HE1.out]; exact e1) (by rw [← HE2.out]; exact e2) (Or.inl (by rw [← HE1.out]; exact z1)))
                clear e1 e2 z1
                have hT := HB1.out.keep (HK4.out)
                have hP := Put.made hT (.slice none 0 0) (.slice none 0 0)
                obtain ⟨w9, hw9⟩ : ∃ w9, w9 = (w4.setCell ⟨w.heap.size, 0, none⟩ (.slice none 0 0)).setCell ⟨w.heap.size, 1, none⟩ (.slice none 0 0) := ⟨_, rfl⟩
                rw [← hw9] at hP
                have HW9 := Lib.hid hw9; have HP := Lib.hid hP
                have f0 := hT.free 0; have c0 := hT.c0; have f1 := (hT.set0 (.slice none 0 0)).free 1; have c1 := (hT.set0 (.slice none 0 0)).c1
                clear hT hw9 hP
                go_wp2_with fail
                have hP' := HP.out
                rw [← HW9.out]
                clear c0 c1 f0 f1
                have c0 := hP'.two.c0
                have c1 := hP'.two.c1
                have FIN2 : MkR (fE S) (fP S) w (.returned (.tuple #[.agg #[.slice none 0 0, .slice none 0 0], .int .i64 2])) w9 := by
                  rw [(HX.out).1, (HX.out).2]
                  exact ⟨⟨_, _, rfl, Sl.nil _, Sl.nil _, New.nil _, New.nil _⟩, hP'.only.kp (Kp.trans HK1.out (HK4.out)) (Nat.le_refl _)⟩
                exact bodyPost_ret (by simp [results, Tryz.results36, go_sem, c0, c1]) rfl FIN2
        · have h2k : 2 < ((k + 1 : Nat) : Int) := by rw [EK.out]; simp; omega
          have HX := Lib.hid (fE_more HS.out (by rw [HQ.out]; simp))
          clear hown ht hg zA
          have hT := HB1.out.keep (HOWN.out.kp)
          have hP := Put.made hT (.slice none 0 0) (.slice none 0 0)
          obtain ⟨w9, hw9⟩ : ∃ w9, w9 = (wr.setCell ⟨w.heap.size, 0, none⟩ (.slice none 0 0)).setCell ⟨w.heap.size, 1, none⟩ (.slice none 0 0) := ⟨_, rfl⟩
          rw [← hw9] at hP
          have HW9 := Lib.hid hw9; have HP := Lib.hid hP
          have f0 := hT.free 0; have c0 := hT.c0; have f1 := (hT.set0 (.slice none 0 0)).free 1; have c1 := (hT.set0 (.slice none 0 0)).c1
          clear hT hw9 hP
          go_wp2_with fail
          have hP' := HP.out
          rw [← HW9.out]
          clear c0 c1 f0 f1
          have c0 := hP'.two.c0
          have c1 := hP'.two.c1
          have FIN2 : MkR (fE S) (fP S) w (.returned (.tuple #[.agg #[.slice none 0 0, .slice none 0 0], .int .i64 6])) w9 := by
            rw [(HX.out).1, (HX.out).2]
            exact ⟨⟨_, _, rfl, Sl.nil _, Sl.nil _, New.nil _, New.nil _⟩, hP'.only.kp (Kp.trans HK1.out (HOWN.out.kp)) (Nat.le_refl _)⟩
          exact bodyPost_ret (by simp [results, Tryz.results36, go_sem, c0, c1]) rfl FIN2
end Go.Proofs.YtgpochhndjadhaaGreatDoor
