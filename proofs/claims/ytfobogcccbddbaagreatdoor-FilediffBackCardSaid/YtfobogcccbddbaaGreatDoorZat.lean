/- The first tests of the program's Apply. Conditions: at most 200 changes; a package variable of the library holds some integer. -/
import Derived.Test.YtfobogcccbddbaaGreatDoorZas
import Derived.Test.YtfobogcccbddbaaGreatDoorZaf
import Derived.Test.YtfobogcccbddbaaGreatDoorFdTm
import Derived.Test.YtfobogcccbddbaaGreatDoorZar
namespace Go.Proofs.YtfobogcccbddbaaGreatDoor
namespace By
open Go.RowKit WireN LexN RevN FdN CtN
set_option linter.unusedVariables false
set_option linter.unusedSimpArgs false

theorem tw_len {w : World} {v : Value} {ts : List Tx} (h : Tw w v ts) : ∃ ao cap, v = .slice ao ts.length cap ∧ ts.length ≤ cap := by
  obtain ⟨ao, cap, h1, h2, -, -⟩ := h.open3
  exact ⟨ao, cap, h1, h2⟩
theorem take_not {ts : List (List Nat)} {k : Nat} {p : List Nat} (hn : ts.Nodup) (h : ts[k]? = some p) : p ∉ ts.take k := by
  have h1 : (ts.take (k + 1)).Nodup := List.Pairwise.sublist (List.take_sublist _ _) hn
  exact ((nodup_snoc h).1 h1).2
theorem take_cons {ts : List (List Nat)} {k : Nat} {p : List Nat} (h : ts[k]? = some p) : ts.take (k + 1) = ts.take k ++ [p] := by rw [List.take_add_one, h]; rfl
set_option maxRecDepth 100000 in
set_option maxHeartbeats 16000000 in
theorem check15_any {w : World} {va vl : Value} {a : List Fl} {l : List Ch} (hmx : MX w) (ha : Rw w va a) (hl : Cw w vl l) (hll : l.length ≤ 200) :
    Calls Tryz.prog 38 #[.agg #[va], vl] w fun e w' => (∃ c : Nat, e = .returned (.int .i64 (c : Nat)) ∧ CkE a l c) ∧ Kp w w' := by
  obtain ⟨Q, hQ⟩ : ∃ Q : Ending → World → Prop, Q = fun e w' => (∃ c : Nat, e = .returned (.int .i64 (c : Nat)) ∧ CkE a l c) ∧ Kp w w' := ⟨_, rfl⟩
  rw [← hQ]
  have FIN : Hid (∀ (c : Nat) (w' : World), CkE a l c → Kp w w' → Q (.returned (.int .i64 (c : Nat))) w') := Lib.hid (by
    intro c w' h1 h2
    rw [hQ]
    exact ⟨⟨c, rfl, h1⟩, h2⟩)
  obtain ⟨W, hW⟩ : ∃ W, W = w.alloc (.cells #[va] 25) := ⟨_, rfl⟩
  obtain ⟨p0, hp0⟩ : ∃ b, b = w.heap.size := ⟨_, rfl⟩
  have hk0 : Kp w W := by rw [hW]; exact kp_alloc _ _
  have b0 : Blk W p0 25 #[va] := by rw [hW, hp0]; exact Blk.new _ _ _
  have HA := Lib.hid (ha.keep hk0); have HL := Lib.hid (hl.keep hk0)
  obtain ⟨E1, hE1⟩ : ∃ E, E = chk a := ⟨_, rfl⟩
  have HCA := Lib.hid (Check_any HA.out (hmx.keep hk0))
  rw [← hE1] at HCA
  have HCF : Hid (∀ Wx, Kp W Wx → Calls Tryz.prog 66 #[vl, .func (.func 67) #[] #[]] Wx fun e w' => e = .returned (.bool (l.any fun x => !wel x)) ∧ Kp Wx w') := Lib.hid (fun Wx hk => ContainsFunc_w (HL.out.keep hk) (by omega))
  have HTK : Hid (∀ Wx, Kp W Wx → Calls Tryz.prog 39 #[vl] Wx fun e w' => ∃ u, e = .returned u ∧ OwT Wx w' u (tkL l)) := Lib.hid (fun Wx hk => taken_any (HL.out.keep hk) (by omega))
  have HPL : Hid (∀ Wx, Kp W Wx → Calls Tryz.prog 68 #[vl] Wx fun e w' => ∃ u, e = .returned u ∧ OwT Wx w' u (ptL l)) := Lib.hid (fun Wx hk => placed_any (HL.out.keep hk) (by omega))
  have HTL : Hid ((tkL l).length ≤ 200 ∧ (ptL l).length ≤ 200) := Lib.hid ⟨by have := tkL_len l; omega, by have := ptL_len l; omega⟩
  have HE1 := Lib.hid hE1; have HW := Lib.hid hW; have HP0 := Lib.hid hp0; have HK := Lib.hid hk0; have HB0 := Lib.hid b0
  obtain ⟨ao, ac, rfl, hac, -, -⟩ := ha.open3
  obtain ⟨lo, lc, rfl, hlc, -, -⟩ := hl.open3
  obtain ⟨n, hn⟩ : ∃ n, n = a.length := ⟨_, rfl⟩
  obtain ⟨m, hm⟩ : ∃ m, m = l.length := ⟨_, rfl⟩
  rw [← hn] at HW HB0 b0 HA HCA ⊢
  rw [← hm] at HL HCF HTK HPL ⊢
  have c0 := b0.cell 0 rfl
  obtain ⟨cw, hcw⟩ : ∃ c, c = l.any (fun x => !wel x) := ⟨_, rfl⟩
  rw [← hcw] at HCF
  have HCW := Lib.hid hcw
  rw [hW, hp0] at c0
  clear ha hl hmx hk0 b0 hE1 hW hp0 hac hlc hn hm hQ hcw hll
  by_cases he1 : E1 = 0
  · have q1 : ((E1 : Int) != 0) = false := by simp [he1]
    have HZ1 : Hid (chk a = 0) := Lib.hid (HE1.out ▸ he1)
    clear he1
    cases cw with
    | true =>
      have HBAD : Hid (CkE a l 1) := Lib.hid (by
        obtain ⟨x, hx, hwx⟩ := List.any_eq_true.1 HCW.out.symm
        exact .wrong x HZ1.out hx (by simpa using hwx))
      go_enter Tryz.func38, Tryz.ntmps38
      go_wp2_with fail
      rw [← HP0.out, ← HW.out]
      refine HCA.out.mono ?_
      rintro e w1 ⟨rfl, hk1⟩
      have HK1 := Lib.hid hk1
      clear hk1 c0
      go_wp2_with fail
      refine (HCF.out _ HK1.out).mono ?_
      rintro e w2 ⟨rfl, hk2⟩
      have HK2 := Lib.hid (HK1.out.trans hk2)
      clear hk2
      go_wp2_with fail
      exact FIN.out 1 _ HBAD.out (HK.out.trans HK2.out)
    | false =>
      have HWE : Hid (∀ x ∈ l, wel x = true) := Lib.hid (fun x hx => by
        have := List.any_eq_false.1 HCW.out.symm x hx
        simpa using this)
      go_enter Tryz.func38, Tryz.ntmps38
      go_wp2_with fail
      rw [← HP0.out, ← HW.out]
      refine HCA.out.mono ?_
      rintro e w1 ⟨rfl, hk1⟩
      have HK1 := Lib.hid hk1
      clear hk1 c0
      go_wp2_with fail
      refine (HCF.out _ HK1.out).mono ?_
      rintro e w2 ⟨rfl, hk2⟩
      have HK2 := Lib.hid (HK1.out.trans hk2)
      clear hk2
      go_wp2_with fail
      refine (HTK.out _ HK2.out).mono ?_
      rintro e w3 ⟨u3, rfl, ho3⟩
      have HK3 := Lib.hid (HK2.out.trans ho3.kp)
      have HO3 := Lib.hid ho3.tw
      clear ho3
      go_wp2_with fail
      refine (HPL.out _ HK3.out).mono ?_
      rintro e w4 ⟨u4, rfl, ho4⟩
      have HK4 := Lib.hid (HK3.out.trans ho4.kp)
      have HO4 := Lib.hid ho4.tw
      have HO3b := Lib.hid (HO3.out.keep ho4.kp)
      clear ho4
      obtain ⟨a3, c3, hu3, hc3⟩ := tw_len HO3b.out
      obtain ⟨a4, c4, hu4, hc4⟩ := tw_len HO4.out
      subst hu3 hu4
      obtain ⟨N3, hN3⟩ : ∃ x, x = (tkL l).length := ⟨_, rfl⟩
      obtain ⟨N4, hN4⟩ : ∃ x, x = (ptL l).length := ⟨_, rfl⟩
      rw [← hN3] at hc3 HO3b HO3
      rw [← hN4] at hc4 HO4
      have HN3 := Lib.hid hN3; have HN4 := Lib.hid hN4
      have i3 : (N3 : Int) ≤ (c3 : Int) := by omega
      have i4 : (N4 : Int) ≤ (c4 : Int) := by omega
      have i5 : (N3 : Int) ≤ 200 := by have := HTL.out.1; omega
      have i6 : (N4 : Int) ≤ 200 := by have := HTL.out.2; omega
      have HH3 := Lib.hid (hasTwice_any HO3b.out (by have := HTL.out.1; omega))
      have HH4 : Hid (∀ Wx, Kp w4 Wx → Calls Tryz.prog 69 #[.slice a4 N4 c4] Wx fun e w' => (∃ c, e = .returned (.bool c) ∧ (c = true ↔ ¬ (ptL l).Nodup)) ∧ Kp Wx w') := Lib.hid (fun Wx hk => hasTwice_any (HO4.out.keep hk) (by have := HTL.out.2; omega))
      rw [← hN3, ← hN4]
      clear hc3 hc4 hN3 hN4
      go_wp2_with fail
      refine HH3.out.mono ?_
      rintro e w5 ⟨⟨d3, rfl, hd3⟩, hk5⟩
      have HK5 := Lib.hid hk5
      clear hk5
      cases d3 with
      | true =>
        have HBAD : Hid (CkE a l 10) := Lib.hid (.twice HZ1.out HWE.out (fun h => hd3.1 rfl ((noTw_iff l).1 h).1))
        clear hd3
        go_wp2_with fail
        exact FIN.out 10 _ HBAD.out ((HK.out.trans HK4.out).trans HK5.out)
      | false =>
        have HND : Hid ((tkL l).Nodup) := Lib.hid (by
          refine Decidable.byContradiction fun h => ?_
          exact absurd (hd3.2 h) (by simp))
        clear hd3
        go_wp2_with fail
        refine (HH4.out _ HK5.out).mono ?_
        rintro e w6 ⟨⟨d4, rfl, hd4⟩, hk6⟩
        have HK6 := Lib.hid (HK5.out.trans hk6)
        clear hk6
        cases d4 with
        | true =>
          have HBAD : Hid (CkE a l 10) := Lib.hid (.twice HZ1.out HWE.out (fun h => hd4.1 rfl ((noTw_iff l).1 h).2))
          clear hd4
          go_wp2_with fail
          exact FIN.out 10 _ HBAD.out ((HK.out.trans HK4.out).trans HK6.out)
        | false =>
          have HNP : Hid ((ptL l).Nodup) := Lib.hid (by
            refine Decidable.byContradiction fun h => ?_
            exact absurd (hd4.2 h) (by simp))
          have HNT : Hid (noTw l) := Lib.hid ((noTw_iff l).2 ⟨HND.out, HNP.out⟩)
          clear hd4
          have HTB := Lib.hid (table_any (HA.out.keep (HK4.out.trans HK6.out)) (by have := (chk_ok HZ1.out).1; omega))
          have cb := (HB0.out.keep (HK4.out.trans HK6.out)).cell 0 rfl
          go_wp2_with fail
          refine HTB.out.mono ?_
          rintro e w7 ⟨mb, rfl, hmb, htm, hk7⟩
          rw [fmA_ok HZ1.out] at htm
          have HK7 := Lib.hid (HK6.out.trans hk7)
          have HMB : Hid (w.heap.size ≤ mb ∧ w4.heap.size ≤ mb) := Lib.hid ⟨by have h1 := HK.out.size; have h2 := HK4.out.size; have h3 := HK6.out.size; omega, by have h3 := HK6.out.size; omega⟩
          obtain ⟨nn, hnn⟩ : ∃ x, x = a.length := ⟨_, rfl⟩
          rw [← hnn] at htm
          have HT7 : Hid (TM w7 mb nn (fmT (fm0 a) ((tkL l).take 0))) := Lib.hid (by
            have e : fmT (fm0 a) ((tkL l).take 0) = fm0 a := by funext q; simp [fmT]
            rw [e]
            exact htm)
          clear hk7 htm hmb cb hnn
          go_wp2_with fail
          go_loopw [37] (fun iv wy => ∃ (k : Nat), k ≤ N3 ∧ iv = .int .i64 k ∧ Kp w4 wy ∧ Hid (TM wy mb nn (fmT (fm0 a) ((tkL l).take k))) ∧ Hid (∀ q ∈ (tkL l).take k, hasP a q = true)) (fun iv _ => N3 - (intOf iv).toNat)
          case atStart => exact ⟨0, Nat.zero_le _, rfl, HK7.out, HT7, Lib.hid (by simp)⟩
          case round =>
            obtain ⟨k, hk, rfl, hkp, HTM, HAL⟩ := hrel
            have HKP := Lib.hid hkp
            clear hkp
            rename World => wy
            by_cases hil : k < N3
            · obtain ⟨p, hp⟩ : ∃ p, (tkL l)[k]? = some p := ⟨_, List.getElem?_eq_getElem (by have := HN3.out; omega)⟩
              obtain ⟨g, o, rfl, hcell⟩ := (HO3b.out.keep HKP.out).cell (by omega)
              have d0 := hcell k p hp
              have hpo := HO3b.out.ok p (List.mem_of_getElem? hp)
              have j1 : (k : Int) < (N3 : Int) := by omega
              have HPO : Hid (Lt p ∧ p.length ≤ maxLen) := Lib.hid ⟨hpo.1, by have := hpo.2; unfold maxLen; omega⟩
              have hval : fmT (fm0 a) ((tkL l).take k) p = fm0 a p := if_neg (take_not HND.out hp)
              have q0 := HTM.out.get2 HPO.out.1 HPO.out.2
              rw [hval, fm0_is] at q0
              obtain ⟨P, hP⟩ : ∃ S, S = st p := ⟨_, rfl⟩
              obtain ⟨Z, hZ⟩ : ∃ S, S = st ((fm0 a p).getD []) := ⟨_, rfl⟩
              obtain ⟨c, hc⟩ : ∃ c, c = hasP a p := ⟨_, rfl⟩
              rw [← hP, ← hZ, ← hc] at q0
              rw [← hP] at d0
              have HPM := Lib.hid hp; have HCC := Lib.hid hc; have HPP := Lib.hid hP
              clear hcell hp hpo hval hP hZ hc
              cases c with
              | false =>
                have HBAD : Hid (CkE a l 18) := Lib.hid (.unknown p HZ1.out HWE.out HNT.out (List.mem_of_getElem? HPM.out) HCC.out.symm)
                go_wp2_with fail
                exact FIN.out 18 _ HBAD.out ((HK.out.trans HK4.out).trans HKP.out)
              | true =>
                have HAX : Hid (∀ q ∈ (tkL l).take (k + 1), hasP a q = true) := Lib.hid (by
                  rw [take_cons HPM.out]
                  intro q hq
                  rcases List.mem_append.1 hq with hq | hq
                  · exact HAL.out q hq
                  · obtain rfl : q = p := by simpa using hq
                    exact HCC.out.symm)
                go_wp2_with (at_delete; refine wpList_tmdel rfl (.tmp 49) (.tmp 50) rfl rfl HTM.out p HPO.out.1 HPO.out.2 (by rw [← HPP.out]; rfl) ?_)
                intro w8 ht8 hg8
                have HT8 : Hid (TM w8 mb nn (fmT (fm0 a) ((tkL l).take (k + 1)))) := Lib.hid (by
                  rw [take_cons HPM.out, ← fmT_snoc]
                  exact ht8)
                have HK8 : Hid (Kp w4 w8) := Lib.hid (grown_kpm HKP.out hg8 HMB.out.2)
                clear ht8 hg8 q0 d0
                go_wp2_with fail
                go_roundw
                case rel => exact ⟨k + 1, by omega, vint (by omega), HK8.out, HT8, HAX⟩
                case measure => simp [intOf]; omega
            · have HF : Hid (TM wy mb nn (fmT (fm0 a) (tkL l)) ∧ ∀ q ∈ tkL l, hasP a q = true) := Lib.hid (by
                have h := HTM.out; have h2 := HAL.out
                obtain rfl : k = N3 := by omega
                rw [List.take_of_length_le (by have := HN3.out; omega)] at h h2
                exact ⟨h, h2⟩)
              clear HT7 HTM HAL
              go_wp2_with fail
              go_loopw [54] (fun iv wz => ∃ (j : Nat), j ≤ N4 ∧ iv = .int .i64 j ∧ Kp wy wz ∧ Hid (∀ q ∈ (ptL l).take j, ¬ has (left a l) q)) (fun iv _ => N4 - (intOf iv).toNat)
              case atStart => exact ⟨0, Nat.zero_le _, rfl, Kp.refl _, Lib.hid (by simp)⟩
              case round =>
                obtain ⟨j, hj, rfl, hkq, HAL⟩ := hrel
                have HKQ := Lib.hid hkq
                clear hkq
                rename World => wz
                by_cases hjl : j < N4
                · obtain ⟨p, hp⟩ : ∃ p, (ptL l)[j]? = some p := ⟨_, List.getElem?_eq_getElem (by have := HN4.out; omega)⟩
                  obtain ⟨g, o, rfl, hcell⟩ := (HO4.out.keep (HKP.out.trans HKQ.out)).cell (by omega)
                  have d0 := hcell j p hp
                  have hpo := HO4.out.ok p (List.mem_of_getElem? hp)
                  have j2 : (j : Int) < (N4 : Int) := by omega
                  have HPO : Hid (Lt p ∧ p.length ≤ maxLen) := Lib.hid ⟨hpo.1, by have := hpo.2; unfold maxLen; omega⟩
                  have q0 := (HF.out.1.keep HKQ.out).get2 HPO.out.1 HPO.out.2
                  obtain ⟨P, hP⟩ : ∃ S, S = st p := ⟨_, rfl⟩
                  obtain ⟨Z, hZ⟩ : ∃ S, S = st ((fmT (fm0 a) (tkL l) p).getD []) := ⟨_, rfl⟩
                  obtain ⟨c, hc⟩ : ∃ c, c = (fmT (fm0 a) (tkL l) p).isSome := ⟨_, rfl⟩
                  rw [← hP, ← hZ, ← hc] at q0
                  rw [← hP] at d0
                  have HPM := Lib.hid hp; have HCC := Lib.hid hc
                  clear hcell hp hpo hP hZ hc
                  cases c with
                  | true =>
                    have HBAD : Hid (CkE a l 19) := Lib.hid (.there p HZ1.out HWE.out HNT.out HF.out.2 (List.mem_of_getElem? HPM.out) ((fmT_is HZ1.out).1 HCC.out.symm))
                    go_wp2_with fail
                    exact FIN.out 19 _ HBAD.out (((HK.out.trans HK4.out).trans HKP.out).trans HKQ.out)
                  | false =>
                    have HAX : Hid (∀ q ∈ (ptL l).take (j + 1), ¬ has (left a l) q) := Lib.hid (by
                      rw [take_cons HPM.out]
                      intro q hq
                      rcases List.mem_append.1 hq with hq | hq
                      · exact HAL.out q hq
                      · obtain rfl : q = p := by simpa using hq
                        intro hh
                        have := (fmT_is HZ1.out).2 hh
                        rw [← HCC.out] at this
                        cases this)
                    go_wp2_with fail
                    go_roundw
                    case rel => exact ⟨j + 1, by omega, vint (by omega), HKQ.out, HAX⟩
                    case measure => simp [intOf]; omega
                · have HOK : Hid (CkE a l 0) := Lib.hid (by
                    have h2 := HAL.out
                    obtain rfl : j = N4 := by omega
                    rw [List.take_of_length_le (by have := HN4.out; omega)] at h2
                    exact .ok HZ1.out HWE.out HNT.out HF.out.2 h2)
                  go_wp2_with fail
                  exact FIN.out 0 _ HOK.out (((HK.out.trans HK4.out).trans HKP.out).trans HKQ.out)
  · have q1 : ((E1 : Int) != 0) = true := by simpa using he1
    have HBAD : Hid (CkE a l 1) := Lib.hid (.bad (by rw [← HE1.out]; exact he1))
    clear he1
    go_enter Tryz.func38, Tryz.ntmps38
    go_wp2_with fail
    rw [← HP0.out, ← HW.out]
    refine HCA.out.mono ?_
    rintro e w1 ⟨rfl, hk1⟩
    have HK1 := Lib.hid hk1
    clear hk1 c0
    go_wp2_with fail
    exact FIN.out 1 _ HBAD.out (HK.out.trans HK1.out)
end By
end Go.Proofs.YtfobogcccbddbaaGreatDoor

/- The program's Apply and Invert. Conditions: at most 200 changes; a package variable of the library holds some integer. -/
namespace Go.Proofs.YtfobogcccbddbaaGreatDoor
namespace By
open Go.RowKit WireN LexN RevN FdN CtN
set_option linter.unusedVariables false
set_option linter.unusedSimpArgs false

/-- A store to a table. -/
theorem TM.put {w : World} {b n : Nat} {M : FM} (h : TM w b n M) (hn : n ≤ 1000000) {k : List Nat} (hk : Lt k) (hl : k.length ≤ maxLen) (y : List Nat) :
    ∃ w', (Instr.mapUpdate 58 (.map (some b)) (.string (st k)) (.string (st y))).run Tryz.prog w = .ok () w' ∧ TM w' b (n + 1) (fmP M k y) ∧ w.grownBy w' (some b) := by
  obtain ⟨sz, h⟩ := h
  obtain ⟨w', hr, h1, h2⟩ := h.put hn underSS hk hl (.string (st y))
  rw [tmv_put] at h1
  exact ⟨w', hr, ⟨_, h1⟩, h2⟩
theorem fmW_some {a : List Fl} {l : List Ch} (ha : chk a = 0) (hla : ∀ f ∈ a, Lt f.1 ∧ Lt f.2) (hl : ∀ x ∈ l, ChOk x) : ∀ (L : List Ch), (∀ x ∈ L, x ∈ l) → ∀ (m : FM), (∀ p y, m p = some y → Lt p ∧ p.length ≤ 140737488355328 ∧ Lt y ∧ y.length ≤ 140737488355328) →
    ∀ p y, fmW a m L p = some y → Lt p ∧ p.length ≤ 140737488355328 ∧ Lt y ∧ y.length ≤ 140737488355328
  | [], _, m, hm, p, y, h => hm p y h
  | x :: L, hL, m, hm, p, y, h => by
    refine fmW_some ha hla hl L (fun z hz => hL z (List.mem_cons_of_mem _ hz)) (if pts x = true then fmP m x.2.1 (putB a x) else m) (fun q z hq => ?_) p y h
    split at hq
    · unfold fmP at hq
      split at hq
      · rename_i e
        injection hq with hq
        subst hq
        obtain ⟨-, ⟨h1, h2, h3⟩, h4, h5, h6⟩ := hl x (hL x List.mem_cons_self)
        refine ⟨by rw [e]; exact h1, by rw [e]; exact h4, ?_⟩
        unfold putB
        split
        · rw [← fm0_find ha]
          cases hc : fm0 a x.2.2.1 with
          | none => exact ⟨Lt.nil, by simp⟩
          | some z =>
            have hmem := (fm0_some ha).1 hc
            exact ⟨(hla _ hmem).2, (sm2 ha hmem).2⟩
        · exact ⟨h3, h6⟩
      · exact hm q z hq
    · exact hm q z hq
theorem fmT_any {a : List Fl} {ps : List (List Nat)} (ha : chk a = 0) (hla : ∀ f ∈ a, Lt f.1 ∧ Lt f.2) : ∀ p y, fmT (fm0 a) ps p = some y → Lt p ∧ p.length ≤ 140737488355328 ∧ Lt y ∧ y.length ≤ 140737488355328 := by
  intro p y h
  unfold fmT at h
  split at h
  · cases h
  · have hmem := (fm0_some ha).1 h
    exact ⟨(hla _ hmem).1, (sm2 ha hmem).1, (hla _ hmem).2, (sm2 ha hmem).2⟩
set_option maxRecDepth 100000 in
set_option maxHeartbeats 16000000 in
theorem apply_any : ApplyC := by
  intro w va vl a l hmx ha hl hll
  obtain ⟨Q, hQ⟩ : ∃ Q, Q = RevR w (aplA a l) := ⟨_, rfl⟩
  rw [← hQ]
  have HQ := Lib.hid hQ
  obtain ⟨W0, hW0⟩ : ∃ W, W = (w.alloc (.cells #[va] 25)).alloc (.cells #[.slice none 0 0] 25) := ⟨_, rfl⟩
  obtain ⟨pr, hpr⟩ : ∃ b, b = w.heap.size := ⟨_, rfl⟩
  obtain ⟨po, hpo⟩ : ∃ b, b = w.heap.size + 1 := ⟨_, rfl⟩
  have hk0 : Kp w W0 := by rw [hW0]; exact Kp.alloc (kp_alloc _ _) _
  have b1 : Blk W0 pr 25 #[va] := by rw [hW0, hpr]; exact (Blk.new _ _ _).keep (kp_alloc _ _)
  have b2 : Blk W0 po 25 #[.slice none 0 0] := by
    have := Blk.new (w.alloc (.cells #[va] 25)) 25 #[.slice none 0 0]
    rw [hW0, hpo]
    simpa using this
  have HPS : Hid (w.heap.size ≤ po ∧ po < W0.heap.size) := Lib.hid ⟨by omega, b2.lt⟩
  have HA := Lib.hid (ha.keep hk0); have HL := Lib.hid (hl.keep hk0); have HMX := Lib.hid (hmx.keep hk0)
  have HB1 := Lib.hid b1; have HB2 := Lib.hid b2; have HK0 := Lib.hid hk0
  have HLL := Lib.hid hll
  have HCK := Lib.hid (check15_any HMX.out HA.out HL.out hll)
  obtain ⟨aa, ca, rfl, hca, -, -⟩ := ha.open3
  obtain ⟨lo, lc, rfl, hlc, -, -⟩ := hl.open3
  obtain ⟨m, hm⟩ : ∃ m, m = a.length := ⟨_, rfl⟩
  obtain ⟨n, hn⟩ : ∃ n, n = l.length := ⟨_, rfl⟩
  rw [← hm] at hW0 HB1 b1 HA HCK ⊢
  rw [← hn] at HL HCK hlc hll ⊢
  have i1 : (n : Int) ≤ (200 : Int) := by omega
  have i2 : (n : Int) ≤ (lc : Int) := by omega
  have c0 := b1.cell 0 rfl
  have FINE : Hid (∀ (c : Nat) (t : Act) (X X2 : World), X2 = X.setCell ⟨po, 0, none⟩ (.slice none 0 0) → t.defers = [] → t.tmps.getD 4 undef = .pointer (some ⟨po, 0, none⟩) → t.tmps.getD 5 undef = .int .i64 (c : Nat) → Kp W0 X → aplA a l = (c, []) → bodyPost Tryz.prog Tryz.f15 Q .ret t X2) := Lib.hid (by
    intro c t X X2 hx h1 h2 h3 hk he
    rw [(HB2.out.keep hk).self rfl] at hx
    subst hx
    have e0 := (HB2.out.keep hk).cell 0 rfl
    have h2' : t.tmps[4]?.getD undef = .pointer (some ⟨po, 0, none⟩) := by simpa using h2
    have h3' : t.tmps[5]?.getD undef = .int .i64 (c : Nat) := by simpa using h3
    refine bodyPost_ret (v := .tuple #[.agg #[.slice none 0 0], .int .i64 (c : Nat)]) (by simp [results, Tryz.results15, go_sem, h2', h3', e0]) h1 ?_
    rw [HQ.out, he]
    exact ⟨_, rfl, Rw.nil _, fun b hb => by simp [Value.ownBlock] at hb, HK0.out.trans hk⟩)
  have FIN0 : Hid (∀ (t : Act) (X X2 : World) (v : Value) (gs : List Fl), X2 = X.setCell ⟨po, 0, none⟩ v → t.defers = [] → t.tmps.getD 4 undef = .pointer (some ⟨po, 0, none⟩) → t.tmps.getD 5 undef = .int .i64 0 → Kp W0 X → Rw X v gs → (∀ b, v.ownBlock = some b → W0.heap.size ≤ b) → aplA a l = (0, gs) → bodyPost Tryz.prog Tryz.f15 Q .ret t X2) := Lib.hid (by
    intro t X X2 v gs hx h1 h2 h3 hk hr hb he
    subst hx
    have hbs := (HB2.out.keep hk).set 0 v
    have e0 := hbs.cell 0 (v := v) rfl
    have h2' : t.tmps[4]?.getD undef = .pointer (some ⟨po, 0, none⟩) := by simpa using h2
    have h3' : t.tmps[5]?.getD undef = .int .i64 0 := by simpa using h3
    have hsz := HK0.out.size
    obtain ⟨v1, v2, v3, rfl⟩ := hr.form
    refine bodyPost_ret (v := .tuple #[.agg #[.slice v1 v2 v3], .int .i64 0]) (by simp [results, Tryz.results15, go_sem, h2', h3', e0]) h1 ?_
    rw [HQ.out, he]
    exact ⟨_, rfl, hr.only ((Only.refl po X).set 0 _) (fun b hb2 => by have := hb b hb2; have := HPS.out; omega), fun b hb2 => by have := hb b hb2; omega, Only.kp (HK0.out.trans hk) ((Only.refl po X).set 0 _) HPS.out.1⟩)
  have HW0 := Lib.hid hW0; have HPR := Lib.hid hpr; have HPO := Lib.hid hpo; have HMA := Lib.hid hm; have HN := Lib.hid hn
  rw [hW0, hpr] at c0
  clear ha hl hmx hk0 b1 b2 hW0 hpr hpo hm hn hQ hca hlc hll
  go_enter Tryz.func15, Tryz.ntmps15
  go_wp2_with fail
  rw [← HPO.out, ← HPR.out, ← HW0.out]
  refine HCK.out.mono ?_
  rintro e w1 ⟨⟨c, rfl, hck⟩, hk1⟩
  have HK1 := Lib.hid hk1
  have HC := Lib.hid hck
  clear hk1 hck c0
  by_cases hc : c = 0
  · subst hc
    have HCE := HC
    have HZ1 : Hid (chk a = 0) := Lib.hid (by
      cases HC.out with
      | ok h1 => exact h1)
    have HTB : Hid (∀ Wx, Kp w1 Wx → Calls Tryz.prog 25 #[.agg #[.slice aa m ca]] Wx fun e w' => ∃ mb, e = .returned (.map (some mb)) ∧ Wx.heap.size ≤ mb ∧ TM w' mb m (fm0 a) ∧ Kp Wx w') := Lib.hid (fun Wx hk => (table_any (HA.out.keep (HK1.out.trans hk)) (by have := (chk_ok HZ1.out).1; omega)).mono fun e w' ⟨mb, h1, h2, h3, h4⟩ => ⟨mb, h1, h2, by rw [fmA_ok HZ1.out, ← HMA.out] at h3; exact h3, h4⟩)
    have HSS : Hid (∀ Wx, Kp w1 Wx → Wx.cell? ⟨pr, 0, none⟩ = some (.slice aa m ca)) := Lib.hid (fun Wx hk => (HB1.out.keep (HK1.out.trans hk)).cell 0 rfl)
    have c1 := HSS.out _ (Kp.refl w1)
    have K0 : Kp w1 w1.drew := ⟨rfl, rfl, rfl, Nat.le_refl _, fun _ _ => rfl⟩
    have i3 : (m : Int) ≤ 64 := by have := (chk_ok HZ1.out).1; have := HMA.out; omega
    go_wp2_with fail
    go_upto_region 4 with fail
    go_cut [7, 8] from 21 (fun x y wx => ∃ mb mc, x = .map (some mb) ∧ y = .map (some mc) ∧ Hid (TM wx mb m (fm0 a)) ∧ Hid (TM wx mc m (fm0 a)) ∧ Hid (w1.heap.size ≤ mb ∧ w1.heap.size ≤ mc ∧ mb ≠ mc) ∧ Kp w1 wx)
    case first =>
      go_region_held3 (fun w' => w'.cell? ⟨pr, 0, none⟩ = some (.slice aa m ca))
        (first | exact HSS.out _ k5 | exact HSS.out _ k4 | exact HSS.out _ K0)
        (first
          | (go_at_call 25; refine (HTB.out _ k4).mono ?_; rintro e w5 ⟨mc, rfl, hm5, tc5, hk5⟩; have k5 := k4.trans hk5; have tb5 := tb4.keep hk5; have hne := tb4.lt; clear hk5)
          | (go_at_call 25; refine (HTB.out _ K0).mono ?_; rintro e w4 ⟨mb, rfl, hm4, tb4, hk4⟩; have k4 := K0.trans hk4; clear hk4)
          | fail "no arm")
      have hs4 := k4.size
      have hs0 := K0.size
      all_goals (go_wp2_with fail; go_meet; first | exact ⟨mb, mc, rfl, rfl, Lib.hid tb5, Lib.hid tc5, Lib.hid ⟨by omega, by omega, by omega⟩, k5⟩ | exact ⟨mc, mb, rfl, rfl, Lib.hid tc5, Lib.hid tb5, Lib.hid ⟨by omega, by omega, by omega⟩, k5⟩)
    case rest =>
      obtain ⟨mb, mc, rfl, rfl, HTM, HTC, HMN, hkc⟩ := hcut
      have HKC := Lib.hid (HK1.out.trans hkc)
      have HKA := Lib.hid hkc
      have HTK := Lib.hid (taken_any (HL.out.keep HKC.out) (by have := HLL.out; have := HN.out; omega))
      clear hkc K0 c1
      have HMC := Lib.hid HTC.out.lt
      go_wp2_with fail
      refine HTK.out.mono ?_
      rintro e w6 ⟨u6, rfl, ho6⟩
      have HT6 := Lib.hid ho6.tw
      have HK6 := Lib.hid (HKC.out.trans ho6.kp)
      have HNB6 : Hid (∀ b, u6.ownBlock = some b → b ≠ mc) := Lib.hid (fun b hb e => by have := ho6.newer b hb; have := HMC.out; omega)
      have HTB6 := Lib.hid (HTM.out.keep ho6.kp)
      have HTC6 : Hid (TM w6 mc m (fmT (fm0 a) ((tkL l).take 0))) := Lib.hid (by
        have e : fmT (fm0 a) ((tkL l).take 0) = fm0 a := by funext q; simp [fmT]
        rw [e]
        exact HTC.out.keep ho6.kp)
      have HM6 : Hid (mc < w6.heap.size) := Lib.hid (by have := ho6.kp.size; have := HMC.out; omega)
      have HMW : Hid (W0.heap.size ≤ mc) := Lib.hid (by have := HMN.out.2.1; have := HK1.out.size; omega)
      clear ho6
      obtain ⟨a6, c6, hu6, hc6⟩ := tw_len HT6.out
      subst hu6
      obtain ⟨N6, hN6⟩ : ∃ x, x = (tkL l).length := ⟨_, rfl⟩
      rw [← hN6] at HT6 HNB6 hc6 ⊢
      have HN6 := Lib.hid hN6
      have i5 : (N6 : Int) ≤ (c6 : Int) := by omega
      have i6 : (N6 : Int) ≤ 200 := by have := tkL_len l; have := HLL.out; omega
      clear hN6 hc6
      go_wp2_with fail
      go_loopw [28] (fun iv wy => ∃ (k : Nat), k ≤ N6 ∧ iv = .int .i64 k ∧ Hid (TM wy mc m (fmT (fm0 a) ((tkL l).take k))) ∧ Hid (Gr mc w6 wy)) (fun iv _ => N6 - (intOf iv).toNat)
      case atStart => exact ⟨0, Nat.zero_le _, rfl, HTC6, Lib.hid ((Kp.refl w6).gr mc)⟩
      case round =>
        obtain ⟨k, hk, rfl, HTY, HGR⟩ := hrel
        rename World => wy
        by_cases hil : k < N6
        · obtain ⟨p, hp⟩ : ∃ p, (tkL l)[k]? = some p := ⟨_, List.getElem?_eq_getElem (by have := HN6.out; omega)⟩
          obtain ⟨g, o, rfl, hcell⟩ := (HT6.out.by HGR.out (fun b hb e => HNB6.out b hb (by injection e with e; exact e.symm))).cell (by omega)
          have d0 := hcell k p hp
          have hpo := HT6.out.ok p (List.mem_of_getElem? hp)
          have j1 : (k : Int) < (N6 : Int) := by omega
          have HPO2 : Hid (Lt p ∧ p.length ≤ maxLen) := Lib.hid ⟨hpo.1, by have := hpo.2; unfold maxLen; omega⟩
          obtain ⟨P, hP⟩ : ∃ S, S = st p := ⟨_, rfl⟩
          rw [← hP] at d0
          have HPM := Lib.hid hp; have HPP := Lib.hid hP
          clear hcell hp hpo hP
          go_wp2_with (at_delete; refine wpList_tmdel rfl (.tmp 32) (.tmp 33) rfl rfl HTY.out p HPO2.out.1 HPO2.out.2 (by rw [← HPP.out]; rfl) ?_)
          intro w8 ht8 hg8
          have HT8 : Hid (TM w8 mc m (fmT (fm0 a) ((tkL l).take (k + 1)))) := Lib.hid (by
            rw [take_cons HPM.out, ← fmT_snoc]
            exact ht8)
          have HG8 : Hid (Gr mc w6 w8) := Lib.hid (HGR.out.trans hg8)
          clear ht8 hg8 d0
          go_wp2_with fail
          go_roundw
          case rel => exact ⟨k + 1, by omega, vint (by omega), HT8, HG8⟩
          case measure => simp [intOf]; omega
        · have HF : Hid (TM wy mc m (fmW a (fmT (fm0 a) (tkL l)) (l.take 0))) := Lib.hid (by
            have h := HTY.out
            obtain rfl : k = N6 := by omega
            rw [List.take_of_length_le (by have := HN6.out; omega)] at h
            exact h)
          clear HTC6 HTY
          go_wp2_with fail
          go_loopw [37] (fun iv wz => ∃ (j nn : Nat), j ≤ n ∧ nn ≤ m + j ∧ iv = .int .i64 j ∧ Hid (TM wz mc nn (fmW a (fmT (fm0 a) (tkL l)) (l.take j))) ∧ Hid (Gr mc w6 wz)) (fun iv _ => n - (intOf iv).toNat)
          case atStart => exact ⟨0, m, Nat.zero_le _, by omega, rfl, HF, HGR⟩
          case round =>
            obtain ⟨j, nn, hj, hnn, rfl, HTZ, HGZ⟩ := hrel
            rename World => wz
            have HKZ : Hid (Kp W0 wz) := Lib.hid (grown_kpm HK6.out HGZ.out HMW.out)
            by_cases hjl : j < n
            · obtain ⟨x, hx⟩ : ∃ x, l[j]? = some x := ⟨_, List.getElem?_eq_getElem (by have := HN.out; omega)⟩
              obtain ⟨g, o, rfl, hcell⟩ := (HL.out.keep HKZ.out).cell (by omega)
              obtain ⟨d0, d1, d2, d3⟩ := hcell j x hx
              have hxo := HL.out.ok x (List.mem_of_getElem? hx)
              have j2 : (j : Int) < (n : Int) := by omega
              have HB8 : Hid (∀ Wx, Gr mc w6 Wx → Calls Tryz.prog 41 #[.agg #[.int .i64 x.1, .string (st x.2.1), .string (st x.2.2.1), .string (st x.2.2.2)], .map (some mb)] Wx fun e w' => e = .returned (.string (st (putB a x))) ∧ Kp Wx w') := Lib.hid (fun Wx hg => bytesOf_any hxo HZ1.out (HTB6.out.by hg (fun e => by injection e with e; exact HMN.out.2.2 e)))
              obtain ⟨X1, hX1⟩ : ∃ S, S = st x.2.1 := ⟨_, rfl⟩
              obtain ⟨X2, hX2⟩ : ∃ S, S = st x.2.2.1 := ⟨_, rfl⟩
              obtain ⟨X3, hX3⟩ : ∃ S, S = st x.2.2.2 := ⟨_, rfl⟩
              obtain ⟨Y, hY⟩ : ∃ S, S = st (putB a x) := ⟨_, rfl⟩
              obtain ⟨W3, hW3⟩ : ∃ W, W = wz.alloc (.cells #[.int .i64 x.1, .string X1, .string X2, .string X3] 50) := ⟨_, rfl⟩
              have hk3 : Kp wz W3 := by rw [hW3]; exact kp_alloc _ _
              obtain ⟨fb, hfb⟩ : ∃ b, b = wz.heap.size := ⟨_, rfl⟩
              have HFB : Hid (Blk W3 fb 50 #[.int .i64 x.1, .string X1, .string X2, .string X3]) := Lib.hid (by rw [hW3, hfb]; exact Blk.new _ _ _)
              have HPU := Lib.hid (puts_any x W3)
              obtain ⟨c, hc⟩ : ∃ c, c = pts x := ⟨_, rfl⟩
              rw [← hX1, ← hX2, ← hX3, ← hc] at HPU
              rw [← hX1, ← hX2, ← hX3, ← hY] at HB8
              rw [← hX1] at d1
              rw [← hX2] at d2
              rw [← hX3] at d3
              have HST := Lib.hid (fmW_snoc (a := a) (m := fmT (fm0 a) (tkL l)) hx)
              rw [← hc] at HST
              have HX1 := Lib.hid hX1; have HYY := Lib.hid hY
              have HXL : Hid (Lt x.2.1 ∧ x.2.1.length ≤ maxLen) := Lib.hid ⟨hxo.2.1.1, by have := hxo.2.2.1; unfold maxLen; omega⟩
              have HT3 := Lib.hid (HTZ.out.keep hk3)
              have HG3 : Hid (Gr mc w6 W3) := Lib.hid (HGZ.out.trans (hk3.gr mc))
              have HNF : Hid (some fb ≠ some mc) := Lib.hid (fun e => by
                injection e with e
                have := HTZ.out.lt
                omega)
              have HW3 := Lib.hid hW3; have HFE := Lib.hid hfb
              clear hcell hx hc hX1 hX2 hX3 hY hxo hk3 hW3 hfb
              cases c with
              | false =>
                go_wp2_with fail
                rw [← HW3.out, ← HFE.out]
                refine HPU.out.mono ?_
                rintro e w8 ⟨rfl, hk8⟩
                have HX : Hid (TM w8 mc nn (fmW a (fmT (fm0 a) (tkL l)) (l.take (j + 1)))) := Lib.hid (by
                  rw [HST.out, if_neg (by simp)]
                  exact HT3.out.keep hk8)
                have HG8 : Hid (Gr mc w6 w8) := Lib.hid (HG3.out.trans (hk8.gr mc))
                clear hk8 d0 d1 d2 d3
                go_wp2_with fail
                go_roundw
                case rel => exact ⟨j + 1, nn, by omega, by omega, vint (by omega), HX, HG8⟩
                case measure => simp [intOf]; omega
              | true =>
                go_wp2_with fail
                rw [← HW3.out, ← HFE.out]
                refine HPU.out.mono ?_
                rintro e w8 ⟨rfl, hk8⟩
                have HG8 : Hid (Gr mc w6 w8) := Lib.hid (HG3.out.trans (hk8.gr mc))
                have HT8 := Lib.hid (HT3.out.keep hk8)
                have HF8 := Lib.hid (HFB.out.keep hk8)
                have HSX : Hid (∀ Wx, Kp w8 Wx → Wx.cell? ⟨fb, 0, none⟩ = some (.int .i64 x.1) ∧ Wx.cell? ⟨fb, 1, none⟩ = some (.string X1) ∧ Wx.cell? ⟨fb, 2, none⟩ = some (.string X2) ∧ Wx.cell? ⟨fb, 3, none⟩ = some (.string X3)) := Lib.hid (fun Wx hk => ⟨(HF8.out.keep hk).cell 0 rfl, (HF8.out.keep hk).cell 1 rfl, (HF8.out.keep hk).cell 2 rfl, (HF8.out.keep hk).cell 3 rfl⟩)
                have HSY : Hid (∀ Wx Wy, Kp w8 Wx → Wx.grownBy Wy (some mc) → Wy.cell? ⟨fb, 0, none⟩ = some (.int .i64 x.1) ∧ Wy.cell? ⟨fb, 1, none⟩ = some (.string X1) ∧ Wy.cell? ⟨fb, 2, none⟩ = some (.string X2) ∧ Wy.cell? ⟨fb, 3, none⟩ = some (.string X3)) := Lib.hid (fun Wx Wy hk hg => by
                  have h := Blk.by (HF8.out.keep hk) hg HNF.out
                  exact ⟨h.cell 0 rfl, h.cell 1 rfl, h.cell 2 rfl, h.cell 3 rfl⟩)
                have K0 : Kp w8 w8.drew := ⟨rfl, rfl, rfl, Nat.le_refl _, fun _ _ => rfl⟩
                have e0 := HF8.out.cell 0 rfl
                clear hk8 d0 d1 d2 d3
                go_wp2_with fail
                go_upto_region 14 with fail
                clear e0
                go_region_held3 (fun Wx => Wx.cell? ⟨fb, 0, none⟩ = some (.int .i64 x.1) ∧ Wx.cell? ⟨fb, 1, none⟩ = some (.string X1) ∧ Wx.cell? ⟨fb, 2, none⟩ = some (.string X2) ∧ Wx.cell? ⟨fb, 3, none⟩ = some (.string X3))
                  (first | exact HSY.out _ _ k9 hg10 | exact HSX.out _ k9 | exact HSX.out _ K0)
                  (first
                    | (go_at_call 41; refine (HB8.out _ (HG8.out.trans (K0.gr mc))).mono ?_; rintro e w9 ⟨rfl, hk9⟩; have k9 := K0.trans hk9; obtain ⟨w10, hr10, ht10, hg10⟩ := TM.put (HT8.out.keep k9) (by omega) HXL.out.1 HXL.out.2 (putB a x); rw [← HX1.out, ← HYY.out] at hr10; clear hk9)
                    | fail "no arm")
                have HX : Hid (TM w10 mc (nn + 1) (fmW a (fmT (fm0 a) (tkL l)) (l.take (j + 1)))) := Lib.hid (by
                  rw [HST.out, if_pos (by simp)]
                  exact ht10)
                have HG10 : Hid (Gr mc w6 w10) := Lib.hid ((HG8.out.trans (k9.gr mc)).trans hg10)
                clear ht10 hg10 k9 K0
                go_wp2_with fail
                go_roundw
                case rel => exact ⟨j + 1, nn + 1, by omega, by omega, vint (by omega), HX, HG10⟩
                case measure => simp [intOf]; omega
            · have HFZ : Hid (TM wz mc nn (fmW a (fmT (fm0 a) (tkL l)) l)) := Lib.hid (by
                have h := HTZ.out
                obtain rfl : j = n := by omega
                rwa [List.take_of_length_le (by have := HN.out; omega)] at h)
              have HAS := Lib.hid (ascending_any HFZ.out (by omega) (fmW_some HZ1.out HA.out.lt HL.out.ok l (fun x hx => hx) _ (fmT_any HZ1.out HA.out.lt)))
              go_wp2_with fail
              refine HAS.out.mono ?_
              rintro e w11 ⟨u11, r, rfl, hr11, hs11, hb11, hk11⟩
              obtain ⟨v1, v2, v3, rfl⟩ := hr11.form
              obtain ⟨W12, hW12⟩ : ∃ W, W = w11.alloc (.cells #[.slice v1 v2 v3] 25) := ⟨_, rfl⟩
              obtain ⟨pq, hpq⟩ : ∃ b, b = w11.heap.size := ⟨_, rfl⟩
              have hk12 : Kp w11 W12 := by rw [hW12]; exact kp_alloc _ _
              have HBQ : Hid (Blk W12 pq 25 #[.slice v1 v2 v3]) := Lib.hid (by rw [hW12, hpq]; exact Blk.new _ _ _)
              have HK12 := Lib.hid ((HKZ.out.trans hk11).trans hk12)
              have HR12 := Lib.hid (hr11.keep hk12)
              have HB11 : Hid (∀ b, (Value.slice v1 v2 v3).ownBlock = some b → W0.heap.size ≤ b) := Lib.hid (fun b hb => by have := hb11 b hb; have := HKZ.out.size; omega)
              have HS11 := Lib.hid (apl_prg HCE.out hs11)
              have HC12 := Lib.hid (Check_any HR12.out (HMX.out.keep HK12.out))
              obtain ⟨E, hE⟩ : ∃ E, E = chk r := ⟨_, rfl⟩
              rw [← hE] at HC12 HS11
              have HW12 := Lib.hid hW12; have HPQ := Lib.hid hpq
              clear hr11 hs11 hb11 hk11 hk12 hW12 hpq hE
              by_cases he : E = 0
              · have q9 : ((E : Int) != 0) = false := by simp [he]
                have HAP : Hid (aplA a l = (0, r)) := Lib.hid (by rw [HS11.out, if_pos he])
                clear he
                go_wp2_with fail
                rw [← HW12.out, ← HPQ.out]
                refine HC12.out.mono ?_
                rintro e w13 ⟨rfl, hk13⟩
                have cq := (HBQ.out.keep hk13).cell 0 rfl
                have HK13 := Lib.hid (HK12.out.trans hk13)
                have HR13 := Lib.hid (HR12.out.keep hk13)
                have co := (HB2.out.keep HK13.out).cell 0 rfl
                have fo := (HB2.out.keep HK13.out).free 0
                clear hk13
                go_wp2_with fail
                exact FIN0.out _ w13 _ (.slice v1 v2 v3) r rfl rfl rfl rfl HK13.out HR13.out HB11.out HAP.out
              · have q9 : ((E : Int) != 0) = true := by simpa using he
                have HAP : Hid (aplA a l = (1, [])) := Lib.hid (by rw [HS11.out, if_neg he])
                clear he
                go_wp2_with fail
                rw [← HW12.out, ← HPQ.out]
                refine HC12.out.mono ?_
                rintro e w13 ⟨rfl, hk13⟩
                have HK13 := Lib.hid (HK12.out.trans hk13)
                have co := (HB2.out.keep HK13.out).cell 0 rfl
                have fo := (HB2.out.keep HK13.out).free 0
                clear hk13
                go_wp2_with fail
                exact FINE.out 1 _ w13 _ rfl rfl rfl rfl HK13.out HAP.out
  · have q9 : ((c : Int) != 0) = true := by simpa using hc
    have HAP : Hid (aplA a l = (c, [])) := Lib.hid (HC.out.err hc)
    have co := (HB2.out.keep HK1.out).cell 0 rfl
    have fo := (HB2.out.keep HK1.out).free 0
    clear hc
    go_wp2_with fail
    exact FINE.out c _ w1 _ rfl rfl rfl rfl HK1.out HAP.out
set_option maxRecDepth 100000 in
set_option maxHeartbeats 4000000 in
theorem invert_any : InvertC := by
  intro w va vl a l hmx ha hl hll
  obtain ⟨Q, hQ⟩ : ∃ Q, Q = ChgA w (invA a l) := ⟨_, rfl⟩
  rw [← hQ]
  have FIN : Hid (∀ (u : Value) (E : Nat) (D : List Ch) (w' : World), invA a l = (E, D) → Cw w' u D → (∀ c, u.ownBlock = some c → w.heap.size ≤ c) → Kp w w' → Q (.returned (.tuple #[u, .int .i64 (E : Nat)])) w') := Lib.hid (by
    intro u E D w' h1 h2 h3 h4
    rw [hQ, h1]
    exact ⟨u, rfl, h2, h3, h4⟩)
  obtain ⟨W, hW⟩ : ∃ W, W = w.alloc (.cells #[va] 25) := ⟨_, rfl⟩
  obtain ⟨p0, hp0⟩ : ∃ b, b = w.heap.size := ⟨_, rfl⟩
  have hk0 : Kp w W := by rw [hW]; exact kp_alloc _ _
  have b0 : Blk W p0 25 #[va] := by rw [hW, hp0]; exact Blk.new _ _ _
  have HA := Lib.hid (ha.keep hk0); have HM := Lib.hid (hmx.keep hk0); have HB0 := Lib.hid b0; have HK := Lib.hid hk0
  have HAP := Lib.hid (apply_any W va vl a l HM.out HA.out (hl.keep hk0) hll)
  obtain ⟨ao, ac, rfl, hac, -, -⟩ := ha.open3
  obtain ⟨n, hn⟩ : ∃ n, n = a.length := ⟨_, rfl⟩
  rw [← hn] at hW HB0 b0 HA HAP ⊢
  have c0 := b0.cell 0 rfl
  have HW := Lib.hid hW; have HP0 := Lib.hid hp0
  rw [hW, hp0] at c0
  obtain ⟨E, hE⟩ : ∃ E, E = aplE a l := ⟨_, rfl⟩
  have HE := Lib.hid hE
  clear ha hl hmx hk0 b0 hW hp0 hac hn hQ hll hE
  by_cases he : E = 0
  · have q1 : ((E : Int) != 0) = false := by simp [he]
    have HE0 : Hid (aplE a l = 0) := Lib.hid (HE.out ▸ he)
    obtain ⟨b, hb⟩ : ∃ b, b = outL a l := ⟨_, rfl⟩
    have HOK : Hid (chk a = 0 ∧ chk b = 0) := Lib.hid (by
      obtain ⟨h1, -, -, -, -, -, h7⟩ := apl_ok HE0.out
      exact ⟨h1, by rw [hb]; exact h7⟩)
    have e1 : aplA a l = (0, b) := by unfold aplA; rw [HE0.out, if_pos rfl, hb]
    have HIA : Hid (invA a l = (0, difA b a)) := Lib.hid (by unfold invA; rw [HE0.out, if_pos rfl, hb])
    rw [e1] at HAP
    clear e1 hb he
    go_enter Tryz.func18, Tryz.ntmps18
    go_wp2_with fail
    rw [← HP0.out, ← HW.out]
    refine HAP.out.mono ?_
    rintro e w1 ⟨v1, rfl, hr1, -, hk1⟩
    obtain ⟨x1, x2, x3, rfl⟩ := hr1.form
    obtain ⟨W2, hW2⟩ : ∃ W, W = w1.alloc (.cells #[.slice x1 x2 x3] 25) := ⟨_, rfl⟩
    obtain ⟨pb, hpb⟩ : ∃ b, b = w1.heap.size := ⟨_, rfl⟩
    have hk2 : Kp w1 W2 := by rw [hW2]; exact kp_alloc _ _
    have HB2 : Hid (Blk W2 pb 25 #[.slice x1 x2 x3]) := Lib.hid (by rw [hW2, hpb]; exact Blk.new _ _ _)
    have HK2 := Lib.hid (hk1.trans hk2)
    have HD := Lib.hid (diff_any W2 (.slice x1 x2 x3) (.slice ao n ac) b a (HM.out.keep HK2.out) (hr1.keep hk2) (HA.out.keep HK2.out))
    rw [difE_ok HOK.out.2 HOK.out.1] at HD
    have c2 := (HB0.out.keep HK2.out).cell 0 rfl
    rw [hW2] at c2
    have HW2 := Lib.hid hW2; have HPB := Lib.hid hpb
    clear c0 hr1 hk1 hk2 hW2 hpb
    go_wp2_with fail
    rw [← HW2.out]
    refine HD.out.mono ?_
    rintro e w3 ⟨u3, rfl, hc3, hb3, hk3⟩
    have HC3 := Lib.hid hc3
    have HB3 : Hid (∀ c, u3.ownBlock = some c → w.heap.size ≤ c) := Lib.hid (fun c hc => by have h1 := hb3 c hc; have h2 := HK2.out.size; have h3 := HK.out.size; omega)
    have HK3 := Lib.hid ((HK.out.trans HK2.out).trans hk3)
    clear hc3 hb3 hk3 c2
    go_wp2_with fail
    exact FIN.out u3 0 _ _ HIA.out HC3.out HB3.out HK3.out
  · have q1 : ((E : Int) != 0) = true := by simpa using he
    have HNE : Hid (aplE a l ≠ 0) := Lib.hid (by rw [← HE.out]; exact he)
    have e1 : aplA a l = (E, []) := by unfold aplA; rw [if_neg HNE.out, HE.out]
    have HIA : Hid (invA a l = (E, [])) := Lib.hid (by unfold invA; rw [if_neg HNE.out, HE.out])
    rw [e1] at HAP
    clear e1 he
    go_enter Tryz.func18, Tryz.ntmps18
    go_wp2_with fail
    rw [← HP0.out, ← HW.out]
    refine HAP.out.mono ?_
    rintro e w1 ⟨v1, rfl, hr1, -, hk1⟩
    obtain ⟨x1, x2, x3, rfl⟩ := hr1.form
    have HK1 : Hid (Kp w (w1.alloc (.cells #[.slice x1 x2 x3] 25))) := Lib.hid ((HK.out.trans hk1).trans (kp_alloc _ _))
    clear c0 hr1 hk1
    go_wp2_with fail
    exact FIN.out _ E _ _ HIA.out (Cw.nil _) (fun c hc => by simp [Value.ownBlock] at hc) HK1.out
end By
end Go.Proofs.YtfobogcccbddbaaGreatDoor
