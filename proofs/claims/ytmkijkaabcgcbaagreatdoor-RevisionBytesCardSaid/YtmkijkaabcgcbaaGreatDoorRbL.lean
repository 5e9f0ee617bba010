/- The law on the bytes of revisions in which something may be wrong: it returns true, and leaves what was there. Conditions: the slices read as what is named; a package variable of the library holds some integer. -/
import Derived.Test.YtmkijkaabcgcbaaGreatDoorRbA
import Derived.Test.YtmkijkaabcgcbaaGreatDoorSpB
import Derived.Test.YtmkijkaabcgcbaaGreatDoorRvW
import Derived.Test.YtmkijkaabcgcbaaGreatDoorMRc
namespace Go.Proofs.YtmkijkaabcgcbaaGreatDoor
namespace By
open Go.RowKit Go.Shelf WireN LexN RevN
set_option linter.unusedVariables false
set_option linter.unusedSimpArgs false

theorem encL_le {fs : List Fl} (h0 : chk fs = 0) (h : fs.length ≤ 20) : 6 ≤ (enc fs).length ∧ (enc fs).length ≤ 400000 := by
  have h1 := encB_len (fs := fs) (fun f hf => ⟨path_len (chkL_mem (chk_ok h0).2 f hf).1, (chkL_mem (chk_ok h0).2 f hf).2⟩)
  have h2 := fr_len 2 (uv fs.length)
  have h4 := uv_ten (n := fs.length) (by omega)
  have h5 := uv_ten (n := (uv fs.length).length) (by omega)
  rw [enc, List.length_append]
  omega

set_option maxRecDepth 100000 in
set_option maxHeartbeats 16000000 in
theorem revBytes_short {zs : List Int} {ms : List Nat} {v vm : Value} {at' : Int} {by' kd : Nat} {w : World} (hz : SlI w v zs) (hat : -9223372036854775808 ≤ at' ∧ at' ≤ 9223372036854775807) (hb : by' < 256) (hkd : kd < 256) (hms : Sl w vm ms) (hml : ms.length ≤ 60) (hm : MX w) :
    Calls Tryz.prog 4 #[v, .int .i64 at', .int .u8 by', .int .u8 kd, vm] w fun e w' => e = .returned (.bool true) ∧ Kp w w' := by
  obtain ⟨mo, mc, rfl, hmc, hmm, -⟩ := hms.open3
  obtain ⟨ml, hmlen⟩ : ∃ ml, ml = ms.length := ⟨_, rfl⟩
  rw [← hmlen] at hms hmc hml ⊢
  have hz' := hz
  obtain ⟨⟨ao, cap, rfl, hc, hmx, hat2⟩, hlt, hsm⟩ := hz
  obtain ⟨len0, hlen⟩ : ∃ len, len = zs.length := ⟨_, rfl⟩
  rw [← hlen] at hz' ⊢
  obtain ⟨w1, hw1⟩ : ∃ w1, w1 = w.alloc (Obj.cells #[.slice ao len0 cap, .int .i64 0] 25) := ⟨_, rfl⟩
  have htp : Tp w w1 w.heap.size 0 := by
    rw [hw1]
    exact ⟨⟨ao, len0, cap, zs, hz', Blk.new _ _ _⟩, Kp.alloc (Kp.refl _) _, Nat.le_refl _⟩
  have HSP := Lib.hid (spoiled_q (n := 0) ⟨0, by omega, htp⟩)
  have HW1 := Lib.hid hw1; have HM := Lib.hid hm; have HAT := Lib.hid hat; have HB := Lib.hid hb
  obtain ⟨K, hK⟩ : ∃ K : Nat, K = 1 + kd % 4 := ⟨_, rfl⟩
  have eK : (1 : Int) + (kd : Int) % 4 = (K : Int) := by omega
  have HKB : Hid (1 ≤ K ∧ K ≤ 255) := Lib.hid (by omega)

  have i1 : (ml : Int) ≤ (60 : Int) := by omega
  have HMS : Hid (Sl w (.slice mo ml mc) ms) := Lib.hid hms
  have HML : Hid (ms.length ≤ 60) := Lib.hid (by omega)

  clear hms hml hmlen hmc hmm hz' hc hmx hat2 hlt hsm hlen hw1 htp hm hat hb hkd hK
  go_enter Tryz.func4, Tryz.ntmps4
  go_wp2_with fail
  rw [← HW1.out]
  refine HSP.out.mono ?_
  rintro e w2 ⟨⟨u, fs, rfl, hr, hf20⟩, hq, hg⟩
  have HK2 : Hid (Kp w w2) := Lib.hid hq.base
  have HF20 := Lib.hid hf20
  obtain ⟨ua, ul, uc, hu⟩ := hr.form
  subst hu
  obtain ⟨Wr, hWr⟩ : ∃ W, W = w2.alloc (.cells #[.slice ua ul uc] 28) := ⟨_, rfl⟩
  obtain ⟨rb, hrb⟩ : ∃ b, b = w2.heap.size := ⟨_, rfl⟩
  have k2 : Kp w2 Wr := by rw [hWr]; exact kp_alloc _ _
  have HKR : Hid (Kp w Wr) := Lib.hid (Kp.trans HK2.out k2)
  have RB : Hid (Blk Wr rb 28 #[.slice ua ul uc]) := Lib.hid (by rw [hWr, hrb]; exact Blk.new _ _ _)
  have HR : Hid (Rw Wr (.slice ua ul uc) fs) := Lib.hid (hr.keep k2)
  have HMR : Hid (∀ W, Kp Wr W → MX W) := Lib.hid (fun W hk => HM.out.keep (Kp.trans HKR.out hk))
  have HWR := Lib.hid hWr; have HRB := Lib.hid hrb
  obtain ⟨C, hC⟩ : ∃ C, C = chk fs := ⟨_, rfl⟩
  obtain ⟨XS, hXS⟩ : ∃ X, X = (if chk fs = 0 then enc fs else []) := ⟨_, rfl⟩
  obtain ⟨L, hL⟩ : ∃ L, L = XS.length := ⟨_, rfl⟩
  have HLB : Hid (L = 0 ∨ 6 ≤ L) := Lib.hid (by
    rw [hL, hXS]
    by_cases h0 : chk fs = 0
    · rw [if_pos h0]; exact .inr (encL_le h0 hf20).1
    · rw [if_neg h0]; exact .inl rfl)
  have HLU : Hid (L ≤ 400000) := Lib.hid (by
    rw [hL, hXS]
    by_cases h0 : chk fs = 0
    · rw [if_pos h0]; exact (encL_le h0 hf20).2
    · rw [if_neg h0]; simp)
  have CE : Hid (∀ W, Kp Wr W → Calls Tryz.prog 24 #[.agg #[.slice ua ul uc]] W fun e w' => ∃ a c, e = .returned (.tuple #[.slice a L c, .int .i64 C]) ∧ L ≤ c ∧ Sl w' (.slice a L c) XS ∧ Kp W w') := Lib.hid (fun W hk => (Encode_any (HR.out.keep hk) (HMR.out W hk)).mono (by
    intro e w' h
    obtain ⟨v, e1, hs, hk⟩ := h.sl
    rw [← hXS] at hs
    obtain ⟨a, c, rfl, hcc, -, -⟩ := hs.open3
    rw [← hL] at e1 hs hcc
    rw [← hC] at e1
    exact ⟨a, c, e1, hcc, hs, hk⟩))
  have CE2 : Hid (∀ W, Kp Wr W → Calls Tryz.prog 25 #[.agg #[.slice ua ul uc]] W fun e w' => ∃ a c, e = .returned (.tuple #[.slice a L c, .int .i64 C]) ∧ Sl w' (.slice a L c) XS ∧ Kp W w') := Lib.hid (fun W hk => (rEncode_any (HR.out.keep hk)).mono (by
    intro e w' h
    obtain ⟨v, e1, hs, hk⟩ := h.sl
    rw [← hXS] at hs
    obtain ⟨a, c, rfl, hcc, -, -⟩ := hs.open3
    rw [← hL] at e1 hs hcc
    rw [← hC] at e1
    exact ⟨a, c, e1, hs, hk⟩))
  have CDE : Hid (∀ W v xs, Kp Wr W → Sl W v xs → xs.length ≤ 1000000 → Calls Tryz.prog 28 #[v] W fun e w' => e = .returned (.bool true) ∧ Kp W w') := Lib.hid (fun W v xs hk hs hl => decodes_any hs hl (HMR.out W hk))
  have CA : Hid (∀ W, Kp Wr W → Calls Tryz.prog 23 #[] W fun e w' => e = .returned (.bool true) ∧ Kp W w') := Lib.hid (fun W hk => rvAwake_any (HMR.out W hk))
  have qC : ((C : Int) != (C : Int)) = false := by simp
  have HLX := Lib.hid hL
  have x0 := RB.out.cell 0 rfl
  rw [hWr, hrb] at x0
  clear hr hf20 hq hg hWr hrb k2 hC hXS hL
  go_wp2_with fail
  rw [← HWR.out, ← HRB.out]
  refine (CE.out Wr (Kp.refl _)).mono ?_
  rintro e w3 ⟨a3, c3, rfl, hc3, hs3, hk3⟩
  have K3 := Lib.hid hk3; have HS3 := Lib.hid hs3; have HC3 := Lib.hid hc3
  have x3 := (RB.out.keep hk3).cell 0 rfl
  clear x0 hs3 hk3 hc3
  go_wp2_with fail
  refine (CE2.out w3 K3.out).mono ?_
  rintro e w4 ⟨a4, c4, rfl, hs4, hk4⟩
  have K4 := Lib.hid (Kp.trans K3.out hk4); have HS4 := Lib.hid hs4; have HA4 := Lib.hid (HS3.out.keep hk4)
  clear x3 hs4 hk4
  go_wp2_with fail
  refine (Same_any HA4.out HS4.out).mono ?_
  rintro e w' ⟨rfl, rfl⟩
  have hyy : decide (XS = XS) = true := by simp
  rw [hyy]
  clear hyy
  have HM4 := Lib.hid (HMS.out.keep (Kp.trans HKR.out K4.out))
  go_wp2_with fail
  clear eK
  refine (rFrame_ok (k := K) HM4.out HKB.out.1 HKB.out.2 (by have := HML.out; omega)).mono ?_
  rintro e w6 ⟨⟨v6, rfl, hs6, -⟩, hk6⟩
  obtain ⟨a6, c6, hv6, -, -, -⟩ := hs6.open3
  obtain ⟨F, hF⟩ : ∃ F, F = fr K ms := ⟨_, rfl⟩
  rw [← hF] at hs6 hv6
  obtain ⟨FL, hFL⟩ : ∃ l, l = F.length := ⟨_, rfl⟩
  have HFL : Hid (FL ≤ 1000) := Lib.hid (by
    rw [hFL, hF, fr_len]
    have h1 := HML.out
    have h2 := uv_ten (n := ms.length) (by omega)
    omega)
  rw [← hFL] at hv6
  subst hv6
  have HFE := Lib.hid hFL
  have K6 := Lib.hid (Kp.trans K4.out hk6); have HA6 := Lib.hid (HA4.out.keep hk6); have HX6 := Lib.hid hs6
  clear hs6 hk6 hF hFL
  go_wp2_with fail
  refine (CDE.out w6 _ XS K6.out HA6.out (by have := HLX.out; have := HLU.out; omega)).mono ?_
  rintro e w7 ⟨rfl, hk7⟩
  have K7 := Lib.hid (Kp.trans K6.out hk7); have HA7 := Lib.hid (HA6.out.keep hk7); have HX7 := Lib.hid (HX6.out.keep hk7)
  clear hk7
  go_wp2_with (at_builtin; refine wpList_yes (by simp [Region.wanted, yielded]) ?_; refine wpList_ap (w := w7) rfl (.const (.slice none 0 0)) (.tmp 64) 42 rfl Tryz.underlying42 _ _ [] XS rfl rfl (Own.start w7) HA7.out (by have := HLX.out; have := HLU.out; simp; omega) ?_)
  intro v8 w8 ho8
  replace ho8 : Own w7 w8 v8 XS := ho8
  obtain ⟨ao8, c8, e8, -, -⟩ := ho8.form
  rw [← HLX.out] at e8
  subst e8
  have HO8 := Lib.hid ho8; have HX8 := Lib.hid (HX7.out.keep ho8.kp)
  clear ho8
  go_wp2_with (at_builtin; refine wpList_yes (by simp [Region.wanted, yielded]) ?_; refine wpList_ap (w := w7) rfl (.tmp 65) (.tmp 66) 42 rfl Tryz.underlying42 _ _ XS F rfl rfl HO8.out HX8.out (by have := HLX.out; have := HLU.out; have := HFE.out; have := HFL.out; simp; omega) ?_)
  intro v9 w9 ho9
  have hs9 := ho9.sl (by have := HLX.out; have := HLU.out; have := HFE.out; have := HFL.out; simp; omega)
  obtain ⟨ao9, c9, e9, -, -, -⟩ := hs9.open3
  obtain ⟨l9, hl9⟩ : ∃ l, l = (XS ++ F).length := ⟨_, rfl⟩
  rw [← hl9] at e9
  subst e9
  have HS9 := Lib.hid hs9; have K9 := Lib.hid (Kp.trans K7.out ho9.kp); have HA9 := Lib.hid (HA7.out.keep ho9.kp); have HX9 := Lib.hid (HX7.out.keep ho9.kp)
  have HL9 : Hid ((XS ++ F).length ≤ 1000000) := Lib.hid (by have := HLX.out; have := HLU.out; have := HFE.out; have := HFL.out; simp; omega)
  clear hs9 ho9 hl9
  go_wp2_with fail
  refine (CDE.out w9 _ _ K9.out HS9.out HL9.out).mono ?_
  rintro e w10 ⟨rfl, hk10⟩
  have K10 := Lib.hid (Kp.trans K9.out hk10); have HA10 := Lib.hid (HA9.out.keep hk10); have HX10 := Lib.hid (HX9.out.keep hk10)
  clear hk10
  go_wp2_with (at_builtin; refine wpList_yes (by simp [Region.wanted, yielded]) ?_; refine wpList_ap (w := w10) rfl (.const (.slice none 0 0)) (.tmp 72) 42 rfl Tryz.underlying42 _ _ [] F rfl rfl (Own.start w10) HX10.out (by have := HLX.out; have := HLU.out; have := HFE.out; have := HFL.out; simp; omega) ?_)
  intro v11 w11 ho11
  replace ho11 : Own w10 w11 v11 F := ho11
  obtain ⟨ao11, c11, e11, -, -⟩ := ho11.form
  rw [← HFE.out] at e11
  subst e11
  have HO11 := Lib.hid ho11; have HA11 := Lib.hid (HA10.out.keep ho11.kp)
  clear ho11
  go_wp2_with (at_builtin; refine wpList_yes (by simp [Region.wanted, yielded]) ?_; refine wpList_ap (w := w10) rfl (.tmp 73) (.tmp 74) 42 rfl Tryz.underlying42 _ _ F XS rfl rfl HO11.out HA11.out (by have := HLX.out; have := HLU.out; have := HFE.out; have := HFL.out; simp; omega) ?_)
  intro v12 w12 ho12
  have hs12 := ho12.sl (by have := HLX.out; have := HLU.out; have := HFE.out; have := HFL.out; simp; omega)
  obtain ⟨ao12, c12, e12, -, -, -⟩ := hs12.open3
  obtain ⟨l12, hl12⟩ : ∃ l, l = (F ++ XS).length := ⟨_, rfl⟩
  rw [← hl12] at e12
  subst e12
  have HS12 := Lib.hid hs12; have K12 := Lib.hid (Kp.trans K10.out ho12.kp); have HA12 := Lib.hid (HA10.out.keep ho12.kp)
  have HL12 : Hid ((F ++ XS).length ≤ 1000000) := Lib.hid (by have := HLX.out; have := HLU.out; have := HFE.out; have := HFL.out; simp; omega)
  clear hs12 ho12 hl12
  go_wp2_with fail
  refine (CDE.out w12 _ _ K12.out HS12.out HL12.out).mono ?_
  rintro e w13 ⟨rfl, hk13⟩
  have K13 := Lib.hid (Kp.trans K12.out hk13); have HA13 := Lib.hid (HA12.out.keep hk13)
  clear hk13
  by_cases h0 : L = 0
  · have q0 : ((L : Int) == 0) = true := by rw [h0]; rfl
    clear h0
    go_wp2_with fail
    refine (CA.out w13 K13.out).mono ?_
    rintro e w14 ⟨rfl, hk14⟩
    have K14 := Lib.hid (Kp.trans K13.out hk14)
    clear hk14
    go_wp2_with fail
    go_ret
    exact ⟨rfl, Kp.trans HKR.out K14.out⟩
  have q0 : ((L : Int) == 0) = false := beq_eq_false_iff_ne.2 (by omega)
  have HL6 : Hid (6 ≤ L) := Lib.hid (by have := HLB.out; omega)
  have CF : Hid (∀ W, Calls Tryz.prog 29 #[.int .i64 at', .int .i64 L] W fun e w' => (∃ r : Nat, r < L ∧ e = .returned (.int .i64 r)) ∧ W = w') := Lib.hid (fun W => Fold_any at' HAT.out L (by have := HL6.out; omega) (by have := HLU.out; omega) W)
  clear h0
  go_wp2_with fail
  refine (CF.out w13).mono ?_
  rintro e w' ⟨⟨r, hr, rfl⟩, rfl⟩
  have HRR := Lib.hid hr
  clear hr q0
  go_wp2_with (at_builtin; refine wpList_ap (w := w13) rfl (.const (.slice none 0 0)) (.tmp 87) 42 rfl Tryz.underlying42 _ _ [] XS rfl rfl (Own.start w13) HA13.out (by have := HLX.out; have := HLU.out; have := HFE.out; have := HFL.out; simp; omega) ?_)
  intro v16 w16 ho16
  replace ho16 : Own w13 w16 v16 XS := ho16
  obtain ⟨ao16, c16, e16, -, -⟩ := ho16.form
  subst e16
  obtain ⟨g16, rfl, hg16, hc16, hf16, hput⟩ := ho16.putB r (by have := HLX.out; have := HRR.out; omega) (by have := HLX.out; have := HLU.out; omega)
  rw [← HLX.out] at hput ⊢
  have hxb := HA13.out.lt r
  obtain ⟨x, hx⟩ : ∃ x, x = XS[r]?.getD 0 := ⟨_, rfl⟩
  rw [← hx] at hc16 hxb
  obtain ⟨hxor, hyb⟩ := xorB x by' hxb HB.out
  obtain ⟨y, hy⟩ : ∃ y, y = x ^^^ by' := ⟨_, rfl⟩
  rw [← hy] at hxor hyb
  obtain ⟨hs17, hk17⟩ := hput y hyb
  have HS17 := Lib.hid hs17; have K17 := Lib.hid (Kp.trans K13.out hk17); have HA17 := Lib.hid (HA13.out.keep hk17)
  have HL17 : Hid ((XS.set r y).length ≤ 1000000) := Lib.hid (by rw [List.length_set]; have := HLX.out; have := HLU.out; omega)
  have hrf : (r : Int) < (L : Int) := by have := HRR.out; omega
  have hrc : (r : Int) ≤ (c3 : Int) := by have := HRR.out; have := HC3.out; omega
  clear hput hs17 hk17 hx hy hyb ho16 hg16 hxb
  go_wp2_with fail
  clear hc16 hf16 hxor
  refine (CDE.out _ _ _ K17.out HS17.out HL17.out).mono ?_
  rintro e w18 ⟨rfl, hk18⟩
  have K18 := Lib.hid (Kp.trans K17.out hk18)
  have HA18 := Lib.hid (HA17.out.keep hk18)
  clear hk18
  have hcut2 := HA18.out.cut 0 r (by omega) (by have := HRR.out; omega)
  rw [List.drop_zero] at hcut2
  have hsl2 : ∀ w, (Instr.slice 42 (.slice a3 L c3) none (some (.int .i64 r)) none).run Tryz.prog w = .ok (sliced a3 0 r c3 1) w := fun w => slice_to a3 L c3 r r rfl (by omega) w
  obtain ⟨a19, c19, hv, -, -, -⟩ := hcut2.open3
  obtain ⟨l19, hl19⟩ : ∃ n, n = (XS.take r).length := ⟨_, rfl⟩
  rw [← hl19] at hv
  rw [hv] at hcut2 hsl2
  have HS19 := Lib.hid hcut2
  have HL19 : Hid ((XS.take r).length ≤ 1000000) := Lib.hid (by rw [List.length_take]; have := HLX.out; have := HLU.out; omega)
  clear hcut2 hv hl19
  go_wp2_with fail
  refine (CDE.out _ _ _ K18.out HS19.out HL19.out).mono ?_
  rintro e w20 ⟨rfl, hk20⟩
  have K20 := Lib.hid (Kp.trans K18.out hk20)
  clear hk20 hsl2
  go_wp2_with fail
  refine (CA.out w20 K20.out).mono ?_
  rintro e w21 ⟨rfl, hk21⟩
  have K21 := Lib.hid (Kp.trans K20.out hk21)
  clear hk21
  go_wp2_with fail
  go_ret
  exact ⟨rfl, Kp.trans HKR.out K21.out⟩

set_option maxRecDepth 100000 in
set_option maxHeartbeats 16000000 in
theorem revBytes_long {zs : List Int} {ms : List Nat} {v vm : Value} {at' : Int} {by' kd : Nat} {w : World} (hz : SlI w v zs) (hat : -9223372036854775808 ≤ at' ∧ at' ≤ 9223372036854775807) (hb : by' < 256) (hkd : kd < 256) (hms : Sl w vm ms) (hml : 60 < ms.length) (hm : MX w) :
    Calls Tryz.prog 4 #[v, .int .i64 at', .int .u8 by', .int .u8 kd, vm] w fun e w' => e = .returned (.bool true) ∧ Kp w w' := by
  obtain ⟨mo, mc, rfl, hmc, hmm, -⟩ := hms.open3
  obtain ⟨ml, hmlen⟩ : ∃ ml, ml = ms.length := ⟨_, rfl⟩
  rw [← hmlen] at hms hmc hml ⊢
  have hz' := hz
  obtain ⟨⟨ao, cap, rfl, hc, hmx, hat2⟩, hlt, hsm⟩ := hz
  obtain ⟨len0, hlen⟩ : ∃ len, len = zs.length := ⟨_, rfl⟩
  rw [← hlen] at hz' ⊢
  obtain ⟨w1, hw1⟩ : ∃ w1, w1 = w.alloc (Obj.cells #[.slice ao len0 cap, .int .i64 0] 25) := ⟨_, rfl⟩
  have htp : Tp w w1 w.heap.size 0 := by
    rw [hw1]
    exact ⟨⟨ao, len0, cap, zs, hz', Blk.new _ _ _⟩, Kp.alloc (Kp.refl _) _, Nat.le_refl _⟩
  have HSP := Lib.hid (spoiled_q (n := 0) ⟨0, by omega, htp⟩)
  have HW1 := Lib.hid hw1; have HM := Lib.hid hm; have HAT := Lib.hid hat; have HB := Lib.hid hb
  obtain ⟨K, hK⟩ : ∃ K : Nat, K = 1 + kd % 4 := ⟨_, rfl⟩
  have eK : (1 : Int) + (kd : Int) % 4 = (K : Int) := by omega
  have HKB : Hid (1 ≤ K ∧ K ≤ 255) := Lib.hid (by omega)

  have i1 : (60 : Int) < (ml : Int) := by omega
  have qc : ∀ w, (Instr.slice 42 (.slice mo ml mc) none (some (.int .i64 60)) none).run Tryz.prog w = .ok (sliced mo 0 60 mc 1) w := fun w => slice_to mo ml mc 60 60 rfl (by omega) w
  have hcut := hms.cut 0 60 (by omega) (by omega)
  rw [List.drop_zero] at hcut
  obtain ⟨ns, hns⟩ : ∃ ns, ns = ms.take 60 := ⟨_, rfl⟩
  obtain ⟨ml0, hml0⟩ : ∃ x, x = ml := ⟨_, rfl⟩
  obtain ⟨mo0, hmo0⟩ : ∃ x, x = mo := ⟨_, rfl⟩
  obtain ⟨mc0, hmc0⟩ : ∃ x, x = mc := ⟨_, rfl⟩
  rw [← hns] at hcut
  have HML : Hid (ns.length ≤ 60) := Lib.hid (by rw [hns, List.length_take]; omega)
  obtain ⟨no, nc, hsl, -, -, -⟩ := hcut.open3
  obtain ⟨nl, hnl⟩ : ∃ x, x = ns.length := ⟨_, rfl⟩
  rw [← hnl] at hsl
  rw [hsl] at hcut qc
  have HMS : Hid (Sl w (.slice no nl nc) ns) := Lib.hid hcut
  clear hcut hns hml0 hmo0 hmc0 hsl hnl

  clear hms hml hmlen hmc hmm hz' hc hmx hat2 hlt hsm hlen hw1 htp hm hat hb hkd hK
  go_enter Tryz.func4, Tryz.ntmps4
  go_wp2_with fail
  rw [← HW1.out]
  refine HSP.out.mono ?_
  rintro e w2 ⟨⟨u, fs, rfl, hr, hf20⟩, hq, hg⟩
  have HK2 : Hid (Kp w w2) := Lib.hid hq.base
  have HF20 := Lib.hid hf20
  obtain ⟨ua, ul, uc, hu⟩ := hr.form
  subst hu
  obtain ⟨Wr, hWr⟩ : ∃ W, W = w2.alloc (.cells #[.slice ua ul uc] 28) := ⟨_, rfl⟩
  obtain ⟨rb, hrb⟩ : ∃ b, b = w2.heap.size := ⟨_, rfl⟩
  have k2 : Kp w2 Wr := by rw [hWr]; exact kp_alloc _ _
  have HKR : Hid (Kp w Wr) := Lib.hid (Kp.trans HK2.out k2)
  have RB : Hid (Blk Wr rb 28 #[.slice ua ul uc]) := Lib.hid (by rw [hWr, hrb]; exact Blk.new _ _ _)
  have HR : Hid (Rw Wr (.slice ua ul uc) fs) := Lib.hid (hr.keep k2)
  have HMR : Hid (∀ W, Kp Wr W → MX W) := Lib.hid (fun W hk => HM.out.keep (Kp.trans HKR.out hk))
  have HWR := Lib.hid hWr; have HRB := Lib.hid hrb
  obtain ⟨C, hC⟩ : ∃ C, C = chk fs := ⟨_, rfl⟩
  obtain ⟨XS, hXS⟩ : ∃ X, X = (if chk fs = 0 then enc fs else []) := ⟨_, rfl⟩
  obtain ⟨L, hL⟩ : ∃ L, L = XS.length := ⟨_, rfl⟩
  have HLB : Hid (L = 0 ∨ 6 ≤ L) := Lib.hid (by
    rw [hL, hXS]
    by_cases h0 : chk fs = 0
    · rw [if_pos h0]; exact .inr (encL_le h0 hf20).1
    · rw [if_neg h0]; exact .inl rfl)
  have HLU : Hid (L ≤ 400000) := Lib.hid (by
    rw [hL, hXS]
    by_cases h0 : chk fs = 0
    · rw [if_pos h0]; exact (encL_le h0 hf20).2
    · rw [if_neg h0]; simp)
  have CE : Hid (∀ W, Kp Wr W → Calls Tryz.prog 24 #[.agg #[.slice ua ul uc]] W fun e w' => ∃ a c, e = .returned (.tuple #[.slice a L c, .int .i64 C]) ∧ L ≤ c ∧ Sl w' (.slice a L c) XS ∧ Kp W w') := Lib.hid (fun W hk => (Encode_any (HR.out.keep hk) (HMR.out W hk)).mono (by
    intro e w' h
    obtain ⟨v, e1, hs, hk⟩ := h.sl
    rw [← hXS] at hs
    obtain ⟨a, c, rfl, hcc, -, -⟩ := hs.open3
    rw [← hL] at e1 hs hcc
    rw [← hC] at e1
    exact ⟨a, c, e1, hcc, hs, hk⟩))
  have CE2 : Hid (∀ W, Kp Wr W → Calls Tryz.prog 25 #[.agg #[.slice ua ul uc]] W fun e w' => ∃ a c, e = .returned (.tuple #[.slice a L c, .int .i64 C]) ∧ Sl w' (.slice a L c) XS ∧ Kp W w') := Lib.hid (fun W hk => (rEncode_any (HR.out.keep hk)).mono (by
    intro e w' h
    obtain ⟨v, e1, hs, hk⟩ := h.sl
    rw [← hXS] at hs
    obtain ⟨a, c, rfl, hcc, -, -⟩ := hs.open3
    rw [← hL] at e1 hs hcc
    rw [← hC] at e1
    exact ⟨a, c, e1, hs, hk⟩))
  have CDE : Hid (∀ W v xs, Kp Wr W → Sl W v xs → xs.length ≤ 1000000 → Calls Tryz.prog 28 #[v] W fun e w' => e = .returned (.bool true) ∧ Kp W w') := Lib.hid (fun W v xs hk hs hl => decodes_any hs hl (HMR.out W hk))
  have CA : Hid (∀ W, Kp Wr W → Calls Tryz.prog 23 #[] W fun e w' => e = .returned (.bool true) ∧ Kp W w') := Lib.hid (fun W hk => rvAwake_any (HMR.out W hk))
  have qC : ((C : Int) != (C : Int)) = false := by simp
  have HLX := Lib.hid hL
  have x0 := RB.out.cell 0 rfl
  rw [hWr, hrb] at x0
  clear hr hf20 hq hg hWr hrb k2 hC hXS hL
  go_wp2_with fail
  rw [← HWR.out, ← HRB.out]
  refine (CE.out Wr (Kp.refl _)).mono ?_
  rintro e w3 ⟨a3, c3, rfl, hc3, hs3, hk3⟩
  have K3 := Lib.hid hk3; have HS3 := Lib.hid hs3; have HC3 := Lib.hid hc3
  have x3 := (RB.out.keep hk3).cell 0 rfl
  clear x0 hs3 hk3 hc3
  go_wp2_with fail
  refine (CE2.out w3 K3.out).mono ?_
  rintro e w4 ⟨a4, c4, rfl, hs4, hk4⟩
  have K4 := Lib.hid (Kp.trans K3.out hk4); have HS4 := Lib.hid hs4; have HA4 := Lib.hid (HS3.out.keep hk4)
  clear x3 hs4 hk4
  go_wp2_with fail
  refine (Same_any HA4.out HS4.out).mono ?_
  rintro e w' ⟨rfl, rfl⟩
  have hyy : decide (XS = XS) = true := by simp
  rw [hyy]
  clear hyy
  have HM4 := Lib.hid (HMS.out.keep (Kp.trans HKR.out K4.out))
  go_wp2_with fail
  clear eK
  refine (rFrame_ok (k := K) HM4.out HKB.out.1 HKB.out.2 (by have := HML.out; omega)).mono ?_
  rintro e w6 ⟨⟨v6, rfl, hs6, -⟩, hk6⟩
  obtain ⟨a6, c6, hv6, -, -, -⟩ := hs6.open3
  obtain ⟨F, hF⟩ : ∃ F, F = fr K ns := ⟨_, rfl⟩
  rw [← hF] at hs6 hv6
  obtain ⟨FL, hFL⟩ : ∃ l, l = F.length := ⟨_, rfl⟩
  have HFL : Hid (FL ≤ 1000) := Lib.hid (by
    rw [hFL, hF, fr_len]
    have h1 := HML.out
    have h2 := uv_ten (n := ns.length) (by omega)
    omega)
  rw [← hFL] at hv6
  subst hv6
  have HFE := Lib.hid hFL
  have K6 := Lib.hid (Kp.trans K4.out hk6); have HA6 := Lib.hid (HA4.out.keep hk6); have HX6 := Lib.hid hs6
  clear hs6 hk6 hF hFL
  go_wp2_with fail
  refine (CDE.out w6 _ XS K6.out HA6.out (by have := HLX.out; have := HLU.out; omega)).mono ?_
  rintro e w7 ⟨rfl, hk7⟩
  have K7 := Lib.hid (Kp.trans K6.out hk7); have HA7 := Lib.hid (HA6.out.keep hk7); have HX7 := Lib.hid (HX6.out.keep hk7)
  clear hk7
  go_wp2_with (at_builtin; refine wpList_yes (by simp [Region.wanted, yielded]) ?_; refine wpList_ap (w := w7) rfl (.const (.slice none 0 0)) (.tmp 64) 42 rfl Tryz.underlying42 _ _ [] XS rfl rfl (Own.start w7) HA7.out (by have := HLX.out; have := HLU.out; simp; omega) ?_)
  intro v8 w8 ho8
  replace ho8 : Own w7 w8 v8 XS := ho8
  obtain ⟨ao8, c8, e8, -, -⟩ := ho8.form
  rw [← HLX.out] at e8
  subst e8
  have HO8 := Lib.hid ho8; have HX8 := Lib.hid (HX7.out.keep ho8.kp)
  clear ho8
  go_wp2_with (at_builtin; refine wpList_yes (by simp [Region.wanted, yielded]) ?_; refine wpList_ap (w := w7) rfl (.tmp 65) (.tmp 66) 42 rfl Tryz.underlying42 _ _ XS F rfl rfl HO8.out HX8.out (by have := HLX.out; have := HLU.out; have := HFE.out; have := HFL.out; simp; omega) ?_)
  intro v9 w9 ho9
  have hs9 := ho9.sl (by have := HLX.out; have := HLU.out; have := HFE.out; have := HFL.out; simp; omega)
  obtain ⟨ao9, c9, e9, -, -, -⟩ := hs9.open3
  obtain ⟨l9, hl9⟩ : ∃ l, l = (XS ++ F).length := ⟨_, rfl⟩
  rw [← hl9] at e9
  subst e9
  have HS9 := Lib.hid hs9; have K9 := Lib.hid (Kp.trans K7.out ho9.kp); have HA9 := Lib.hid (HA7.out.keep ho9.kp); have HX9 := Lib.hid (HX7.out.keep ho9.kp)
  have HL9 : Hid ((XS ++ F).length ≤ 1000000) := Lib.hid (by have := HLX.out; have := HLU.out; have := HFE.out; have := HFL.out; simp; omega)
  clear hs9 ho9 hl9
  go_wp2_with fail
  refine (CDE.out w9 _ _ K9.out HS9.out HL9.out).mono ?_
  rintro e w10 ⟨rfl, hk10⟩
  have K10 := Lib.hid (Kp.trans K9.out hk10); have HA10 := Lib.hid (HA9.out.keep hk10); have HX10 := Lib.hid (HX9.out.keep hk10)
  clear hk10
  go_wp2_with (at_builtin; refine wpList_yes (by simp [Region.wanted, yielded]) ?_; refine wpList_ap (w := w10) rfl (.const (.slice none 0 0)) (.tmp 72) 42 rfl Tryz.underlying42 _ _ [] F rfl rfl (Own.start w10) HX10.out (by have := HLX.out; have := HLU.out; have := HFE.out; have := HFL.out; simp; omega) ?_)
  intro v11 w11 ho11
  replace ho11 : Own w10 w11 v11 F := ho11
  obtain ⟨ao11, c11, e11, -, -⟩ := ho11.form
  rw [← HFE.out] at e11
  subst e11
  have HO11 := Lib.hid ho11; have HA11 := Lib.hid (HA10.out.keep ho11.kp)
  clear ho11
  go_wp2_with (at_builtin; refine wpList_yes (by simp [Region.wanted, yielded]) ?_; refine wpList_ap (w := w10) rfl (.tmp 73) (.tmp 74) 42 rfl Tryz.underlying42 _ _ F XS rfl rfl HO11.out HA11.out (by have := HLX.out; have := HLU.out; have := HFE.out; have := HFL.out; simp; omega) ?_)
  intro v12 w12 ho12
  have hs12 := ho12.sl (by have := HLX.out; have := HLU.out; have := HFE.out; have := HFL.out; simp; omega)
  obtain ⟨ao12, c12, e12, -, -, -⟩ := hs12.open3
  obtain ⟨l12, hl12⟩ : ∃ l, l = (F ++ XS).length := ⟨_, rfl⟩
  rw [← hl12] at e12
  subst e12
  have HS12 := Lib.hid hs12; have K12 := Lib.hid (Kp.trans K10.out ho12.kp); have HA12 := Lib.hid (HA10.out.keep ho12.kp)
  have HL12 : Hid ((F ++ XS).length ≤ 1000000) := Lib.hid (by have := HLX.out; have := HLU.out; have := HFE.out; have := HFL.out; simp; omega)
  clear hs12 ho12 hl12
  go_wp2_with fail
  refine (CDE.out w12 _ _ K12.out HS12.out HL12.out).mono ?_
  rintro e w13 ⟨rfl, hk13⟩
  have K13 := Lib.hid (Kp.trans K12.out hk13); have HA13 := Lib.hid (HA12.out.keep hk13)
  clear hk13
  by_cases h0 : L = 0
  · have q0 : ((L : Int) == 0) = true := by rw [h0]; rfl
    clear h0
    go_wp2_with fail
    refine (CA.out w13 K13.out).mono ?_
    rintro e w14 ⟨rfl, hk14⟩
    have K14 := Lib.hid (Kp.trans K13.out hk14)
    clear hk14
    go_wp2_with fail
    go_ret
    exact ⟨rfl, Kp.trans HKR.out K14.out⟩
  have q0 : ((L : Int) == 0) = false := beq_eq_false_iff_ne.2 (by omega)
  have HL6 : Hid (6 ≤ L) := Lib.hid (by have := HLB.out; omega)
  have CF : Hid (∀ W, Calls Tryz.prog 29 #[.int .i64 at', .int .i64 L] W fun e w' => (∃ r : Nat, r < L ∧ e = .returned (.int .i64 r)) ∧ W = w') := Lib.hid (fun W => Fold_any at' HAT.out L (by have := HL6.out; omega) (by have := HLU.out; omega) W)
  clear h0
  go_wp2_with fail
  refine (CF.out w13).mono ?_
  rintro e w' ⟨⟨r, hr, rfl⟩, rfl⟩
  have HRR := Lib.hid hr
  clear hr q0
  go_wp2_with (at_builtin; refine wpList_ap (w := w13) rfl (.const (.slice none 0 0)) (.tmp 87) 42 rfl Tryz.underlying42 _ _ [] XS rfl rfl (Own.start w13) HA13.out (by have := HLX.out; have := HLU.out; have := HFE.out; have := HFL.out; simp; omega) ?_)
  intro v16 w16 ho16
  replace ho16 : Own w13 w16 v16 XS := ho16
  obtain ⟨ao16, c16, e16, -, -⟩ := ho16.form
  subst e16
  obtain ⟨g16, rfl, hg16, hc16, hf16, hput⟩ := ho16.putB r (by have := HLX.out; have := HRR.out; omega) (by have := HLX.out; have := HLU.out; omega)
  rw [← HLX.out] at hput ⊢
  have hxb := HA13.out.lt r
  obtain ⟨x, hx⟩ : ∃ x, x = XS[r]?.getD 0 := ⟨_, rfl⟩
  rw [← hx] at hc16 hxb
  obtain ⟨hxor, hyb⟩ := xorB x by' hxb HB.out
  obtain ⟨y, hy⟩ : ∃ y, y = x ^^^ by' := ⟨_, rfl⟩
  rw [← hy] at hxor hyb
  obtain ⟨hs17, hk17⟩ := hput y hyb
  have HS17 := Lib.hid hs17; have K17 := Lib.hid (Kp.trans K13.out hk17); have HA17 := Lib.hid (HA13.out.keep hk17)
  have HL17 : Hid ((XS.set r y).length ≤ 1000000) := Lib.hid (by rw [List.length_set]; have := HLX.out; have := HLU.out; omega)
  have hrf : (r : Int) < (L : Int) := by have := HRR.out; omega
  have hrc : (r : Int) ≤ (c3 : Int) := by have := HRR.out; have := HC3.out; omega
  clear hput hs17 hk17 hx hy hyb ho16 hg16 hxb
  go_wp2_with fail
  clear hc16 hf16 hxor
  refine (CDE.out _ _ _ K17.out HS17.out HL17.out).mono ?_
  rintro e w18 ⟨rfl, hk18⟩
  have K18 := Lib.hid (Kp.trans K17.out hk18)
  have HA18 := Lib.hid (HA17.out.keep hk18)
  clear hk18
  have hcut2 := HA18.out.cut 0 r (by omega) (by have := HRR.out; omega)
  rw [List.drop_zero] at hcut2
  have hsl2 : ∀ w, (Instr.slice 42 (.slice a3 L c3) none (some (.int .i64 r)) none).run Tryz.prog w = .ok (sliced a3 0 r c3 1) w := fun w => slice_to a3 L c3 r r rfl (by omega) w
  obtain ⟨a19, c19, hv, -, -, -⟩ := hcut2.open3
  obtain ⟨l19, hl19⟩ : ∃ n, n = (XS.take r).length := ⟨_, rfl⟩
  rw [← hl19] at hv
  rw [hv] at hcut2 hsl2
  have HS19 := Lib.hid hcut2
  have HL19 : Hid ((XS.take r).length ≤ 1000000) := Lib.hid (by rw [List.length_take]; have := HLX.out; have := HLU.out; omega)
  clear hcut2 hv hl19
  go_wp2_with fail
  refine (CDE.out _ _ _ K18.out HS19.out HL19.out).mono ?_
  rintro e w20 ⟨rfl, hk20⟩
  have K20 := Lib.hid (Kp.trans K18.out hk20)
  clear hk20 hsl2
  go_wp2_with fail
  refine (CA.out w20 K20.out).mono ?_
  rintro e w21 ⟨rfl, hk21⟩
  have K21 := Lib.hid (Kp.trans K20.out hk21)
  clear hk21
  go_wp2_with fail
  go_ret
  exact ⟨rfl, Kp.trans HKR.out K21.out⟩

theorem revBytes_any {zs : List Int} {ms : List Nat} {v vm : Value} {at' : Int} {by' kd : Nat} {w : World} (hz : SlI w v zs) (hat : -9223372036854775808 ≤ at' ∧ at' ≤ 9223372036854775807) (hb : by' < 256) (hkd : kd < 256) (hms : Sl w vm ms) (hm : MX w) :
    Calls Tryz.prog 4 #[v, .int .i64 at', .int .u8 by', .int .u8 kd, vm] w fun e w' => e = .returned (.bool true) ∧ Kp w w' := by
  by_cases h : ms.length ≤ 60
  · exact revBytes_short hz hat hb hkd hms h hm
  · exact revBytes_long hz hat hb hkd hms (by omega) hm
theorem revBytes_row {w : World} (hm : MX w) {v : Value} {zs : List Int} (hs : SlI w v zs) (z : Int) (hz : -9223372036854775808 ≤ z ∧ z ≤ 9223372036854775807) (b : Nat) (hb : b < 256) (k : Nat) (hk : k < 256) {vm : Value} {ms : List Nat} (hms : Sl w vm ms) : Calls Tryz.prog 4 #[v, .int .i64 z, .int .u8 b, .int .u8 k, vm] w fun e w' => e = .returned (.bool true) ∧ Kp w w' := revBytes_any hs hz hb hk hms hm
end By
end Go.Proofs.YtmkijkaabcgcbaaGreatDoor
