/- The law of the bytes of stores, over what is asked of the program's functions. No condition. -/
import Derived.Test.YtlfoikjbbbhbdaaCtW
import Derived.Test.YtlfoikjbbbhbdaaCtS
import Derived.Test.YtlfoikjbbbhbdaaRbA
namespace Go.Proofs.Ytlfoikjbbbhbdaa
namespace By
open Go.RowKit WireN CtN
set_option linter.unusedVariables false
set_option linter.unusedSimpArgs false

def EncC : Prop := ∀ {w : World} {v : Value} {ts : List Tx}, Tw w v ts → (∀ x ∈ ts, x.length ≤ 600) → Calls Try.prog 25 #[.agg #[v]] w (EncR ts w)
theorem enB_len {ts : List Tx} (h : ∀ x ∈ ts, x.length ≤ 2) (hl : ts.length ≤ 8) : (enB ts).length ≤ 5000 ∧ ((enB ts).length = 0 ∨ 2 ≤ (enB ts).length) := by
  unfold enB
  split
  · refine ⟨?_, ?_⟩
    · have := encT_len (ts := ts) (fun x hx => by have := h x hx; omega)
      omega
    · cases ts with
      | nil => exact .inl rfl
      | cons t ts =>
        right
        show 2 ≤ (fr 3 t ++ encT ts).length
        have := fr_len 3 t
        rw [List.length_append]
        omega
  · exact ⟨by simp, .inl rfl⟩
set_option maxRecDepth 100000 in
set_option maxHeartbeats 16000000 in
theorem ctBytes_short (HE : EncC) (HD : DecC) (HP : PutC) (HG : GetC) {zs : List Int} {ms : List Nat} {v vm : Value} {at' : Int} {by' : Nat} {w : World} (hz : SlI w v zs) (hat : -9223372036854775808 ≤ at' ∧ at' ≤ 9223372036854775807) (hb : by' < 256) (hms : Sl w vm ms) (hml : ms.length ≤ 300) :
    Calls Try.prog 4 #[v, vm, .int .i64 at', .int .u8 by'] w fun e w' => e = .returned (.bool true) ∧ Kp w w' := by
  obtain ⟨mo, mc, rfl, hmc, hmm, -⟩ := hms.open3
  obtain ⟨ml, hmlen⟩ : ∃ ml, ml = ms.length := ⟨_, rfl⟩
  rw [← hmlen] at hms hmc hml ⊢
  have hz' := hz
  obtain ⟨⟨ao, cap, rfl, hc, hmx, hat2⟩, hlt, hsm⟩ := hz
  obtain ⟨len0, hlen⟩ : ∃ len, len = zs.length := ⟨_, rfl⟩
  rw [← hlen] at hz' ⊢
  obtain ⟨w1, hw1⟩ : ∃ w1, w1 = w.alloc (Obj.cells #[.slice ao len0 cap, .int .i64 0] 28) := ⟨_, rfl⟩
  have htp : Tp w w1 w.heap.size 0 := by
    rw [hw1]
    exact ⟨⟨ao, len0, cap, zs, hz', Blk.new _ _ _⟩, Kp.alloc (Kp.refl _) _, Nat.le_refl _⟩
  have HSP := Lib.hid (storeL_any (n := 0) ⟨0, by omega, htp⟩)
  have HW1 := Lib.hid hw1; have HAT := Lib.hid hat; have HB := Lib.hid hb
  have i1 : (ml : Int) ≤ 300 := by omega
  have HMS : Hid (Sl w (.slice mo ml mc) ms) := Lib.hid hms
  have HML : Hid (ms.length ≤ 300) := Lib.hid (by omega)
  clear hms hml hmlen hmc hmm hz' hc hmx hat2 hlt hsm hlen hw1 htp hat hb
  go_enter Try.func4, Try.ntmps4
  go_wp2_with fail
  rw [← HW1.out]
  refine HSP.out.mono ?_
  rintro e w2 ⟨u, ts, rfl, hr, htl, hts, -, hq, -⟩
  have HK2 : Hid (Kp w w2) := Lib.hid hq.base
  obtain ⟨ua, uc, hu, -⟩ := hr.open3
  obtain ⟨ul, hul⟩ : ∃ ul, ul = ts.length := ⟨_, rfl⟩
  rw [← hul] at hu
  subst hu
  obtain ⟨Wr, hWr⟩ : ∃ W, W = w2.alloc (.cells #[.slice ua ul uc] 25) := ⟨_, rfl⟩
  obtain ⟨rb, hrb⟩ : ∃ b, b = w2.heap.size := ⟨_, rfl⟩
  have k2 : Kp w2 Wr := by rw [hWr]; exact kp_alloc _ _
  have HKR : Hid (Kp w Wr) := Lib.hid (Kp.trans HK2.out k2)
  have RB : Hid (Blk Wr rb 25 #[.slice ua ul uc]) := Lib.hid (by rw [hWr, hrb]; exact Blk.new _ _ _)
  have HR : Hid (Tw Wr (.slice ua ul uc) ts) := Lib.hid (hr.keep k2)
  have HWR := Lib.hid hWr; have HRB := Lib.hid hrb
  have h600 : ∀ x ∈ ts, x.length ≤ 600 := fun x hx => by have := hts x hx; omega
  obtain ⟨C, hC⟩ : ∃ C, C = err ts := ⟨_, rfl⟩
  obtain ⟨XS, hXS⟩ : ∃ X, X = enB ts := ⟨_, rfl⟩
  obtain ⟨L, hL⟩ : ∃ L, L = XS.length := ⟨_, rfl⟩
  have HLB : Hid (L = 0 ∨ 2 ≤ L) := Lib.hid (by rw [hL, hXS]; exact (enB_len hts htl).2)
  have HLU : Hid (L ≤ 5000) := Lib.hid (by rw [hL, hXS]; exact (enB_len hts htl).1)
  have CE : Hid (∀ W, Kp Wr W → Calls Try.prog 25 #[.agg #[.slice ua ul uc]] W fun e w' => ∃ a c, e = .returned (.tuple #[.slice a L c, .int .i64 C]) ∧ L ≤ c ∧ Sl w' (.slice a L c) XS ∧ Kp W w') := Lib.hid (fun W hk => (HE (HR.out.keep hk) h600).mono (by
    rintro e w' ⟨v, e1, hs, -, hk⟩
    rw [← hXS] at hs
    obtain ⟨a, c, rfl, hcc, -, -⟩ := hs.open3
    rw [← hL] at e1 hs hcc
    rw [← hC] at e1
    exact ⟨a, c, e1, hcc, hs, hk⟩))
  have CE2 : Hid (∀ W, Kp Wr W → Calls Try.prog 26 #[.agg #[.slice ua ul uc]] W fun e w' => ∃ a c, e = .returned (.tuple #[.slice a L c, .int .i64 C]) ∧ Sl w' (.slice a L c) XS ∧ Kp W w') := Lib.hid (fun W hk => (rEncT_any (HR.out.keep hk) h600).mono (by
    rintro e w' ⟨v, e1, hs, -, hk⟩
    rw [← hXS] at hs
    obtain ⟨a, c, rfl, hcc, -, -⟩ := hs.open3
    rw [← hL] at e1 hs hcc
    rw [← hC] at e1
    exact ⟨a, c, e1, hs, hk⟩))
  have CDE : Hid (∀ W v xs, Kp Wr W → Sl W v xs → xs.length ≤ 1000000 → Calls Try.prog 28 #[v] W fun e w' => e = .returned (.bool true) ∧ Kp W w') := Lib.hid (fun W v xs hk hs hl => decodes_any HD hs hl)
  have CA : Hid (∀ W, Kp Wr W → Calls Try.prog 24 #[] W fun e w' => e = .returned (.bool true) ∧ Kp W w') := Lib.hid (fun W hk => awake13_any HP HG W)
  have qC : ((C : Int) != (C : Int)) = false := by simp
  have HLX := Lib.hid hL
  have x0 := RB.out.cell 0 rfl
  rw [hWr, hrb] at x0
  clear hr htl hts hq hWr hrb k2 hC hXS hL h600 hul
  go_wp2_with fail
  rw [← HWR.out, ← HRB.out]
  refine (CE.out Wr (Kp.refl _)).mono ?_
  rintro e w3 ⟨a3, c3, rfl, hc3, hs3, hk3⟩
  have K3 := Lib.hid hk3; have HS3 := Lib.hid hs3; have HC3 := Lib.hid hc3
  have x3 := (RB.out.keep hk3).cell 0 rfl
  clear x0 hs3 hk3 hc3
  go_wp2_with fail
  refine (CE2.out w3 K3.out).mono ?_
  rintro e w4 ⟨a4, c4, rfl, hs4, hk4⟩
  have K4 := Lib.hid (Kp.trans K3.out hk4); have HS4 := Lib.hid hs4; have HA4 := Lib.hid (HS3.out.keep hk4)
  clear x3 hs4 hk4
  go_wp2_with fail
  refine (Same_any HA4.out HS4.out).mono ?_
  rintro e w' ⟨rfl, rfl⟩
  have hyy : decide (XS = XS) = true := by simp
  rw [hyy]
  clear hyy
  have HM4 := Lib.hid (HMS.out.keep (Kp.trans HKR.out K4.out))
  go_wp2_with fail
  refine (CDE.out w4 _ XS K4.out HA4.out (by have := HLX.out; have := HLU.out; omega)).mono ?_
  rintro e w6 ⟨rfl, hk6⟩
  have K6 := Lib.hid (Kp.trans K4.out hk6); have HA6 := Lib.hid (HA4.out.keep hk6); have HM6 := Lib.hid (HM4.out.keep hk6)
  clear hk6
  go_wp2_with fail
  refine (CDE.out w6 _ ms K6.out HM6.out (by have := HML.out; omega)).mono ?_
  rintro e w7 ⟨rfl, hk7⟩
  have K7 := Lib.hid (Kp.trans K6.out hk7); have HA7 := Lib.hid (HA6.out.keep hk7)
  clear hk7
  go_wp2_with (at_builtin; refine wpList_yes (by simp [Region.wanted, yielded]) ?_; refine wpList_ap (w := w7) rfl (.const (.slice none 0 0)) (.tmp 53) 48 rfl Try.underlying48 _ _ [] XS rfl rfl (Own.start w7) HA7.out (by have := HLX.out; have := HLU.out; simp; omega) ?_)
  intro v8 w8 ho8
  replace ho8 : Own w7 w8 v8 XS := ho8
  obtain ⟨ao8, c8, e8, -, -⟩ := ho8.form
  rw [← HLX.out] at e8
  subst e8
  have HO8 := Lib.hid ho8; have HA8 := Lib.hid (HA7.out.keep ho8.kp)
  clear ho8
  go_wp2_with (at_builtin; refine wpList_yes (by simp [Region.wanted, yielded]) ?_; refine wpList_ap (w := w7) rfl (.tmp 54) (.tmp 55) 48 rfl Try.underlying48 _ _ XS XS rfl rfl HO8.out HA8.out (by have := HLX.out; have := HLU.out; omega) ?_)
  intro v9 w9 ho9
  have hs9 := ho9.sl (by have := HLX.out; have := HLU.out; simp; omega)
  obtain ⟨ao9, c9, e9, -, -, -⟩ := hs9.open3
  obtain ⟨l9, hl9⟩ : ∃ l, l = (XS ++ XS).length := ⟨_, rfl⟩
  rw [← hl9] at e9
  subst e9
  have HS9 := Lib.hid hs9; have K9 := Lib.hid (Kp.trans K7.out ho9.kp); have HA9 := Lib.hid (HA7.out.keep ho9.kp)
  have HL9 : Hid ((XS ++ XS).length ≤ 1000000) := Lib.hid (by have := HLX.out; have := HLU.out; simp; omega)
  clear hs9 ho9 hl9
  go_wp2_with fail
  refine (CDE.out w9 _ _ K9.out HS9.out HL9.out).mono ?_
  rintro e w13 ⟨rfl, hk13⟩
  have K13 := Lib.hid (Kp.trans K9.out hk13); have HA13 := Lib.hid (HA9.out.keep hk13)
  clear hk13
  by_cases h0 : L = 0
  · have q0 : ((L : Int) == 0) = true := by rw [h0]; rfl
    clear h0
    go_wp2_with fail
    refine (CA.out w13 K13.out).mono ?_
    rintro e w14 ⟨rfl, hk14⟩
    have K14 := Lib.hid (Kp.trans K13.out hk14)
    clear hk14
    go_wp2_with fail
    go_ret
    exact ⟨rfl, Kp.trans HKR.out K14.out⟩
  have q0 : ((L : Int) == 0) = false := beq_eq_false_iff_ne.2 (by omega)
  have HL6 : Hid (2 ≤ L) := Lib.hid (by have := HLB.out; omega)
  have CF : Hid (∀ W, Calls Try.prog 29 #[.int .i64 at', .int .i64 L] W fun e w' => (∃ r : Nat, r < L ∧ e = .returned (.int .i64 r)) ∧ W = w') := Lib.hid (fun W => Fold_any at' HAT.out L (by have := HL6.out; omega) (by have := HLU.out; omega) W)
  clear h0
  go_wp2_with fail
  refine (CF.out w13).mono ?_
  rintro e w' ⟨⟨r, hr, rfl⟩, rfl⟩
  have HRR := Lib.hid hr
  clear hr q0
  go_wp2_with (at_builtin; refine wpList_ap (w := w13) rfl (.const (.slice none 0 0)) (.tmp 68) 48 rfl Try.underlying48 _ _ [] XS rfl rfl (Own.start w13) HA13.out (by have := HLX.out; have := HLU.out; simp; omega) ?_)
  intro v16 w16 ho16
  replace ho16 : Own w13 w16 v16 XS := ho16
  obtain ⟨ao16, c16, e16, -, -⟩ := ho16.form
  subst e16
  obtain ⟨g16, rfl, hg16, hc16, hf16, hput⟩ := ho16.putB r (by have := HLX.out; have := HRR.out; omega) (by have := HLX.out; have := HLU.out; omega)
  rw [← HLX.out] at hput ⊢
  have hxb := HA13.out.lt r
  obtain ⟨x, hx⟩ : ∃ x, x = XS[r]?.getD 0 := ⟨_, rfl⟩
  rw [← hx] at hc16 hxb
  obtain ⟨hxor, hyb⟩ := xorB x by' hxb HB.out
  obtain ⟨y, hy⟩ : ∃ y, y = x ^^^ by' := ⟨_, rfl⟩
  rw [← hy] at hxor hyb
  obtain ⟨hs17, hk17⟩ := hput y hyb
  have HS17 := Lib.hid hs17; have K17 := Lib.hid (Kp.trans K13.out hk17); have HA17 := Lib.hid (HA13.out.keep hk17)
  have HL17 : Hid ((XS.set r y).length ≤ 1000000) := Lib.hid (by rw [List.length_set]; have := HLX.out; have := HLU.out; omega)
  have hrf : (r : Int) < (L : Int) := by have := HRR.out; omega
  have hrc : (r : Int) ≤ (c3 : Int) := by have := HRR.out; have := HC3.out; omega
  clear hput hs17 hk17 hx hy hyb ho16 hg16 hxb
  go_wp2_with fail
  clear hc16 hf16 hxor
  refine (CDE.out _ _ _ K17.out HS17.out HL17.out).mono ?_
  rintro e w18 ⟨rfl, hk18⟩
  have K18 := Lib.hid (Kp.trans K17.out hk18)
  have HA18 := Lib.hid (HA17.out.keep hk18)
  clear hk18
  have hcut2 := HA18.out.cut 0 r (by omega) (by have := HRR.out; omega)
  rw [List.drop_zero] at hcut2
  have hsl2 : ∀ w, (Instr.slice 48 (.slice a3 L c3) none (some (.int .i64 r)) none).run Try.prog w = .ok (sliced a3 0 r c3 1) w := fun w => slice_to a3 L c3 r r rfl (by omega) w
  obtain ⟨a19, c19, hv, -, -, -⟩ := hcut2.open3
  obtain ⟨l19, hl19⟩ : ∃ n, n = (XS.take r).length := ⟨_, rfl⟩
  rw [← hl19] at hv
  rw [hv] at hcut2 hsl2
  have HS19 := Lib.hid hcut2
  have HL19 : Hid ((XS.take r).length ≤ 1000000) := Lib.hid (by rw [List.length_take]; have := HLX.out; have := HLU.out; omega)
  clear hcut2 hv hl19
  go_wp2_with fail
  refine (CDE.out _ _ _ K18.out HS19.out HL19.out).mono ?_
  rintro e w20 ⟨rfl, hk20⟩
  have K20 := Lib.hid (Kp.trans K18.out hk20)
  clear hk20 hsl2
  go_wp2_with fail
  refine (CA.out w20 K20.out).mono ?_
  rintro e w21 ⟨rfl, hk21⟩
  have K21 := Lib.hid (Kp.trans K20.out hk21)
  clear hk21
  go_wp2_with fail
  go_ret
  exact ⟨rfl, Kp.trans HKR.out K21.out⟩
set_option maxRecDepth 100000 in
set_option maxHeartbeats 16000000 in
theorem ctBytes_long (HE : EncC) (HD : DecC) (HP : PutC) (HG : GetC) {zs : List Int} {ms : List Nat} {v vm : Value} {at' : Int} {by' : Nat} {w : World} (hz : SlI w v zs) (hat : -9223372036854775808 ≤ at' ∧ at' ≤ 9223372036854775807) (hb : by' < 256) (hms : Sl w vm ms) (hml : 300 < ms.length) :
    Calls Try.prog 4 #[v, vm, .int .i64 at', .int .u8 by'] w fun e w' => e = .returned (.bool true) ∧ Kp w w' := by
  obtain ⟨mo, mc, rfl, hmc, hmm, -⟩ := hms.open3
  obtain ⟨ml, hmlen⟩ : ∃ ml, ml = ms.length := ⟨_, rfl⟩
  rw [← hmlen] at hms hmc hml ⊢
  have hz' := hz
  obtain ⟨⟨ao, cap, rfl, hc, hmx, hat2⟩, hlt, hsm⟩ := hz
  obtain ⟨len0, hlen⟩ : ∃ len, len = zs.length := ⟨_, rfl⟩
  rw [← hlen] at hz' ⊢
  obtain ⟨w1, hw1⟩ : ∃ w1, w1 = w.alloc (Obj.cells #[.slice ao len0 cap, .int .i64 0] 28) := ⟨_, rfl⟩
  have htp : Tp w w1 w.heap.size 0 := by
    rw [hw1]
    exact ⟨⟨ao, len0, cap, zs, hz', Blk.new _ _ _⟩, Kp.alloc (Kp.refl _) _, Nat.le_refl _⟩
  have HSP := Lib.hid (storeL_any (n := 0) ⟨0, by omega, htp⟩)
  have HW1 := Lib.hid hw1; have HAT := Lib.hid hat; have HB := Lib.hid hb
  have i1 : (300 : Int) < (ml : Int) := by omega
  have qc : ∀ w, (Instr.slice 48 (.slice mo ml mc) none (some (.int .i64 300)) none).run Try.prog w = .ok (sliced mo 0 300 mc 1) w := fun w => slice_to mo ml mc 300 300 rfl (by omega) w
  have hcut := hms.cut 0 300 (by omega) (by omega)
  rw [List.drop_zero] at hcut
  obtain ⟨ns, hns⟩ : ∃ ns, ns = ms.take 300 := ⟨_, rfl⟩
  rw [← hns] at hcut
  have HML : Hid (ns.length ≤ 300) := Lib.hid (by rw [hns, List.length_take]; omega)
  obtain ⟨no, nc, hsl, -, -, -⟩ := hcut.open3
  obtain ⟨nl, hnl⟩ : ∃ x, x = ns.length := ⟨_, rfl⟩
  rw [← hnl] at hsl
  rw [hsl] at hcut qc
  have HMS : Hid (Sl w (.slice no nl nc) ns) := Lib.hid hcut
  clear hcut hns hsl hnl
  clear hms hml hmlen hmc hmm hz' hc hmx hat2 hlt hsm hlen hw1 htp hat hb
  go_enter Try.func4, Try.ntmps4
  go_wp2_with fail
  rw [← HW1.out]
  refine HSP.out.mono ?_
  rintro e w2 ⟨u, ts, rfl, hr, htl, hts, -, hq, -⟩
  have HK2 : Hid (Kp w w2) := Lib.hid hq.base
  obtain ⟨ua, uc, hu, -⟩ := hr.open3
  obtain ⟨ul, hul⟩ : ∃ ul, ul = ts.length := ⟨_, rfl⟩
  rw [← hul] at hu
  subst hu
  obtain ⟨Wr, hWr⟩ : ∃ W, W = w2.alloc (.cells #[.slice ua ul uc] 25) := ⟨_, rfl⟩
  obtain ⟨rb, hrb⟩ : ∃ b, b = w2.heap.size := ⟨_, rfl⟩
  have k2 : Kp w2 Wr := by rw [hWr]; exact kp_alloc _ _
  have HKR : Hid (Kp w Wr) := Lib.hid (Kp.trans HK2.out k2)
  have RB : Hid (Blk Wr rb 25 #[.slice ua ul uc]) := Lib.hid (by rw [hWr, hrb]; exact Blk.new _ _ _)
  have HR : Hid (Tw Wr (.slice ua ul uc) ts) := Lib.hid (hr.keep k2)
  have HWR := Lib.hid hWr; have HRB := Lib.hid hrb
  have h600 : ∀ x ∈ ts, x.length ≤ 600 := fun x hx => by have := hts x hx; omega
  obtain ⟨C, hC⟩ : ∃ C, C = err ts := ⟨_, rfl⟩
  obtain ⟨XS, hXS⟩ : ∃ X, X = enB ts := ⟨_, rfl⟩
  obtain ⟨L, hL⟩ : ∃ L, L = XS.length := ⟨_, rfl⟩
  have HLB : Hid (L = 0 ∨ 2 ≤ L) := Lib.hid (by rw [hL, hXS]; exact (enB_len hts htl).2)
  have HLU : Hid (L ≤ 5000) := Lib.hid (by rw [hL, hXS]; exact (enB_len hts htl).1)
  have CE : Hid (∀ W, Kp Wr W → Calls Try.prog 25 #[.agg #[.slice ua ul uc]] W fun e w' => ∃ a c, e = .returned (.tuple #[.slice a L c, .int .i64 C]) ∧ L ≤ c ∧ Sl w' (.slice a L c) XS ∧ Kp W w') := Lib.hid (fun W hk => (HE (HR.out.keep hk) h600).mono (by
    rintro e w' ⟨v, e1, hs, -, hk⟩
    rw [← hXS] at hs
    obtain ⟨a, c, rfl, hcc, -, -⟩ := hs.open3
    rw [← hL] at e1 hs hcc
    rw [← hC] at e1
    exact ⟨a, c, e1, hcc, hs, hk⟩))
  have CE2 : Hid (∀ W, Kp Wr W → Calls Try.prog 26 #[.agg #[.slice ua ul uc]] W fun e w' => ∃ a c, e = .returned (.tuple #[.slice a L c, .int .i64 C]) ∧ Sl w' (.slice a L c) XS ∧ Kp W w') := Lib.hid (fun W hk => (rEncT_any (HR.out.keep hk) h600).mono (by
    rintro e w' ⟨v, e1, hs, -, hk⟩
    rw [← hXS] at hs
    obtain ⟨a, c, rfl, hcc, -, -⟩ := hs.open3
    rw [← hL] at e1 hs hcc
    rw [← hC] at e1
    exact ⟨a, c, e1, hs, hk⟩))
  have CDE : Hid (∀ W v xs, Kp Wr W → Sl W v xs → xs.length ≤ 1000000 → Calls Try.prog 28 #[v] W fun e w' => e = .returned (.bool true) ∧ Kp W w') := Lib.hid (fun W v xs hk hs hl => decodes_any HD hs hl)
  have CA : Hid (∀ W, Kp Wr W → Calls Try.prog 24 #[] W fun e w' => e = .returned (.bool true) ∧ Kp W w') := Lib.hid (fun W hk => awake13_any HP HG W)
  have qC : ((C : Int) != (C : Int)) = false := by simp
  have HLX := Lib.hid hL
  have x0 := RB.out.cell 0 rfl
  rw [hWr, hrb] at x0
  clear hr htl hts hq hWr hrb k2 hC hXS hL h600 hul
  go_wp2_with fail
  rw [← HWR.out, ← HRB.out]
  refine (CE.out Wr (Kp.refl _)).mono ?_
  rintro e w3 ⟨a3, c3, rfl, hc3, hs3, hk3⟩
  have K3 := Lib.hid hk3; have HS3 := Lib.hid hs3; have HC3 := Lib.hid hc3
  have x3 := (RB.out.keep hk3).cell 0 rfl
  clear x0 hs3 hk3 hc3
  go_wp2_with fail
  refine (CE2.out w3 K3.out).mono ?_
  rintro e w4 ⟨a4, c4, rfl, hs4, hk4⟩
  have K4 := Lib.hid (Kp.trans K3.out hk4); have HS4 := Lib.hid hs4; have HA4 := Lib.hid (HS3.out.keep hk4)
  clear x3 hs4 hk4
  go_wp2_with fail
  refine (Same_any HA4.out HS4.out).mono ?_
  rintro e w' ⟨rfl, rfl⟩
  have hyy : decide (XS = XS) = true := by simp
  rw [hyy]
  clear hyy
  have HM4 := Lib.hid (HMS.out.keep (Kp.trans HKR.out K4.out))
  go_wp2_with fail
  refine (CDE.out w4 _ XS K4.out HA4.out (by have := HLX.out; have := HLU.out; omega)).mono ?_
  rintro e w6 ⟨rfl, hk6⟩
  have K6 := Lib.hid (Kp.trans K4.out hk6); have HA6 := Lib.hid (HA4.out.keep hk6); have HM6 := Lib.hid (HM4.out.keep hk6)
  clear hk6
  go_wp2_with fail
  refine (CDE.out w6 _ ns K6.out HM6.out (by have := HML.out; omega)).mono ?_
  rintro e w7 ⟨rfl, hk7⟩
  have K7 := Lib.hid (Kp.trans K6.out hk7); have HA7 := Lib.hid (HA6.out.keep hk7)
  clear hk7
  go_wp2_with (at_builtin; refine wpList_yes (by simp [Region.wanted, yielded]) ?_; refine wpList_ap (w := w7) rfl (.const (.slice none 0 0)) (.tmp 53) 48 rfl Try.underlying48 _ _ [] XS rfl rfl (Own.start w7) HA7.out (by have := HLX.out; have := HLU.out; simp; omega) ?_)
  intro v8 w8 ho8
  replace ho8 : Own w7 w8 v8 XS := ho8
  obtain ⟨ao8, c8, e8, -, -⟩ := ho8.form
  rw [← HLX.out] at e8
  subst e8
  have HO8 := Lib.hid ho8; have HA8 := Lib.hid (HA7.out.keep ho8.kp)
  clear ho8
  go_wp2_with (at_builtin; refine wpList_yes (by simp [Region.wanted, yielded]) ?_; refine wpList_ap (w := w7) rfl (.tmp 54) (.tmp 55) 48 rfl Try.underlying48 _ _ XS XS rfl rfl HO8.out HA8.out (by have := HLX.out; have := HLU.out; omega) ?_)
  intro v9 w9 ho9
  have hs9 := ho9.sl (by have := HLX.out; have := HLU.out; simp; omega)
  obtain ⟨ao9, c9, e9, -, -, -⟩ := hs9.open3
  obtain ⟨l9, hl9⟩ : ∃ l, l = (XS ++ XS).length := ⟨_, rfl⟩
  rw [← hl9] at e9
  subst e9
  have HS9 := Lib.hid hs9; have K9 := Lib.hid (Kp.trans K7.out ho9.kp); have HA9 := Lib.hid (HA7.out.keep ho9.kp)
  have HL9 : Hid ((XS ++ XS).length ≤ 1000000) := Lib.hid (by have := HLX.out; have := HLU.out; simp; omega)
  clear hs9 ho9 hl9
  go_wp2_with fail
  refine (CDE.out w9 _ _ K9.out HS9.out HL9.out).mono ?_
  rintro e w13 ⟨rfl, hk13⟩
  have K13 := Lib.hid (Kp.trans K9.out hk13); have HA13 := Lib.hid (HA9.out.keep hk13)
  clear hk13
  by_cases h0 : L = 0
  · have q0 : ((L : Int) == 0) = true := by rw [h0]; rfl
    clear h0
    go_wp2_with fail
    refine (CA.out w13 K13.out).mono ?_
    rintro e w14 ⟨rfl, hk14⟩
    have K14 := Lib.hid (Kp.trans K13.out hk14)
    clear hk14
    go_wp2_with fail
    go_ret
    exact ⟨rfl, Kp.trans HKR.out K14.out⟩
  have q0 : ((L : Int) == 0) = false := beq_eq_false_iff_ne.2 (by omega)
  have HL6 : Hid (2 ≤ L) := Lib.hid (by have := HLB.out; omega)
  have CF : Hid (∀ W, Calls Try.prog 29 #[.int .i64 at', .int .i64 L] W fun e w' => (∃ r : Nat, r < L ∧ e = .returned (.int .i64 r)) ∧ W = w') := Lib.hid (fun W => Fold_any at' HAT.out L (by have := HL6.out; omega) (by have := HLU.out; omega) W)
  clear h0
  go_wp2_with fail
  refine (CF.out w13).mono ?_
  rintro e w' ⟨⟨r, hr, rfl⟩, rfl⟩
  have HRR := Lib.hid hr
  clear hr q0
  go_wp2_with (at_builtin; refine wpList_ap (w := w13) rfl (.const (.slice none 0 0)) (.tmp 68) 48 rfl Try.underlying48 _ _ [] XS rfl rfl (Own.start w13) HA13.out (by have := HLX.out; have := HLU.out; simp; omega) ?_)
  intro v16 w16 ho16
  replace ho16 : Own w13 w16 v16 XS := ho16
  obtain ⟨ao16, c16, e16, -, -⟩ := ho16.form
  subst e16
  obtain ⟨g16, rfl, hg16, hc16, hf16, hput⟩ := ho16.putB r (by have := HLX.out; have := HRR.out; omega) (by have := HLX.out; have := HLU.out; omega)
  rw [← HLX.out] at hput ⊢
  have hxb := HA13.out.lt r
  obtain ⟨x, hx⟩ : ∃ x, x = XS[r]?.getD 0 := ⟨_, rfl⟩
  rw [← hx] at hc16 hxb
  obtain ⟨hxor, hyb⟩ := xorB x by' hxb HB.out
  obtain ⟨y, hy⟩ : ∃ y, y = x ^^^ by' := ⟨_, rfl⟩
  rw [← hy] at hxor hyb
  obtain ⟨hs17, hk17⟩ := hput y hyb
  have HS17 := Lib.hid hs17; have K17 := Lib.hid (Kp.trans K13.out hk17); have HA17 := Lib.hid (HA13.out.keep hk17)
  have HL17 : Hid ((XS.set r y).length ≤ 1000000) := Lib.hid (by rw [List.length_set]; have := HLX.out; have := HLU.out; omega)
  have hrf : (r : Int) < (L : Int) := by have := HRR.out; omega
  have hrc : (r : Int) ≤ (c3 : Int) := by have := HRR.out; have := HC3.out; omega
  clear hput hs17 hk17 hx hy hyb ho16 hg16 hxb
  go_wp2_with fail
  clear hc16 hf16 hxor
  refine (CDE.out _ _ _ K17.out HS17.out HL17.out).mono ?_
  rintro e w18 ⟨rfl, hk18⟩
  have K18 := Lib.hid (Kp.trans K17.out hk18)
  have HA18 := Lib.hid (HA17.out.keep hk18)
  clear hk18
  have hcut2 := HA18.out.cut 0 r (by omega) (by have := HRR.out; omega)
  rw [List.drop_zero] at hcut2
  have hsl2 : ∀ w, (Instr.slice 48 (.slice a3 L c3) none (some (.int .i64 r)) none).run Try.prog w = .ok (sliced a3 0 r c3 1) w := fun w => slice_to a3 L c3 r r rfl (by omega) w
  obtain ⟨a19, c19, hv, -, -, -⟩ := hcut2.open3
  obtain ⟨l19, hl19⟩ : ∃ n, n = (XS.take r).length := ⟨_, rfl⟩
  rw [← hl19] at hv
  rw [hv] at hcut2 hsl2
  have HS19 := Lib.hid hcut2
  have HL19 : Hid ((XS.take r).length ≤ 1000000) := Lib.hid (by rw [List.length_take]; have := HLX.out; have := HLU.out; omega)
  clear hcut2 hv hl19
  go_wp2_with fail
  refine (CDE.out _ _ _ K18.out HS19.out HL19.out).mono ?_
  rintro e w20 ⟨rfl, hk20⟩
  have K20 := Lib.hid (Kp.trans K18.out hk20)
  clear hk20 hsl2
  go_wp2_with fail
  refine (CA.out w20 K20.out).mono ?_
  rintro e w21 ⟨rfl, hk21⟩
  have K21 := Lib.hid (Kp.trans K20.out hk21)
  clear hk21
  go_wp2_with fail
  go_ret
  exact ⟨rfl, Kp.trans HKR.out K21.out⟩
theorem ctBytes_any (HE : EncC) (HD : DecC) (HP : PutC) (HG : GetC) {zs : List Int} {ms : List Nat} {v vm : Value} {at' : Int} {by' : Nat} {w : World} (hz : SlI w v zs) (hms : Sl w vm ms) (hat : -9223372036854775808 ≤ at' ∧ at' ≤ 9223372036854775807) (hb : by' < 256) :
    Calls Try.prog 4 #[v, vm, .int .i64 at', .int .u8 by'] w fun e w' => e = .returned (.bool true) ∧ Kp w w' := by
  by_cases h : ms.length ≤ 300
  · exact ctBytes_short HE HD HP HG hz hat hb hms h
  · exact ctBytes_long HE HD HP HG hz hat hb hms (by omega)
end By
end Go.Proofs.Ytlfoikjbbbhbdaa
