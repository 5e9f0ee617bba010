/- The law of kept numbers, over what is asked of the program's functions. Condition: the string is not too long for a string. -/
import Derived.Test.YtlfoikjbbbhbdaaCtZ
import Derived.BigQuiet
import Derived.Deep.QuietTactic
namespace Go.Proofs.Ytlfoikjbbbhbdaa
namespace By
open Go.RowKit WireN CtN
set_option linter.unusedVariables false
set_option linter.unusedSimpArgs false

theorem mrg_mem : ∀ (b a : List Tx) {x : Tx}, x ∈ (mrg a b).1 → x ∈ a ∨ x ∈ b
  | [], _, _, h => .inl h
  | y :: b, a, x, h => by
    rcases mrg_mem b (add a y) h with h | h
    · unfold add at h
      split at h
      · exact .inl h
      · rcases List.mem_append.1 h with h | h
        · exact .inl h
        · exact .inr (by obtain rfl : x = y := by simpa using h
                         exact List.mem_cons_self)
    · exact .inr (List.mem_cons_of_mem _ h)
set_option maxRecDepth 100000 in
set_option maxHeartbeats 16000000 in
theorem ctKeeps_any (HP : PutC) (HG : GetC) (HMe : MergeC) (HKe : KeepC) (HE : EncC) (HD : DecC) {zs : List Int} {v : Value} {w : World} (hz : SlI w v zs) {x : Tx} (hx : TxOk x) :
    Calls Try.prog 5 #[v, .string (st x)] w fun e w' => e = .returned (.bool true) ∧ Kp w w' := by
  have hz' := hz
  obtain ⟨⟨ao, cap, rfl, hc, hmx, hat2⟩, hlt, hsm⟩ := hz
  obtain ⟨len0, hlen⟩ : ∃ len, len = zs.length := ⟨_, rfl⟩
  rw [← hlen] at hz' ⊢
  obtain ⟨w1, hw1⟩ : ∃ w1, w1 = w.alloc (Obj.cells #[.slice ao len0 cap, .int .i64 0] 28) := ⟨_, rfl⟩
  have htp : Tp w w1 w.heap.size 0 := by
    rw [hw1]
    exact ⟨⟨ao, len0, cap, zs, hz', Blk.new _ _ _⟩, Kp.alloc (Kp.refl _) _, Nat.le_refl _⟩
  have HSP := Lib.hid (storeL_any (n := 41) ⟨0, by omega, htp⟩)
  have HW1 := Lib.hid hw1
  have HS1 : Hid (w1.heap.size = w.heap.size + 1) := Lib.hid (by rw [hw1]; simp)
  obtain ⟨X, hX⟩ : ∃ X, X = st x := ⟨_, rfl⟩
  rw [← hX]
  have HXX := Lib.hid hX; have HXO := Lib.hid hx
  clear hz' hc hmx hat2 hlt hsm hlen hw1 htp hX hx
  go_enter Try.func5, Try.ntmps5
  go_wp2_with fail
  rw [← HW1.out]
  refine HSP.out.mono ?_
  rintro e w2 ⟨ua, a, rfl, hta, hal, hax, han, hq2, hg2⟩
  have HTA := Lib.hid hta; have HAL := Lib.hid hal; have HAX := Lib.hid hax; have HAN := Lib.hid han
  have HSP2 := Lib.hid (storeL_any (n := 0) hq2)
  obtain ⟨a1, a3, rfl, -⟩ := hta.open3
  obtain ⟨an, hna⟩ : ∃ l, l = a.length := ⟨_, rfl⟩
  rw [← hna] at HTA HAN ⊢
  have HNA := Lib.hid hna
  clear hta hal hax han hq2 hg2 hna
  go_wp2_with fail
  refine HSP2.out.mono ?_
  rintro e w3 ⟨ub, b, rfl, htb, hbl, hbx, -, hq3, hg3⟩
  have hta3 : Tw w3 (.slice a1 an a3) a := HTA.out.by hg3 (fun c hc e => by injection e with e; have := HAN.out c hc; have := HS1.out; omega)
  obtain ⟨b1, b3, rfl, -⟩ := htb.open3
  obtain ⟨bn, hnb⟩ : ∃ l, l = b.length := ⟨_, rfl⟩
  rw [← hnb] at htb ⊢
  have HNB := Lib.hid hnb; have HBL := Lib.hid hbl; have HBX := Lib.hid hbx
  obtain ⟨W0, hW0⟩ : ∃ W, W = (w3.alloc (.cells #[.slice a1 an a3] 25)).alloc (.cells #[.slice b1 bn b3] 25) := ⟨_, rfl⟩
  obtain ⟨g, hgg⟩ : ∃ g, g = w3.heap.size := ⟨_, rfl⟩
  have hk0 : Kp w3 W0 := by rw [hW0]; exact Kp.alloc (kp_alloc _ _) _
  have B1 : Hid (Blk W0 g 25 #[.slice a1 an a3]) := Lib.hid (by rw [hW0, hgg]; exact (Blk.new _ _ _).keep (kp_alloc _ _))
  have B2 : Hid (Blk W0 (g + 1) 25 #[.slice b1 bn b3]) := Lib.hid (by
    have := Blk.new (w3.alloc (.cells #[.slice a1 an a3] 25)) 25 #[.slice b1 bn b3]
    rw [hW0, hgg]
    simpa using this)
  have HKR : Hid (Kp w W0) := Lib.hid (hq3.base.trans hk0)
  have TA := Lib.hid (hta3.keep hk0); have TB := Lib.hid (htb.keep hk0)
  have CA := Lib.hid (fun W => awake13_any HP HG W)
  have HCA := Lib.hid (rCheckT_any TA.out)
  have HCB : Hid (∀ W, Kp W0 W → Calls Try.prog 10 #[.agg #[.slice b1 bn b3]] W fun e w' => e = .returned (.int .i64 (err b : Nat)) ∧ Kp W w') := Lib.hid (fun W hk => rCheckT_any (TB.out.keep hk))
  have HW0 := Lib.hid hW0; have HGG := Lib.hid hgg
  have c0 := B1.out.cell 0 rfl
  rw [hW0, hgg] at c0
  obtain ⟨E1, hE1⟩ : ∃ E, E = err a := ⟨_, rfl⟩
  obtain ⟨E2, hE2⟩ : ∃ E, E = err b := ⟨_, rfl⟩
  rw [← hE1] at HCA
  rw [← hE2] at HCB
  have HE1 := Lib.hid hE1; have HE2 := Lib.hid hE2
  clear hta3 htb hbl hbx hq3 hg3 hnb hW0 hgg hk0 HSP HSP2 hE1 hE2
  by_cases he1 : E1 = 0
  · have q1 : ((E1 : Int) != 0) = false := by simp [he1]
    have HZ1 : Hid (err a = 0) := Lib.hid (HE1.out ▸ he1)
    clear he1
    by_cases he2 : E2 = 0
    · have q2 : ((E2 : Int) != 0) = false := by simp [he2]
      have HZ2 : Hid (err b = 0) := Lib.hid (HE2.out ▸ he2)
      clear he2
      go_wp2_with fail
      rw [← HW0.out, ← HGG.out]
      refine HCA.out.mono ?_
      rintro e w4 ⟨rfl, hk4⟩
      have HK4 := Lib.hid hk4
      have c4 := (B2.out.keep hk4).cell 0 rfl
      have HC2 := Lib.hid (HCB.out _ hk4)
      clear hk4 c0
      go_wp2_with fail
      refine HC2.out.mono ?_
      rintro e w5 ⟨rfl, hk5⟩
      have HK5 := Lib.hid (HK4.out.trans hk5)
      have c5 := (B1.out.keep HK5.out).cell 0 rfl
      clear hk5 c4
      have PF := Lib.hid (put_get (x := x) HZ1.out (by have := HAL.out; omega))
      have HPU : Hid (Calls Try.prog 13 #[.agg #[.slice a1 an a3], .string X] w5 fun e w' => ∃ p1 p3, e = .returned (.tuple #[.agg #[.slice p1 (add a x).length p3], .int .i64 (fnd x (add a x) : Nat), .int .i64 0]) ∧ Tw w' (.slice p1 (add a x).length p3) (add a x) ∧ Kp w5 w') := Lib.hid (by
        rw [HXX.out]
        refine (HP (TA.out.keep HK5.out) (by have := HAL.out; omega) HXO.out).mono ?_
        rintro e w' ⟨u, rfl, h1, -, h2⟩
        rw [PF.out.2.1] at h1
        obtain ⟨p1, p3, rfl, -⟩ := h1.open3
        exact ⟨p1, p3, by rw [PF.out.1, PF.out.2.2.1]; rfl, h1, h2⟩)
      obtain ⟨pn, hpn⟩ : ∃ n, n = (add a x).length := ⟨_, rfl⟩
      obtain ⟨F, hF⟩ : ∃ F, F = fnd x (add a x) := ⟨_, rfl⟩
      rw [← hpn, ← hF] at HPU
      have HPN := Lib.hid hpn; have HFF := Lib.hid hF
      clear hpn hF
      go_wp2_with fail
      refine HPU.out.mono ?_
      rintro e w6 ⟨p1, p3, rfl, htp6, hk6⟩
      obtain ⟨W7, hW7⟩ : ∃ W, W = w6.alloc (.cells #[.slice p1 pn p3] 25) := ⟨_, rfl⟩
      obtain ⟨pb, hpb⟩ : ∃ g, g = w6.heap.size := ⟨_, rfl⟩
      have hk67 : Kp w6 W7 := by rw [hW7]; exact kp_alloc _ _
      have BP : Hid (Blk W7 pb 25 #[.slice p1 pn p3]) := Lib.hid (by rw [hW7, hpb]; exact Blk.new _ _ _)
      have TP := Lib.hid (htp6.keep hk67)
      have HK7 : Hid (Kp W0 W7) := Lib.hid ((HK5.out.trans hk6).trans hk67)
      have HGE : Hid (Calls Try.prog 16 #[.agg #[.slice p1 pn p3], .int .i64 (F : Nat)] W7 fun e w' => e = .returned (.tuple #[.string X, .int .i64 0]) ∧ Kp W7 w') := Lib.hid (by
        refine (HG TP.out (F : Nat)).mono ?_
        rintro e w' ⟨rfl, h2⟩
        refine ⟨?_, h2⟩
        rw [HFF.out, PF.out.2.2.2.1, PF.out.2.2.2.2, HXX.out]
        rfl)
      have HW7 := Lib.hid hW7; have HPB := Lib.hid hpb
      clear htp6 hk6 hW7 hpb hk67 c5
      go_wp2_with fail
      rw [← HW7.out, ← HPB.out]
      refine HGE.out.mono ?_
      rintro e w8 ⟨rfl, hk8⟩
      have HK8 : Hid (Kp W0 w8) := Lib.hid (HK7.out.trans hk8)
      have HT8 := Lib.hid ((TP.out.take an (by have := (add_len a x).1; have := HPN.out; have := HNA.out; omega)).keep hk8)
      have HA8 := Lib.hid (TA.out.keep HK8.out)
      have p8 := (BP.out.keep hk8).cell 0 rfl
      have a8 := (B1.out.keep HK8.out).cell 0 rfl
      have b8 := (B2.out.keep HK8.out).cell 0 rfl
      clear hk8
      have qx : (X.toList == X.toList) = true := beq_self_eq_true _
      have hanp : an ≤ pn := by have := (add_len a x).1; have := HPN.out; have := HNA.out; omega
      have hpp : pn ≤ p3 := by obtain ⟨_, _, e, h, _⟩ := TP.out.open3; injection e with e1 e2 e3; omega
      have r1 : (an : Int) ≤ (pn : Int) := by omega
      have r2 : (an : Int) ≤ (p3 : Int) := by omega
      have HSM : Hid (∀ n, Calls Try.prog 30 #[.slice p1 an p3, .slice a1 an a3] (w8.drewN n) fun e w' => e = .returned (.bool true) ∧ ∃ d, w' = (w8.drewN n).drewN d) := Lib.hid (fun n => by
        refine (SameTexts_d (HT8.out.keep (Kp.drewN w8 n)) (HA8.out.keep (Kp.drewN w8 n)) (by rw [List.length_take]; have := HAL.out; have := HNA.out; omega)).mono ?_
        rintro e w' ⟨rfl, h⟩
        refine ⟨?_, h⟩
        rw [HNA.out, add_take, decide_eq_true rfl])
      have r3 : decide ((pn : Int) < (an : Int)) = false := decide_eq_false (by omega)
      have r4 : decide (pn < an) = false := decide_eq_false (by omega)
      clear hanp hpp
      go_wp2_with fail
      go_quiet ((go_at_call 30; exact Calls.quiet_of (HSM.out _)))
      have MF := Lib.hid (mrg_facts HZ1.out HZ2.out HAL.out HBL.out)
      have HMG : Hid (∀ W, Kp W0 W → Calls Try.prog 22 #[.agg #[.slice a1 an a3], .agg #[.slice b1 bn b3]] W fun e w' => ∃ m1 m3 n1 n3, e = .returned (.tuple #[.agg #[.slice m1 (mrg a b).1.length m3], .slice n1 bn n3, .int .i64 0]) ∧ Tw w' (.slice m1 (mrg a b).1.length m3) (mrg a b).1 ∧ Jw w' (.slice n1 bn n3) (mgN a b) ∧ Kp W w') := Lib.hid (fun W hk => by
        refine (HMe (TA.out.keep hk) (TB.out.keep hk)).mono ?_
        rintro e w' ⟨u, nv, rfl, h1, h2, -, -, h3⟩
        rw [MF.out.2.1] at h1
        obtain ⟨m1, m3, rfl, -⟩ := h1.open3
        obtain ⟨n1, n3, rfl, -⟩ := h2.open3
        have hl := MF.out.2.2.2.2.2.1
        rw [hl, ← HNB.out] at h2 ⊢
        exact ⟨m1, m3, n1, n3, by rw [MF.out.1]; rfl, h1, h2, h3⟩)
      obtain ⟨mn, hmn⟩ : ∃ n, n = (mrg a b).1.length := ⟨_, rfl⟩
      obtain ⟨M, hM⟩ : ∃ M, M = (mrg a b).1 := ⟨_, rfl⟩
      obtain ⟨N, hN⟩ : ∃ N, N = mgN a b := ⟨_, rfl⟩
      have HMT : Hid (M.take an = a) := Lib.hid (by rw [hM, HNA.out]; exact mrg_take b a)
      rw [← hmn, ← hM, ← hN] at HMG
      have HMF : Hid (err M = 0 ∧ mn = M.length ∧ mn ≤ 16 ∧ an ≤ mn ∧ N.length = bn ∧ ∀ (i : Nat) (k : Int), N[i]? = some k → gtE k M = 0 ∧ b[i]? = some (gtT k M) ∧ 0 ≤ k ∧ k < M.length) := Lib.hid (by
        obtain ⟨-, -, -, h4, h5, h6, h7⟩ := MF.out
        rw [hM, hN, HNB.out, hmn, HNA.out]
        exact ⟨h4, rfl, h5, (mrg_len b a).2.1, h6, h7⟩)
      have HM2 : Hid (∀ y ∈ M, y.length ≤ 2) := Lib.hid (fun y hy => by
        rw [hM] at hy
        rcases mrg_mem b a hy with h | h
        · exact HAX.out y h
        · exact HBX.out y h)
      clear hmn hM hN r1 r2 r3 r4 qx p8
      go_wp2_with fail
      have HK9 : Hid (Kp W0 (w8.drewN nq)) := Lib.hid (HK8.out.trans (Kp.drewN w8 nq))
      refine (HMG.out _ HK9.out).mono ?_
      rintro e w9 ⟨m1, m3, n1, n3, rfl, htm, hjn, hk9⟩
      obtain ⟨Wm, hWm⟩ : ∃ W, W = w9.alloc (.cells #[.slice m1 mn m3] 25) := ⟨_, rfl⟩
      obtain ⟨mb, hmb⟩ : ∃ g, g = w9.heap.size := ⟨_, rfl⟩
      have hk9m : Kp w9 Wm := by rw [hWm]; exact kp_alloc _ _
      have BM : Hid (Blk Wm mb 25 #[.slice m1 mn m3]) := Lib.hid (by rw [hWm, hmb]; exact Blk.new _ _ _)
      have TM := Lib.hid (htm.keep hk9m); have JN := Lib.hid (hjn.keep hk9m)
      have HKM : Hid (Kp W0 Wm) := Lib.hid ((HK9.out.trans hk9).trans hk9m)
      have x1 := (B1.out.keep HKM.out).cell 0 rfl; have x2 := (B2.out.keep HKM.out).cell 0 rfl; have x3 := BM.out.cell 0 rfl
      have hmm : mn ≤ m3 := by obtain ⟨_, _, e, h, _⟩ := TM.out.open3; injection e with e1 e2 e3; have := HMF.out.2.1; omega
      have r2 : (an : Int) ≤ (m3 : Int) := by have := HMF.out.2.2.2.1; omega
      have hnn : bn ≤ n3 := by obtain ⟨_, _, e, h, _⟩ := JN.out.open3; injection e with e1 e2 e3; have := HMF.out.2.2.2.2.1; omega
      have HSN : Hid (∀ n, Calls Try.prog 30 #[.slice m1 an m3, .slice a1 an a3] (Wm.drewN n) fun e w' => e = .returned (.bool true) ∧ ∃ d, w' = (Wm.drewN n).drewN d) := Lib.hid (fun n => by
        refine (SameTexts_d ((TM.out.take an HMF.out.2.2.2.1).keep (Kp.drewN Wm n)) ((TA.out.keep HKM.out).keep (Kp.drewN Wm n)) (by rw [List.length_take]; have := HAL.out; have := HNA.out; omega)).mono ?_
        rintro e w' ⟨rfl, h⟩
        refine ⟨?_, h⟩
        rw [HMT.out, decide_eq_true rfl])
      have HWm := Lib.hid hWm; have HMB := Lib.hid hmb; have HNN := Lib.hid hnn
      clear htm hjn hk9 hk9m hWm hmb hmm hnn a8 b8
      go_wp2_with fail
      rw [← HWm.out, ← HMB.out]
      go_quiet ((go_at_call 30; exact Calls.quiet_of (HSN.out _)))
      have HK10 : Hid (Kp Wm (Wm.drewN nq)) := Lib.hid (Kp.drewN Wm _)
      generalize Wm.drewN nq = WL at HK10 ⊢
      have HKL : Hid (Kp W0 WL) := Lib.hid (HKM.out.trans HK10.out)
      have r5 : (bn : Int) ≤ (n3 : Int) := by have := HNN.out; omega
      have r6 : (bn : Int) ≤ 8 := by have := HBL.out; have := HNB.out; omega
      have r7 : (bn : Int) ≤ (b3 : Int) := by obtain ⟨_, _, e, h, _⟩ := TB.out.open3; injection e with e1 e2 e3; have := HNB.out; omega
      clear x1 x2 x3 r2
      go_wp2_with fail
      go_loopw [117] (fun iv wr => ∃ i : Nat, iv = .int .i64 (i : Nat) ∧ i ≤ bn ∧ Kp WL wr) (fun iv _ => bn - (intOf iv).toNat)
      case atStart => exact ⟨0, rfl, Nat.zero_le _, Kp.refl _⟩
      case round =>
        obtain ⟨i, rfl, hi, hkr⟩ := hrel
        rename World => wr
        have HKX := Lib.hid hkr
        have HKY : Hid (Kp W0 wr) := Lib.hid (HKL.out.trans hkr)
        have HKZ : Hid (Kp Wm wr) := Lib.hid (HK10.out.trans hkr)
        have y3 := (BM.out.keep HKZ.out).cell 0 rfl
        by_cases hlt : i < bn
        · obtain ⟨k, hk⟩ : ∃ k, N[i]? = some k := ⟨_, List.getElem?_eq_getElem (by have := HMF.out.2.2.2.2.1; omega)⟩
          obtain ⟨h1, h2, h3, h4⟩ := HMF.out.2.2.2.2.2 i k hk
          obtain ⟨nb, nf, rfl, hcell⟩ := (JN.out.keep HKZ.out).cell (by omega)
          have d0 := hcell i k hk
          obtain ⟨tb, tf, rfl, tcell⟩ := TB.out.cell (by omega)
          have HTC := Lib.hid (tcell i _ h2)
          have HGT : Hid (Calls Try.prog 16 #[.agg #[.slice m1 mn m3], .int .i64 k] wr fun e w' => e = .returned (.tuple #[.string (st (gtT k M)), .int .i64 0]) ∧ Kp wr w') := Lib.hid (by
            refine (HG (TM.out.keep HKZ.out) k).mono ?_
            rintro e w' ⟨rfl, h⟩
            exact ⟨by rw [h1]; rfl, h⟩)
          obtain ⟨Y, hY⟩ : ∃ Y, Y = st (gtT k M) := ⟨_, rfl⟩
          rw [← hY] at HGT HTC
          have qy : (Y.toList == Y.toList) = true := beq_self_eq_true _
          have j1 : (i : Int) < (bn : Int) := by omega
          clear hk h1 h2 h3 h4 hcell tcell hY hkr hi hlt
          go_wp2_with fail
          refine HGT.out.mono ?_
          rintro e wg ⟨rfl, hkg⟩
          have z1 := (B2.out.keep (HKY.out.trans hkg)).cell 0 rfl
          have z2 := cell_kept HTC.out (HKY.out.trans hkg)
          have HKG := Lib.hid (HKX.out.trans hkg)
          clear hkg y3 d0
          go_wp2_with fail
          go_roundw
          case rel => exact ⟨i + 1, by go_num, by omega, HKG.out⟩
          case measure => simp [intOf]; omega
        · obtain rfl : i = bn := by omega
          clear hlt hi
          have KF := Lib.hid (keep_facts (s := M) (u := N) HMF.out.1 (fun y hy => by
            obtain ⟨i, hi, e⟩ := List.getElem_of_mem hy
            obtain ⟨-, -, h3, h4⟩ := HMF.out.2.2.2.2.2 i y (by rw [List.getElem?_eq_getElem hi, e])
            exact ⟨h3, h4⟩))
          have HKP : Hid (Calls Try.prog 19 #[.agg #[.slice m1 mn m3], .slice n1 i n3] wr fun e w' => ∃ k1 k3 l1 l3, e = .returned (.tuple #[.agg #[.slice k1 (kpL M N).length k3], .slice l1 mn l3, .int .i64 0]) ∧ Tw w' (.slice k1 (kpL M N).length k3) (kpL M N) ∧ Jw w' (.slice l1 mn l3) (kpN M N) ∧ Kp wr w') := Lib.hid (by
            refine (HKe (TM.out.keep HKZ.out) (JN.out.keep HKZ.out) (by have := HMF.out.2.2.2.2.1; omega)).mono ?_
            rintro e w' ⟨u, nv, rfl, h1, h2, -, -, h3⟩
            obtain ⟨m1, m3, rfl, -⟩ := h1.open3
            obtain ⟨n1, n3, rfl, -⟩ := h2.open3
            rw [KF.out.2.2.2.1, ← HMF.out.2.1] at h2 ⊢
            exact ⟨m1, m3, n1, n3, by rw [KF.out.1]; rfl, h1, h2, h3⟩)
          obtain ⟨KL, hKL⟩ : ∃ L, L = kpL M N := ⟨_, rfl⟩
          obtain ⟨KN, hKN⟩ : ∃ L, L = kpN M N := ⟨_, rfl⟩
          have KG : Hid (∀ (i : Nat) (x : Int), KN[i]? = some x → (∃ k : Nat, x = (k : Int) ∧ k < KL.length ∧ ∃ t, M[i]? = some t ∧ KL[k]? = some t) ∨ (x = -1 ∧ (i : Int) ∉ N)) := Lib.hid (by rw [hKL, hKN]; exact KF.out.2.2.2.2)
          have HKN : Hid (KN.length = mn) := Lib.hid (by rw [hKN, KF.out.2.2.2.1, HMF.out.2.1])
          rw [← hKL, ← hKN] at HKP
          obtain ⟨kn, hkn⟩ : ∃ n, n = KL.length := ⟨_, rfl⟩
          rw [← hkn] at HKP
          have HKNN := Lib.hid hkn
          clear hKL hKN hkn KF hkr
          go_wp2_with fail
          refine HKP.out.mono ?_
          rintro e wk ⟨k1, k3, l1, l3, rfl, htk, hjl, hkk⟩
          obtain ⟨Wk, hWk⟩ : ∃ W, W = wk.alloc (.cells #[.slice k1 kn k3] 25) := ⟨_, rfl⟩
          obtain ⟨kb, hkb⟩ : ∃ g, g = wk.heap.size := ⟨_, rfl⟩
          have hkkm : Kp wk Wk := by rw [hWk]; exact kp_alloc _ _
          have BK : Hid (Blk Wk kb 25 #[.slice k1 kn k3]) := Lib.hid (by rw [hWk, hkb]; exact Blk.new _ _ _)
          have TK := Lib.hid (htk.keep hkkm); have JL := Lib.hid (hjl.keep hkkm)
          have HKK : Hid (Kp Wm Wk) := Lib.hid ((HKZ.out.trans hkk).trans hkkm)
          have x3 := ((BM.out.keep (HKZ.out.trans hkk)).keep (kp_alloc wk (.cells #[.slice k1 kn k3] 25))).cell 0 rfl
          have r8 : (mn : Int) ≤ (l3 : Int) := by obtain ⟨_, _, e, h, _⟩ := JL.out.open3; injection e with e1 e2 e3; have := HKN.out; omega
          have r9 : (mn : Int) ≤ (m3 : Int) := by obtain ⟨_, _, e, h, _⟩ := TM.out.open3; injection e with e1 e2 e3; have := HMF.out.2.1; omega
          have r10 : (mn : Int) ≤ 16 := by have := HMF.out.2.2.1; omega
          have r11 : (kn : Int) ≤ (k3 : Int) := by obtain ⟨_, _, e, h, _⟩ := TK.out.open3; injection e with e1 e2 e3; have := HKNN.out; omega
          have HWk := Lib.hid hWk; have HKBB := Lib.hid hkb
          clear htk hjl hkk hkkm hWk hkb y3
          go_wp2_with fail
          rw [← HWk.out, ← HKBB.out]
          go_loopw [159] (fun iv wr => ∃ i : Nat, iv = .int .i64 (i : Nat) ∧ i ≤ mn ∧ Kp Wk wr) (fun iv _ => mn - (intOf iv).toNat)
          case atStart => exact ⟨0, rfl, Nat.zero_le _, Kp.refl _⟩
          case round =>
            obtain ⟨j, rfl, hj, hkr⟩ := hrel
            rename World => wy
            have HKX2 := Lib.hid hkr
            have HKM2 : Hid (Kp Wm wy) := Lib.hid (HKK.out.trans hkr)
            have x3 := (BM.out.keep HKM2.out).cell 0 rfl
            have x4 := (BK.out.keep hkr).cell 0 rfl
            by_cases hlt : j < mn
            · obtain ⟨z, hz⟩ : ∃ z, KN[j]? = some z := ⟨_, List.getElem?_eq_getElem (by have := HKN.out; omega)⟩
              obtain ⟨lb, lf, rfl, lcell⟩ := (JL.out.keep hkr).cell (by omega)
              have d0 := lcell j z hz
              have j1 : (j : Int) < (mn : Int) := by omega
              rcases KG.out j z hz with ⟨k, rfl, hk, t, ht1, ht2⟩ | ⟨rfl, hni⟩
              · obtain ⟨qb, qf, rfl, qcell⟩ := (TK.out.keep hkr).cell (by have := HKNN.out; omega)
                obtain ⟨mb2, mf, rfl, mcell⟩ := (TM.out.keep HKM2.out).cell (by omega)
                have d1 := qcell k t ht2
                have d2 := mcell j t ht1
                obtain ⟨Y, hY⟩ : ∃ Y, Y = st t := ⟨_, rfl⟩
                rw [← hY] at d1 d2
                have qy : (Y.toList == Y.toList) = true := beq_self_eq_true _
                have j2 : (k : Int) < (kn : Int) := by have := HKNN.out; omega
                have r3 : decide ((kn : Int) ≤ (k : Int)) = false := decide_eq_false (by omega)
                have r4 : decide (kn ≤ k) = false := decide_eq_false (by omega)
                have r5' : decide ((k : Int) < 0) = false := decide_eq_false (by omega)
                clear hz lcell hk ht1 ht2 qcell mcell hY hkr hj hlt
                go_wp2_with fail
                go_quiet (fail)
                have HKQ : Hid (Kp Wk (wy.drewN nq)) := Lib.hid (HKX2.out.trans (Kp.drewN _ _))
                go_wp2_with fail
                go_roundw
                case rel => exact ⟨j + 1, by go_num, by omega, HKQ.out⟩
                case measure => simp [intOf]; omega
              · have HHI : Hid (∀ n, Calls Try.prog 31 #[.slice n1 i n3, .int .i64 (j : Nat)] (wy.drewN n) fun e w' => e = .returned (.bool false) ∧ w' = wy.drewN n) := Lib.hid (fun n => by
                  refine (HasInt_t ((JN.out.keep HKM2.out).keep (Kp.drewN wy n)) (by have := HMF.out.2.2.2.2.1; omega) (j : Nat)).mono ?_
                  rintro e w' ⟨rfl, rfl⟩
                  rw [decide_eq_false hni]
                  exact ⟨rfl, rfl⟩)
                clear hz lcell hni hkr hj hlt
                go_wp2_with fail
                go_quiet ((go_at_call 31; exact Calls.quiet_of_same (HHI.out _)))
                have HKQ : Hid (Kp Wk (wy.drewN nq)) := Lib.hid (HKX2.out.trans (Kp.drewN _ _))
                go_wp2_with fail
                go_roundw
                case rel => exact ⟨j + 1, by go_num, by omega, HKQ.out⟩
                case measure => simp [intOf]; omega
            · obtain rfl : j = mn := by omega
              have HLE : Hid ((encT M).length ≤ 20000) := Lib.hid (by
                have h1 := encT_len (ts := M) (fun y hy => by have := HM2.out y hy; omega)
                have := HMF.out.2.1; have := HMF.out.2.2.1
                omega)
              have HEN : Hid (Calls Try.prog 25 #[.agg #[.slice m1 j m3]] wy fun e w' => ∃ d1 d3, e = .returned (.tuple #[.slice d1 (encT M).length d3, .int .i64 0]) ∧ Sl w' (.slice d1 (encT M).length d3) (encT M) ∧ Kp wy w') := Lib.hid (by
                refine (HE (TM.out.keep HKM2.out) (fun y hy => by have := HM2.out y hy; omega)).mono ?_
                rintro e w' ⟨u, rfl, h1, -, h2⟩
                have e1 : enB M = encT M := if_pos HMF.out.1
                rw [e1] at h1
                obtain ⟨d1, d3, rfl, -, -, -⟩ := h1.open3
                exact ⟨d1, d3, by rw [HMF.out.1]; rfl, h1, h2⟩)
              obtain ⟨dn, hdn⟩ : ∃ n, n = (encT M).length := ⟨_, rfl⟩
              rw [← hdn] at HEN
              clear hlt hj hkr hdn
              go_wp2_with fail
              refine HEN.out.mono ?_
              rintro e wd ⟨d1, d3, rfl, hsd, hkd⟩
              have HKD := Lib.hid (HKM2.out.trans hkd)
              have HDE := Lib.hid (HD hsd (by have := HLE.out; omega))
              clear hsd hkd x3 x4
              go_wp2_with fail
              refine HDE.out.mono ?_
              rintro e wo ⟨fs, q, E, u, hch, hst, rfl, hto, -, hko⟩
              obtain ⟨f1, f2⟩ := dec_enc (fun y hy => by have := HM2.out y hy; omega) HMF.out.1 hch hst
              rw [f2] at hto
              rw [f1]
              obtain ⟨o1, o3, rfl, -⟩ := hto.open3
              obtain ⟨on, hon⟩ : ∃ n, n = M.length := ⟨_, rfl⟩
              rw [← hon] at hto ⊢
              have hkk : Kp Wm (wo.alloc (.cells #[.slice o1 on o3] 25)) := (HKD.out.trans hko).trans (kp_alloc _ _)
              have HKO := Lib.hid hkk
              have x5 := (BM.out.keep hkk).cell 0 rfl
              have HSA := Lib.hid (rSameT_any (hto.keep (kp_alloc wo (.cells #[.slice o1 on o3] 25))) (TM.out.keep hkk) (by have := HMF.out.2.1; have := HMF.out.2.2.1; omega))
              rw [decide_eq_true rfl] at HSA
              clear hch hst f1 f2 hto hko hon hkk
              go_wp2_with fail
              refine HSA.out.mono ?_
              rintro e wp ⟨rfl, hkp⟩
              have HKPP := Lib.hid (HKO.out.trans hkp)
              clear hkp x5
              go_wp2_with fail
              refine (CA.out wp).mono ?_
              rintro e wq ⟨rfl, hkq⟩
              have HKF := Lib.hid (((HKR.out.trans HKM.out).trans HKPP.out).trans hkq)
              clear hkq
              go_wp2_with fail
              go_ret
              exact ⟨rfl, HKF.out⟩
    · have q2 : ((E2 : Int) != 0) = true := by simp; omega
      clear he2
      go_wp2_with fail
      rw [← HW0.out, ← HGG.out]
      refine HCA.out.mono ?_
      rintro e w4 ⟨rfl, hk4⟩
      have HK4 := Lib.hid hk4
      have c4 := (B2.out.keep hk4).cell 0 rfl
      have HC2 := Lib.hid (HCB.out _ hk4)
      clear hk4 c0
      go_wp2_with fail
      refine HC2.out.mono ?_
      rintro e w5 ⟨rfl, hk5⟩
      have HK5 := Lib.hid (HK4.out.trans hk5)
      clear hk5 c4
      go_wp2_with fail
      refine (CA.out w5).mono ?_
      rintro e w6 ⟨rfl, hk6⟩
      have HK6 := Lib.hid ((HKR.out.trans HK5.out).trans hk6)
      clear hk6
      go_wp2_with fail
      go_ret
      exact ⟨rfl, HK6.out⟩
  · have q1 : ((E1 : Int) != 0) = true := by simp; omega
    clear he1
    go_wp2_with fail
    rw [← HW0.out, ← HGG.out]
    refine HCA.out.mono ?_
    rintro e w4 ⟨rfl, hk4⟩
    have HK4 := Lib.hid hk4
    clear hk4 c0
    go_wp2_with fail
    refine (CA.out w4).mono ?_
    rintro e w6 ⟨rfl, hk6⟩
    have HK6 := Lib.hid ((HKR.out.trans HK4.out).trans hk6)
    clear hk6
    go_wp2_with fail
    go_ret
    exact ⟨rfl, HK6.out⟩
end By
end Go.Proofs.Ytlfoikjbbbhbdaa
