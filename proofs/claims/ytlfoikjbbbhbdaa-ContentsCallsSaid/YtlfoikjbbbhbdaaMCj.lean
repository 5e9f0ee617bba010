/- The reference's Merge. No condition. -/
import Derived.Test.YtlfoikjbbbhbdaaMCe
namespace Go.Proofs.Ytlfoikjbbbhbdaa
namespace By
open Go.RowKit WireN CtN
set_option linter.unusedVariables false
set_option linter.unusedSimpArgs false

theorem mrg_step {a b : List Tx} {k : Nat} {y : Tx} (h : b[k]? = some y) : (mrg a (b.take (k + 1))).1 = add (mrg a (b.take k)).1 y ∧ (mrg a (b.take (k + 1))).2.map (fun (j : Nat) => (j : Int)) = (mrg a (b.take k)).2.map (fun (j : Nat) => (j : Int)) ++ [((fnd y (add (mrg a (b.take k)).1 y) : Nat) : Int)] := by
  rw [List.take_add_one, h]
  show (mrg a (b.take k ++ [y])).1 = _ ∧ _
  rw [Option.toList_some, mrg_snoc]
  exact ⟨rfl, by simp⟩
set_option maxRecDepth 100000 in
set_option maxHeartbeats 8000000 in
theorem rMergeT_any {w : World} {va vb : Value} {a b : List Tx} (ha : Tw w va a) (hb : Tw w vb b) :
    Calls Try.prog 23 #[.agg #[va], .agg #[vb]] w (MergeR a b w) := by
  obtain ⟨Q, hQ⟩ : ∃ Q, Q = MergeR a b w := ⟨_, rfl⟩
  rw [← hQ]
  obtain ⟨W, hW⟩ : ∃ W, W = ((w.alloc (.cells #[va] 25)).alloc (.cells #[vb] 25)).alloc (.cells #[.slice none 0 0] 25) := ⟨_, rfl⟩
  have hk0 : Kp w W := by rw [hW]; exact Kp.alloc (Kp.alloc (kp_alloc _ _) _) _
  have b1 : Blk W w.heap.size 25 #[va] := by rw [hW]; exact ((Blk.new _ _ _).keep (kp_alloc _ _)).keep (kp_alloc _ _)
  have b2 : Blk W (w.heap.size + 1) 25 #[vb] := by
    have := (Blk.new (w.alloc (.cells #[va] 25)) 25 #[vb]).keep (kp_alloc _ (.cells #[.slice none 0 0] 25))
    rw [hW]
    simpa using this
  have b3 : Blk W (w.heap.size + 1 + 1) 25 #[.slice none 0 0] := by
    have := Blk.new ((w.alloc (.cells #[va] 25)).alloc (.cells #[vb] 25)) 25 #[.slice none 0 0]
    rw [hW]
    simpa using this
  have hsz : W.heap.size = w.heap.size + 3 := by rw [hW]; simp
  have FIN : Hid (∀ (W' : World) (u0 u nv : Value) (E : Nat) (A : Act), Blk W' (w.heap.size + 1 + 1) 25 #[u0] → Kp w W' → A.defers = [] → A.tmps.getD 4 undef = .pointer (some ⟨w.heap.size + 1 + 1, 0, none⟩) → A.tmps.getD 5 undef = nv → A.tmps.getD 6 undef = .int .i64 (E : Nat) → Tw W' u (mgL a b) → (∀ c, u.ownBlock = some c → w.heap.size + 3 ≤ c) → Jw W' nv (mgN a b) → (∀ c, nv.ownBlock = some c → w.heap.size + 3 ≤ c) → E = mgE a b →
      bodyPost Try.prog Try.f23 Q .ret A (W'.setCell ⟨w.heap.size + 1 + 1, 0, none⟩ u)) := Lib.hid (by
    intro W' u0 u nv E A hb hk h0 h4 h5 h6 hT hu hJ hv hE
    have b3 := hb.set 0 u
    have e0 := b3.cell 0 (v := u) rfl
    have h4' : A.tmps[4]?.getD undef = .pointer (some ⟨w.heap.size + 1 + 1, 0, none⟩) := by simpa using h4
    have h5' : A.tmps[5]?.getD undef = nv := by simpa using h5
    have h6' : A.tmps[6]?.getD undef = .int .i64 (E : Nat) := by simpa using h6
    refine bodyPost_ret (v := .tuple #[.agg #[u], nv, .int .i64 (E : Nat)]) (by simp [results, Try.results23, go_sem, h4', h5', h6', e0]) h0 ?_
    rw [hQ]
    exact ⟨u, nv, by rw [hE], hT.setc (fun b hb2 => by have := hu b hb2; omega), hJ.setc (fun b hb2 => by have := hv b hb2; omega), fun b hb2 => by have := hu b hb2; omega, fun b hb2 => by have := hv b hb2; omega, Only.kp hk ((Only.refl (w.heap.size + 1 + 1) W').set 0 _) (by omega)⟩)
  have HCA := Lib.hid (rCheckT_any (ha.keep hk0))
  have HCB : Hid (∀ w1 : World, Kp W w1 → Calls Try.prog 10 #[.agg #[vb]] w1 fun e w' => e = .returned (.int .i64 (err b : Nat)) ∧ Kp w1 w') := Lib.hid (fun w1 hk => rCheckT_any (hb.keep (hk0.trans hk)))
  have HW := Lib.hid hW; have HK := Lib.hid hk0; have HB1 := Lib.hid b1; have HB2 := Lib.hid b2; have HB3 := Lib.hid b3; have HA := Lib.hid ha; have HB := Lib.hid hb; have HSZ := Lib.hid hsz
  have c0 := b1.cell 0 rfl
  obtain ⟨E1, hE1⟩ : ∃ E, E = err a := ⟨_, rfl⟩
  obtain ⟨E2, hE2⟩ : ∃ E, E = err b := ⟨_, rfl⟩
  have HE1 := Lib.hid hE1; have HE2 := Lib.hid hE2
  rw [← hE1] at HCA
  rw [← hE2] at HCB
  obtain ⟨ao, ac, rfl, hac, -, -⟩ := ha.open3
  obtain ⟨bo, bc, rfl, hbc, -, -⟩ := hb.open3
  obtain ⟨n, hn⟩ : ∃ n, n = a.length := ⟨_, rfl⟩
  obtain ⟨m, hm⟩ : ∃ m, m = b.length := ⟨_, rfl⟩
  rw [← hn] at HW HB1 HA HCA c0 hac ⊢
  rw [← hm] at HW HB2 HB HCB hbc ⊢
  have HN := Lib.hid hn; have HM := Lib.hid hm
  have i1 : (n : Int) ≤ (ac : Int) := by omega
  have i2 : (m : Int) ≤ (bc : Int) := by omega
  clear ha hb hk0 b1 b2 b3 hW hE1 hE2 hac hbc hn hm hQ hsz
  by_cases he1 : E1 = 0
  · have q1 : ((E1 : Int) != 0) = false := by simp [he1]
    have HZ1 : Hid (err a = 0) := Lib.hid (HE1.out ▸ he1)
    clear he1
    by_cases he2 : E2 = 0
    · have q2 : ((E2 : Int) != 0) = false := by simp [he2]
      have HZ2 : Hid (err b = 0) := Lib.hid (HE2.out ▸ he2)
      clear he2
      have hn4 : n ≤ 4096 := by have := (err_ok.1 HZ1.out).1; have := HN.out; omega
      have hm4 : m ≤ 4096 := by have := (err_ok.1 HZ2.out).1; have := HM.out; omega
      have i3 : (n : Int) ≤ 4096 := by omega
      have i4 : (m : Int) ≤ 4096 := by omega
      have HMG : Hid (mgE a b = if 4096 < (mrg a b).1.length then 2 else 0) := Lib.hid (by rw [mgE, if_neg (by simp [HZ1.out]), if_neg (by simp [HZ2.out])])
      go_enter Try.func23, Try.ntmps23
      go_wp2_with fail
      rw [← HW.out]
      refine HCA.out.mono ?_
      rintro e w1 ⟨rfl, hk1⟩
      have HK1 := Lib.hid hk1
      have c1 := (HB2.out.keep hk1).cell 0 rfl
      have HC2 := Lib.hid (HCB.out _ hk1)
      clear hk1 c0
      go_wp2_with fail
      refine HC2.out.mono ?_
      rintro e wB ⟨rfl, hk2⟩
      have HKB : Hid (Kp W wB) := Lib.hid (HK1.out.trans hk2)
      have c2 := (HB1.out.keep HKB.out).cell 0 rfl
      have HTA := Lib.hid (HA.out.keep (HK.out.trans HKB.out))
      clear hk2 c1 HK1 HC2
      go_wp2_with (at_builtin; refine wpList_cln rfl (.const (.slice none 0 0)) (.tmp 27) rfl rfl rfl HTA.out (by rw [← HN.out]; omega) ?_)
      intro u w2 ho2
      have HO2 := Lib.hid ho2
      obtain ⟨⟨ua, ul, uc, rfl⟩, -⟩ := row_frc ho2.owns
      obtain ⟨w3, hw3⟩ : ∃ W, W = w2.alloc (.cells #[.slice ua ul uc] 25) := ⟨_, rfl⟩
      have hI0 : MgI wB w3 w2.heap.size (.slice ua ul uc) (.slice none 0 0) a [] := by
        rw [hw3]
        exact ⟨Blk.new _ _ _, ho2.keep (kp_alloc _ _), (OwJ.start wB).keep (ho2.kp.trans (kp_alloc _ _)), ho2.kp.size, fun c hc => by have := ((row_frc ho2.owns).2 c hc).2; omega, fun c hc => by simp [Value.ownBlock] at hc, fun c hc e => by simp [Value.ownBlock] at e⟩
      have c3 := (HB2.out.keep ((HKB.out.trans ho2.kp).trans (kp_alloc w2 (.cells #[.slice ua ul uc] 25)))).cell 0 rfl
      have c3' := (HB2.out.keep (HKB.out.trans ho2.kp)).cell 0 rfl
      obtain ⟨o, ho⟩ : ∃ o, o = w2.heap.size := ⟨_, rfl⟩
      rw [← ho] at hI0
      have HI0 := Lib.hid hI0; have HW3 := Lib.hid hw3; have HO := Lib.hid ho
      clear ho2 hI0 hw3 ho c2
      go_wp2_with fail
      rw [← HW3.out, ← HO.out]
      go_loopw [10, 33] (fun nw i wr => ∃ (k : Nat) (u nv : Value), i = .int .i64 (k : Nat) ∧ nw = nv ∧ k ≤ m ∧ MgI wB wr o u nv (mrg a (b.take k)).1 ((mrg a (b.take k)).2.map (fun (j : Nat) => (j : Int)))) (fun _ i _ => m - (intOf i).toNat)
      case atStart => exact ⟨0, _, _, rfl, rfl, Nat.zero_le _, HI0.out⟩
      case round =>
        obtain ⟨k, u, nv, rfl, rfl, hk, hI⟩ := hrel
        rename World => wr
        have HI := Lib.hid hI
        obtain ⟨⟨u1, u2, u3, rfl⟩, -⟩ := row_frc hI.ow.owns
        obtain ⟨⟨v1, v2, v3, rfl⟩, -⟩ := row_frc hI.oj.owns
        have hul := hI.ow.tw.len
        by_cases hlt : k < m
        · obtain ⟨y, hy⟩ : ∃ y, b[k]? = some y := ⟨_, List.getElem?_eq_getElem (by have := HM.out; omega)⟩
          have hyo : TxOk y := HB.out.ok y (List.mem_of_getElem? hy)
          have hkw : Kp w wr := (HK.out.trans HKB.out).trans hI.kp
          obtain ⟨bb, bf, rfl, hcell⟩ := (HB.out.keep hkw).cell (by omega)
          have d0 := hcell k y hy
          have j1 : (k : Int) < (m : Int) := by omega
          obtain ⟨hT, hNs⟩ := mrg_step (a := a) hy
          have hlen : (mrg a (b.take k)).1.length ≤ n + k := by
            have := (mrg_len (b.take k) a).2.2
            rw [List.length_take] at this
            have := HN.out
            omega
          have hnl : ((mrg a (b.take k)).2.map (fun (j : Nat) => (j : Int))).length ≤ 5000 := by
            have := (mrg_len (b.take k) a).1
            rw [List.length_take] at this
            rw [List.length_map, this]
            omega
          obtain ⟨T, hTT⟩ : ∃ T, T = (mrg a (b.take k)).1 := ⟨_, rfl⟩
          obtain ⟨N, hNN⟩ : ∃ N, N = (mrg a (b.take k)).2.map (fun (j : Nat) => (j : Int)) := ⟨_, rfl⟩
          rw [← hTT] at hI HI hul hT hNs hlen
          rw [← hNN] at hI HI hNs hnl
          have HTX := Lib.hid hT; have HNX := Lib.hid hNs; have HNL := Lib.hid hnl; have HLN := Lib.hid hlen; have HYO := Lib.hid hyo; have HUL := Lib.hid hul
          have HFD := Lib.hid (rfind_any hI.ow.tw (by omega) hyo.1)
          have e0 := hI.blk.cell 0 rfl
          obtain ⟨Y, hY⟩ : ∃ Y, Y = st y := ⟨_, rfl⟩
          rw [← hY] at d0 HFD
          have HYY := Lib.hid hY
          have i5 : (u2 : Int) ≤ 9000 := by omega
          clear hI hkw hy hyo hcell hT hNs hlen hnl hTT hNN hul hY hk
          by_cases hmem : y ∈ T
          · rw [fndI_ge hmem] at HFD
            have HADD : Hid (add T y = T) := Lib.hid (add_in hmem)
            obtain ⟨F, hF⟩ : ∃ F, F = fnd y T := ⟨_, rfl⟩
            rw [← hF] at HFD
            have HF := Lib.hid hF
            have f0 : (0 : Int) ≤ (F : Int) := by omega
            have HFB : Hid (F ≤ 9000) := Lib.hid (by have := fnd_le y T; have := HLN.out; omega)
            clear hF hmem
            go_wp2_with fail
            refine HFD.out.mono ?_
            rintro e w4 ⟨rfl, hk4⟩
            have HI4 := Lib.hid ((HI.out.keep hk4).keep (kp_alloc w4 (.cells #[.int .i64 (F : Int)] 3)))
            have HNB : Hid (Blk (w4.alloc (.cells #[.int .i64 (F : Int)] 3)) w4.heap.size 3 #[.int .i64 (F : Int)]) := Lib.hid (Blk.new _ _ _)
            clear hk4 e0 d0
            go_wp2_with (at_builtin; refine wpList_it (w := wB) rfl (.tmp 51) (.tmp 53) rfl _ rfl HI4.out.oj (by have := HNL.out; omega) (F : Int) (by have := HFB.out; unfold IxOk; omega) w4.heap.size rfl HNB.out ?_)
            intro v8 w8 ho8 hg8 ha8
            have hI8 := HI4.out.num ho8 hg8 (by simpa using ha8)
            have HX : Hid (MgI wB w8 o (.slice u1 u2 u3) v8 (mrg a (b.take (k + 1))).1 ((mrg a (b.take (k + 1))).2.map (fun (j : Nat) => (j : Int)))) := Lib.hid (by
              rw [HTX.out, HNX.out, HADD.out, ← HF.out]
              exact hI8)
            clear hI8 ho8 hg8 ha8
            go_wp2_with fail
            go_roundw
            case rel => exact ⟨k + 1, _, _, by go_num, rfl, by omega, HX.out⟩
            case measure => simp [intOf]; omega
          · rw [fndI_no hmem] at HFD
            have HADD : Hid (add T y = T ++ [y]) := Lib.hid (add_new hmem)
            have HFS : Hid (fnd y (T ++ [y]) = u2) := Lib.hid (by rw [fnd_snoc hmem, ← HUL.out])
            clear hmem
            go_wp2_with fail
            refine HFD.out.mono ?_
            rintro e w4 ⟨rfl, hk4⟩
            have HI4 := Lib.hid ((HI.out.keep hk4).keep (kp_alloc w4 (.cells #[.string Y] 9)))
            have HNB : Hid (Blk (w4.alloc (.cells #[.string Y] 9)) w4.heap.size 9 #[.string (st y)]) := Lib.hid (by rw [← HYY.out]; exact Blk.new _ _ _)
            have e4 := (HI.out.keep hk4).blk.cell 0 rfl
            have e4' := HI4.out.blk.cell 0 rfl
            clear hk4 e0 d0
            go_wp2_with (at_builtin; refine wpList_tx (w := wB) rfl (.tmp 46) (.tmp 48) rfl _ rfl HI4.out.ow (by rw [← HUL.out]; omega) y HYO.out w4.heap.size rfl HNB.out ?_)
            intro v6 w6 ho6 hg6 ha6
            obtain ⟨⟨x1, x2, x3, rfl⟩, -⟩ := row_frc ho6.owns
            obtain ⟨hb6, hI7⟩ := HI4.out.text ho6 hg6 (by simpa using ha6)
            have g6 := hb6.cell 0 rfl; have g6' := hb6.free 0
            obtain ⟨W7, hW7⟩ : ∃ W7, W7 = w6.setCell ⟨o, 0, none⟩ (.slice x1 x2 x3) := ⟨_, rfl⟩
            rw [← hW7] at hI7
            have hs7 : W7.heap.size = w6.heap.size := by rw [hW7]; simp
            have HW7 := Lib.hid hW7
            have HI8 := Lib.hid (hI7.keep (kp_alloc W7 (.cells #[.int .i64 (u2 : Int)] 3)))
            have HNB7 : Hid (Blk (W7.alloc (.cells #[.int .i64 (u2 : Int)] 3)) w6.heap.size 3 #[.int .i64 (u2 : Int)]) := Lib.hid (by rw [← hs7]; exact Blk.new _ _ _)
            clear ho6 hg6 ha6 hb6 hI7 hW7 e4 e4' hs7
            go_wp2_with (at_builtin; (try rw [← HW7.out]); refine wpList_it (w := wB) rfl (.tmp 51) (.tmp 53) rfl _ rfl HI8.out.oj (by have := HNL.out; omega) (u2 : Int) (by unfold IxOk; omega) w6.heap.size rfl HNB7.out ?_)
            intro v8 w8 ho8 hg8 ha8
            have hI9 := HI8.out.num ho8 hg8 (by simpa using ha8)
            have HX : Hid (MgI wB w8 o (.slice x1 x2 x3) v8 (mrg a (b.take (k + 1))).1 ((mrg a (b.take (k + 1))).2.map (fun (j : Nat) => (j : Int)))) := Lib.hid (by
              rw [HTX.out, HNX.out, HADD.out, HFS.out]
              exact hI9)
            clear hI9 ho8 hg8 ha8
            go_wp2_with fail
            go_roundw
            case rel => exact ⟨k + 1, _, _, by go_num, rfl, by omega, HX.out⟩
            case measure => simp [intOf]; omega
        · obtain rfl : k = m := by omega
          have htk : b.take k = b := List.take_of_length_le (by have := HM.out; omega)
          rw [htk] at HI hul
          have e0 := HI.out.blk.cell 0 rfl
          have hb4 := HB3.out.keep (HKB.out.trans HI.out.kp)
          have HB4 := Lib.hid hb4
          have f4 := hb4.free 0; have d4 := hb4.cell 0 rfl
          have HU : Hid (∀ c, (Value.slice u1 u2 u3).ownBlock = some c → w.heap.size + 3 ≤ c) := Lib.hid (fun c hc => by have := HI.out.ow.newer c hc; have := HKB.out.size; have := HSZ.out; omega)
          have HV : Hid (∀ c, (Value.slice v1 v2 v3).ownBlock = some c → w.heap.size + 3 ≤ c) := Lib.hid (fun c hc => by have := HI.out.oj.newer c hc; have := HKB.out.size; have := HSZ.out; omega)
          have HUL := Lib.hid hul
          clear htk hI hb4 hlt hk hul
          by_cases hbig : 4096 < u2
          · have F : Hid (mgE a b = 2 ∧ mgL a b = [] ∧ mgN a b = []) := Lib.hid (by
              have h : mgE a b = 2 := by rw [HMG.out, if_pos (by rw [← HUL.out]; exact hbig)]
              exact ⟨h, mgL_no (by rw [h]; decide)⟩)
            have j5 : (4096 : Int) < (u2 : Int) := by omega
            clear hbig
            go_wp2_with fail
            exact FIN.out wr _ _ _ 2 _ HB4.out ((HK.out.trans HKB.out).trans HI.out.kp) rfl rfl rfl rfl (by rw [F.out.2.1]; exact Tw.nil _) (fun c hc => by simp [Value.ownBlock] at hc) (by rw [F.out.2.2]; exact Jw.nil _) (fun c hc => by simp [Value.ownBlock] at hc) F.out.1.symm
          · have F : Hid (mgE a b = 0) := Lib.hid (by rw [HMG.out, if_neg (by rw [← HUL.out]; exact hbig)])
            have j5 : (u2 : Int) ≤ 4096 := by omega
            clear hbig
            go_wp2_with fail
            exact FIN.out wr _ _ _ 0 _ HB4.out ((HK.out.trans HKB.out).trans HI.out.kp) rfl rfl rfl rfl (by rw [(mgL_ok F.out).1]; exact HI.out.ow.tw) HU.out (by rw [(mgL_ok F.out).2]; exact HI.out.oj.jw) HV.out F.out.symm
    · have q2 : ((E2 : Int) != 0) = true := by simp; omega
      have F : Hid (mgE a b = E2 ∧ mgL a b = [] ∧ mgN a b = []) := Lib.hid (by
        have h : mgE a b = err b := by rw [mgE, if_neg (by simp [HZ1.out]), if_pos (by rw [← HE2.out]; exact he2)]
        exact ⟨h.trans HE2.out.symm, mgL_no (by rw [h, ← HE2.out]; exact he2)⟩)
      clear he2
      go_enter Try.func23, Try.ntmps23
      go_wp2_with fail
      rw [← HW.out]
      refine HCA.out.mono ?_
      rintro e w1 ⟨rfl, hk1⟩
      have HK1 := Lib.hid hk1
      have c1 := (HB2.out.keep hk1).cell 0 rfl
      have HC2 := Lib.hid (HCB.out _ hk1)
      clear hk1 c0
      go_wp2_with fail
      refine HC2.out.mono ?_
      rintro e wB ⟨rfl, hk2⟩
      have HKB : Hid (Kp W wB) := Lib.hid (HK1.out.trans hk2)
      have hb4 := HB3.out.keep HKB.out
      have HB4 := Lib.hid hb4
      have f4 := hb4.free 0; have d4 := hb4.cell 0 rfl
      clear hk2 c1 HK1 HC2 hb4
      go_wp2_with fail
      exact FIN.out wB _ _ _ E2 _ HB4.out (HK.out.trans HKB.out) rfl rfl rfl rfl (by rw [F.out.2.1]; exact Tw.nil _) (fun c hc => by simp [Value.ownBlock] at hc) (by rw [F.out.2.2]; exact Jw.nil _) (fun c hc => by simp [Value.ownBlock] at hc) F.out.1.symm
  · have q1 : ((E1 : Int) != 0) = true := by simp; omega
    have F : Hid (mgE a b = E1 ∧ mgL a b = [] ∧ mgN a b = []) := Lib.hid (by
      have h : mgE a b = err a := by rw [mgE, if_pos (by rw [← HE1.out]; exact he1)]
      exact ⟨h.trans HE1.out.symm, mgL_no (by rw [h, ← HE1.out]; exact he1)⟩)
    clear he1
    go_enter Try.func23, Try.ntmps23
    go_wp2_with fail
    rw [← HW.out]
    refine HCA.out.mono ?_
    rintro e w1 ⟨rfl, hk1⟩
    have HK1 := Lib.hid hk1
    have hb4 := HB3.out.keep hk1
    have HB4 := Lib.hid hb4
    have f4 := hb4.free 0; have d4 := hb4.cell 0 rfl
    clear hk1 c0 hb4
    go_wp2_with fail
    exact FIN.out w1 _ _ _ E1 _ HB4.out (HK.out.trans HK1.out) rfl rfl rfl rfl (by rw [F.out.2.1]; exact Tw.nil _) (fun c hc => by simp [Value.ownBlock] at hc) (by rw [F.out.2.2]; exact Jw.nil _) (fun c hc => by simp [Value.ownBlock] at hc) F.out.1.symm
end By
end Go.Proofs.Ytlfoikjbbbhbdaa

/- The reference's Keep. Condition: at most a million numbers. -/
namespace Go.Proofs.Ytlfoikjbbbhbdaa
namespace By
open Go.RowKit WireN CtN
set_option linter.unusedVariables false
set_option linter.unusedSimpArgs false

/-- Which numbers below n are in a list. -/
def mks (n : Nat) (u : List Int) : List Bool := (List.range n).map fun (i : Nat) => decide ((i : Int) ∈ u)
theorem mks_len (n : Nat) (u : List Int) : (mks n u).length = n := by simp [mks]
theorem mks_at {n : Nat} {u : List Int} {k : Nat} (h : k < n) : (mks n u)[k]? = some (decide ((k : Int) ∈ u)) := by simp [mks, h]
theorem mks_set {n : Nat} {u : List Int} {k : Nat} (h : k < n) : (mks n u).set k true = mks n (u ++ [(k : Int)]) := by
  refine List.ext_getElem? fun j => ?_
  rw [List.getElem?_set, mks_len]
  by_cases hj : j < n
  · rw [mks_at hj, mks_at hj]
    by_cases e : k = j
    · subst e; rw [if_pos rfl, if_pos h]; exact congrArg some (decide_eq_true (List.mem_append_right u List.mem_cons_self)).symm
    · rw [if_neg e]
      have : ¬ (j : Int) = (k : Int) := by omega
      simp [this]
  · have h1 : (mks n (u ++ [(k : Int)]))[j]? = none := List.getElem?_eq_none (by rw [mks_len]; omega)
    have h2 : (mks n u)[j]? = none := List.getElem?_eq_none (by rw [mks_len]; omega)
    rw [h1, h2, if_neg (by omega)]
theorem mks_nil (n : Nat) : mks n [] = List.replicate n false := by
  refine List.ext_getElem? fun j => ?_
  by_cases hj : j < n
  · rw [mks_at hj]; simp [hj]
  · rw [List.getElem?_eq_none (by rw [mks_len]; omega), List.getElem?_eq_none (by simp; omega)]
/-- The cells of booleans. -/
def bcel (bs : List Bool) : List Value := bs.map Value.bool
theorem bcel_at {bs : List Bool} {k : Nat} {x : Bool} (h : bs[k]? = some x) : (bcel bs)[k]? = some (.bool x) := by simp [bcel, h]
def BB (W : World) (g : Nat) (bs : List Bool) : Prop := Blk W g 4 (bcel bs).toArray
theorem BB.cell {W : World} {g : Nat} {bs : List Bool} {k : Nat} {x : Bool} (h : BB W g bs) (hx : bs[k]? = some x) : W.cell? ⟨g, k, none⟩ = some (.bool x) := Blk.cell h k (by simpa using bcel_at hx)
theorem BB.set {W : World} {g : Nat} {bs : List Bool} (h : BB W g bs) (k : Nat) (x : Bool) : BB (W.setCell ⟨g, k, none⟩ (.bool x)) g (bs.set k x) := by
  have := Blk.set h k (.bool x)
  unfold BB
  rw [show (bcel (bs.set k x)).toArray = (bcel bs).toArray.setIfInBounds k (.bool x) by simp [bcel, List.map_set]]
  exact this
theorem infoBl : (Try.prog.info? 4).map (fun i => (i.zero, i.size, i.bytes)) = some (some (.bool false), 1, 1) := by kernel_rfl
theorem make_bool {n : Nat} (hn : n ≤ 1000000) (W : World) : (Instr.makeSlice 75 (.int .i64 (n : Int)) (.int .i64 (n : Int))).run Try.prog W = .ok (.slice (some ⟨W.heap.size, 0, none⟩) n n) (W.alloc (.cells (bcel (mks n [])).toArray 4)) := by
  obtain ⟨i0, hi, hz0, hz1, hz2⟩ := info_parts infoBl
  have h := run_make (P := Try.prog) W 75 4 i0 (.bool false) Try.underlying75 hi hz0 .i64 .i64 (n : Int) (n : Int) (by omega) (Int.le_refl _) (by rw [hz2]; omega) (by omega)
  rw [hz1, Nat.mul_one, Int.toNat_natCast] at h
  rw [h]
  have e : madeCells (Value.bool false).cells n = (bcel (mks n [])).toArray := by
    rw [mks_nil]
    apply Array.ext
    · simp [madeCells, bcel]
    · intro i h1 h2
      simp [madeCells, bcel, Value.cells, Nat.mod_one]
  rw [e]
/-- What Keep answers. -/
def kpE (s : List Tx) (u : List Int) : Nat := if err s ≠ 0 then err s else kerr s.length u
def kpL (s : List Tx) (u : List Int) : List Tx := if kpE s u = 0 then (kps u s 0 0).1 else []
def kpN (s : List Tx) (u : List Int) : List Int := if kpE s u = 0 then (kps u s 0 0).2 else []
theorem kpL_no {s : List Tx} {u : List Int} (h : kpE s u ≠ 0) : kpL s u = [] ∧ kpN s u = [] := ⟨if_neg h, if_neg h⟩
theorem kpL_ok {s : List Tx} {u : List Int} (h : kpE s u = 0) : kpL s u = (kps u s 0 0).1 ∧ kpN s u = (kps u s 0 0).2 := ⟨if_pos h, if_pos h⟩
def KeepR (s : List Tx) (us : List Int) (w : World) (e : Ending) (w' : World) : Prop :=
  ∃ u nv, e = .returned (.tuple #[.agg #[u], nv, .int .i64 (kpE s us : Nat)]) ∧ Tw w' u (kpL s us) ∧ Jw w' nv (kpN s us) ∧ (∀ c, u.ownBlock = some c → w.heap.size ≤ c) ∧ (∀ c, nv.ownBlock = some c → w.heap.size ≤ c) ∧ Kp w w'
end By
end Go.Proofs.Ytlfoikjbbbhbdaa

/- The reference's Keep: its walk. Condition: at most a million numbers. -/
namespace Go.Proofs.Ytlfoikjbbbhbdaa
namespace By
open Go.RowKit WireN CtN
set_option linter.unusedVariables false
set_option linter.unusedSimpArgs false

theorem kps_step {us : List Int} {s : List Tx} {k : Nat} {t : Tx} (h : s[k]? = some t) : kps us (s.take (k + 1)) 0 0 =
    if (k : Int) ∈ us then ((kps us (s.take k) 0 0).1 ++ [t], (kps us (s.take k) 0 0).2 ++ [(((kps us (s.take k) 0 0).1.length : Nat) : Int)]) else ((kps us (s.take k) 0 0).1, (kps us (s.take k) 0 0).2 ++ [-1]) := by
  have hk : k < s.length := (List.getElem?_eq_some_iff.1 h).1
  rw [List.take_add_one, h, Option.toList_some, kps_snoc]
  rw [show 0 + (s.take k).length = k by rw [List.length_take]; omega]
  simp only [Nat.zero_add]
set_option maxRecDepth 100000 in
set_option maxHeartbeats 8000000 in
theorem rKeepT_any {w : World} {v vu : Value} {s : List Tx} {us : List Int} (hs : Tw w v s) (hu : Jw w vu us) (hul : us.length ≤ 1000000) :
    Calls Try.prog 20 #[.agg #[v], vu] w (KeepR s us w) := by
  obtain ⟨Q, hQ⟩ : ∃ Q, Q = KeepR s us w := ⟨_, rfl⟩
  rw [← hQ]
  obtain ⟨W, hW⟩ : ∃ W, W = (w.alloc (.cells #[v] 25)).alloc (.cells #[.slice none 0 0] 25) := ⟨_, rfl⟩
  have hk0 : Kp w W := by rw [hW]; exact Kp.alloc (kp_alloc _ _) _
  have b1 : Blk W w.heap.size 25 #[v] := by rw [hW]; exact (Blk.new _ _ _).keep (kp_alloc _ _)
  have b2 : Blk W (w.heap.size + 1) 25 #[.slice none 0 0] := by
    have := Blk.new (w.alloc (.cells #[v] 25)) 25 #[.slice none 0 0]
    rw [hW]
    simpa using this
  have hsz : W.heap.size = w.heap.size + 2 := by rw [hW]; simp
  have FIN : Hid (∀ (W' : World) (u0 u nv : Value) (E : Nat) (A : Act), Blk W' (w.heap.size + 1) 25 #[u0] → Kp w W' → A.defers = [] → A.tmps.getD 4 undef = .pointer (some ⟨w.heap.size + 1, 0, none⟩) → A.tmps.getD 5 undef = nv → A.tmps.getD 6 undef = .int .i64 (E : Nat) → Tw W' u (kpL s us) → (∀ c, u.ownBlock = some c → w.heap.size + 2 ≤ c) → Jw W' nv (kpN s us) → (∀ c, nv.ownBlock = some c → w.heap.size + 2 ≤ c) → E = kpE s us →
      bodyPost Try.prog Try.f20 Q .ret A (W'.setCell ⟨w.heap.size + 1, 0, none⟩ u)) := Lib.hid (by
    intro W' u0 u nv E A hb hk h0 h4 h5 h6 hT hu hJ hv hE
    have b3 := hb.set 0 u
    have e0 := b3.cell 0 (v := u) rfl
    have h4' : A.tmps[4]?.getD undef = .pointer (some ⟨w.heap.size + 1, 0, none⟩) := by simpa using h4
    have h5' : A.tmps[5]?.getD undef = nv := by simpa using h5
    have h6' : A.tmps[6]?.getD undef = .int .i64 (E : Nat) := by simpa using h6
    refine bodyPost_ret (v := .tuple #[.agg #[u], nv, .int .i64 (E : Nat)]) (by simp [results, Try.results20, go_sem, h4', h5', h6', e0]) h0 ?_
    rw [hQ]
    exact ⟨u, nv, by rw [hE], hT.setc (fun b hb2 => by have := hu b hb2; omega), hJ.setc (fun b hb2 => by have := hv b hb2; omega), fun b hb2 => by have := hu b hb2; omega, fun b hb2 => by have := hv b hb2; omega, Only.kp hk ((Only.refl (w.heap.size + 1) W').set 0 _) (by omega)⟩)
  have HC := Lib.hid (rCheckT_any (hs.keep hk0))
  have HW := Lib.hid hW; have HK := Lib.hid hk0; have HB1 := Lib.hid b1; have HB2 := Lib.hid b2; have HS := Lib.hid hs; have HU := Lib.hid hu; have HSZ := Lib.hid hsz
  have c0 := b1.cell 0 rfl
  obtain ⟨E, hE⟩ : ∃ E, E = err s := ⟨_, rfl⟩
  have HE := Lib.hid hE
  rw [← hE] at HC
  obtain ⟨ao, ac, rfl, hac, -, -⟩ := hs.open3
  obtain ⟨bo, bc, rfl, hbc, -, -⟩ := hu.open3
  obtain ⟨n, hn⟩ : ∃ n, n = s.length := ⟨_, rfl⟩
  obtain ⟨m, hm⟩ : ∃ m, m = us.length := ⟨_, rfl⟩
  rw [← hn] at HW HB1 HS HC c0 hac ⊢
  rw [← hm] at HU hul hbc ⊢
  have HN := Lib.hid hn; have HM := Lib.hid hm
  have i1 : (n : Int) ≤ (ac : Int) := by omega
  have i2 : (m : Int) ≤ (bc : Int) := by omega
  have i4 : (m : Int) ≤ 1000000 := by omega
  clear hs hu hk0 b1 b2 hW hE hac hbc hn hm hQ hsz
  by_cases he : E = 0
  · have q1 : ((E : Int) != 0) = false := by simp [he]
    have HZ : Hid (err s = 0) := Lib.hid (HE.out ▸ he)
    have HKE : Hid (kpE s us = kerr s.length us) := Lib.hid (by rw [kpE, if_neg (by simp [HZ.out])])
    clear he
    have hn4 : n ≤ 4096 := by have := (err_ok.1 HZ.out).1; have := HN.out; omega
    have i3 : (n : Int) ≤ 4096 := by omega
    go_enter Try.func20, Try.ntmps20
    go_wp2_with fail
    rw [← HW.out]
    refine HC.out.mono ?_
    rintro e w1 ⟨rfl, hk1⟩
    have HK1 := Lib.hid hk1
    have c1 := (HB1.out.keep hk1).cell 0 rfl
    have qm := make_bool (n := n) (by omega) w1
    obtain ⟨w2, hw2⟩ : ∃ w2, w2 = w1.alloc (.cells (bcel (mks n [])).toArray 4) := ⟨_, rfl⟩
    have hbb : BB w2 w1.heap.size (mks n []) := by rw [hw2]; exact Blk.new _ _ _
    have hk2 : Kp w1 w2 := by rw [hw2]; exact kp_alloc _ _
    rw [← hw2] at qm
    have HBB := Lib.hid hbb; have HK2 := Lib.hid hk2
    clear hk1 c0 hw2 hbb hk2
    go_wp2_with fail
    go_loopw [27] (fun i wr => ∃ (j : Nat), i = .int .i64 (j : Nat) ∧ j ≤ m ∧ Kp w1 wr ∧ BB wr w1.heap.size (mks n (us.take j)) ∧ Hid (∀ x ∈ us.take j, 0 ≤ x ∧ x < (n : Int))) (fun i _ => m - (intOf i).toNat)
    case atStart => exact ⟨0, rfl, Nat.zero_le _, HK2.out, HBB.out, Lib.hid (by simp)⟩
    case round =>
      obtain ⟨j, rfl, hj, hkr, hbr, HALL⟩ := hrel
      rename World => wr
      have HKR := Lib.hid hkr; have HBR := Lib.hid hbr
      have c2 := ((HB1.out.keep HK1.out).keep hkr).cell 0 rfl
      by_cases hlt : j < m
      · obtain ⟨x, hx⟩ : ∃ x, us[j]? = some x := ⟨_, List.getElem?_eq_getElem (by have := HM.out; omega)⟩
        have hxo : IxOk x := HU.out.ok x (List.mem_of_getElem? hx)
        obtain ⟨b, off, rfl, hcell⟩ := (HU.out.keep ((HK.out.trans HK1.out).trans hkr)).cell (by omega)
        have d0 := hcell j x hx
        have j1 : (j : Int) < (m : Int) := by omega
        have HX := Lib.hid hx
        clear hcell hx
        by_cases hin : 0 ≤ x ∧ x < (n : Int)
        · obtain ⟨p, rfl⟩ : ∃ p : Nat, x = (p : Int) := ⟨x.toNat, by omega⟩
          have hp1 : (p : Int) < (n : Int) := hin.2
          have hpn : p < n := by omega
          have hc3 := BB.cell hbr (mks_at (u := us.take j) hpn)
          have hf3 := Blk.free hbr p
          have HST : Hid (us.take (j + 1) = us.take j ++ [(p : Int)]) := Lib.hid (by rw [List.take_add_one, HX.out]; rfl)
          have HNX : Hid (Kp w1 (wr.setCell ⟨w1.heap.size, p, none⟩ (.bool true)) ∧ BB (wr.setCell ⟨w1.heap.size, p, none⟩ (.bool true)) w1.heap.size (mks n (us.take (j + 1)))) := Lib.hid ⟨Only.kp hkr ((Only.refl w1.heap.size wr).set p _) (Nat.le_refl _), by
            rw [HST.out, ← mks_set hpn]; exact BB.set hbr p true⟩
          have HAL2 : Hid (∀ x ∈ us.take (j + 1), 0 ≤ x ∧ x < (n : Int)) := Lib.hid (by
            rw [HST.out]; intro x hx
            rcases List.mem_append.1 hx with h | h
            · exact HALL.out x h
            · obtain rfl : x = (p : Int) := by simpa using h
              exact ⟨by omega, by omega⟩)
          clear hin hkr hbr hxo
          go_wp2_with fail
          go_roundw
          case rel => exact ⟨j + 1, by go_num, by omega, HNX.out.1, HNX.out.2, HAL2⟩
          case measure => simp [intOf]; omega
        · have F : Hid (kpE s us = 20 ∧ kpL s us = [] ∧ kpN s us = []) := Lib.hid (by
            have h : kpE s us = 20 := by
              rw [HKE.out, kerr, if_neg]
              intro h
              have := h x (List.mem_of_getElem? HX.out)
              rw [← HN.out] at this
              exact hin this
            exact ⟨h, kpL_no (by rw [h]; decide)⟩)
          have hb4 := (HB2.out.keep HK1.out).keep hkr
          have HB4 := Lib.hid hb4
          have f4 := hb4.free 0; have d4 := hb4.cell 0 rfl
          clear hkr hbr hb4
          by_cases hneg : x < 0
          · clear hin hxo
            go_wp2_with fail
            exact FIN.out wr _ _ _ 20 _ HB4.out ((HK.out.trans HK1.out).trans HKR.out) rfl rfl rfl rfl (by rw [F.out.2.1]; exact Tw.nil _) (fun c hc => by simp [Value.ownBlock] at hc) (by rw [F.out.2.2]; exact Jw.nil _) (fun c hc => by simp [Value.ownBlock] at hc) F.out.1.symm
          · have hn0 : (0 : Int) ≤ x := by omega
            have hnx : (n : Int) ≤ x := by omega
            clear hin hxo hneg
            go_wp2_with fail
            exact FIN.out wr _ _ _ 20 _ HB4.out ((HK.out.trans HK1.out).trans HKR.out) rfl rfl rfl rfl (by rw [F.out.2.1]; exact Tw.nil _) (fun c hc => by simp [Value.ownBlock] at hc) (by rw [F.out.2.2]; exact Jw.nil _) (fun c hc => by simp [Value.ownBlock] at hc) F.out.1.symm
      · obtain rfl : j = m := by omega
        have htk : us.take j = us := List.take_of_length_le (by have := HM.out; omega)
        rw [htk] at HBR HALL
        have HOK : Hid (kpE s us = 0) := Lib.hid (by rw [HKE.out, kerr, if_pos (by rw [← HN.out]; exact HALL.out)])
        obtain ⟨w6, hw6⟩ : ∃ W, W = wr.alloc (.cells #[.slice none 0 0] 25) := ⟨_, rfl⟩
        obtain ⟨o, ho⟩ : ∃ o, o = wr.heap.size := ⟨_, rfl⟩
        have hI0 : MgI wr w6 o (.slice none 0 0) (.slice none 0 0) [] [] := by
          rw [hw6, ho]
          exact ⟨Blk.new _ _ _, (OwT.start wr).keep (kp_alloc _ _), (OwJ.start wr).keep (kp_alloc _ _), Nat.le_refl _, fun c hc => by simp [Value.ownBlock] at hc, fun c hc => by simp [Value.ownBlock] at hc, fun c hc e => by simp [Value.ownBlock] at e⟩
        have c3 := (((HB1.out.keep HK1.out).keep hkr).keep (kp_alloc wr (.cells #[.slice none 0 0] 25))).cell 0 rfl
        have HI0 := Lib.hid hI0; have HW6 := Lib.hid hw6; have HO := Lib.hid ho
        clear htk hkr hbr hlt hI0 hw6 ho HALL
        go_wp2_with fail
        rw [← HW6.out, ← HO.out]
        go_loopw [12, 48] (fun nw i wy => ∃ (k : Nat) (u nv : Value), i = .int .i64 (k : Nat) ∧ nw = nv ∧ k ≤ n ∧ MgI wr wy o u nv (kps us (s.take k) 0 0).1 (kps us (s.take k) 0 0).2) (fun _ i _ => n - (intOf i).toNat)
        case atStart => exact ⟨0, _, _, rfl, rfl, Nat.zero_le _, HI0.out⟩
        case round =>
          obtain ⟨k, u, nv, rfl, rfl, hk, hI⟩ := hrel
          rename World => wy
          have HI := Lib.hid hI
          obtain ⟨⟨u1, u2, u3, rfl⟩, -⟩ := row_frc hI.ow.owns
          obtain ⟨⟨v1, v2, v3, rfl⟩, -⟩ := row_frc hI.oj.owns
          have hul := hI.ow.tw.len
          by_cases hlt : k < n
          · obtain ⟨t, ht⟩ : ∃ t, s[k]? = some t := ⟨_, List.getElem?_eq_getElem (by have := HN.out; omega)⟩
            have hto : TxOk t := HS.out.ok t (List.mem_of_getElem? ht)
            have hkw : Kp w wy := ((HK.out.trans HK1.out).trans HKR.out).trans hI.kp
            obtain ⟨bb, bf, rfl, hcell⟩ := (HS.out.keep hkw).cell (by omega)
            have d0 := hcell k t ht
            have d1 := BB.cell (Blk.keep HBR.out hI.kp) (mks_at (u := us) hlt)
            have j1 : (k : Int) < (n : Int) := by omega
            have hst := kps_step (us := us) ht
            have hlen : (kps us (s.take k) 0 0).1.length ≤ 4096 := by
              have := (kps_len us (s.take k) 0 0).2
              rw [List.length_take] at this
              omega
            have hnl : (kps us (s.take k) 0 0).2.length ≤ 4096 := by
              have := (kps_len us (s.take k) 0 0).1
              rw [List.length_take] at this
              omega
            obtain ⟨T, hTT⟩ : ∃ T, T = (kps us (s.take k) 0 0).1 := ⟨_, rfl⟩
            obtain ⟨N, hNN⟩ : ∃ N, N = (kps us (s.take k) 0 0).2 := ⟨_, rfl⟩
            rw [← hTT] at hI HI hul hst hlen
            rw [← hNN] at hI HI hst hnl
            have HST := Lib.hid hst; have HNL := Lib.hid hnl; have HLN := Lib.hid hlen; have HTO := Lib.hid hto; have HUL := Lib.hid hul
            have e0 := hI.blk.cell 0 rfl
            obtain ⟨Y, hY⟩ : ∃ Y, Y = st t := ⟨_, rfl⟩
            rw [← hY] at d0
            have HYY := Lib.hid hY
            have i5 : (u2 : Int) ≤ 4096 := by omega
            by_cases hmem : (k : Int) ∈ us
            · rw [decide_eq_true hmem] at d1
              have HS2 : Hid (kps us (s.take (k + 1)) 0 0 = (T ++ [t], N ++ [(u2 : Int)])) := Lib.hid (by rw [hst, if_pos hmem, ← hul])
              clear hI hkw ht hto hcell hst hlen hnl hTT hNN hul hY hk hmem
              have HI4 := Lib.hid (HI.out.keep (kp_alloc wy (.cells #[.int .i64 (u2 : Int)] 3)))
              have HNB : Hid (Blk (wy.alloc (.cells #[.int .i64 (u2 : Int)] 3)) wy.heap.size 3 #[.int .i64 (u2 : Int)]) := Lib.hid (Blk.new _ _ _)
              go_wp2_with (at_builtin; refine wpList_it (w := wr) rfl (.tmp 61) (.tmp 65) rfl _ rfl HI4.out.oj (by have := HNL.out; omega) (u2 : Int) (by unfold IxOk; omega) wy.heap.size rfl HNB.out ?_)
              intro v8 w8 ho8 hg8 ha8
              have HI8 := Lib.hid (HI4.out.num ho8 hg8 (by simpa using ha8))
              have e8 := HI8.out.blk.cell 0 rfl
              have HI9 := Lib.hid (HI8.out.keep (kp_alloc w8 (.cells #[.string Y] 9)))
              have HNB2 : Hid (Blk (w8.alloc (.cells #[.string Y] 9)) w8.heap.size 9 #[.string (st t)]) := Lib.hid (by rw [← HYY.out]; exact Blk.new _ _ _)
              clear ho8 hg8 ha8 e0 d0 d1
              go_wp2_with (at_builtin; refine wpList_tx (w := wr) rfl (.tmp 68) (.tmp 70) rfl _ rfl HI9.out.ow (by have := HLN.out; omega) t HTO.out w8.heap.size rfl HNB2.out ?_)
              intro v6 wz ho6 hg6 ha6
              obtain ⟨⟨x1, x2, x3, rfl⟩, -⟩ := row_frc ho6.owns
              obtain ⟨hb6, hI7⟩ := HI9.out.text ho6 hg6 (by simpa using ha6)
              have g6 := hb6.cell 0 rfl; have g6' := hb6.free 0
              have HX : Hid (MgI wr (wz.setCell ⟨o, 0, none⟩ (.slice x1 x2 x3)) o (.slice x1 x2 x3) v8 (kps us (s.take (k + 1)) 0 0).1 (kps us (s.take (k + 1)) 0 0).2) := Lib.hid (by
                rw [HS2.out]
                exact hI7)
              clear ho6 hg6 ha6 hb6 hI7 e8
              go_wp2_with fail
              go_roundw
              case rel => exact ⟨k + 1, _, _, by go_num, rfl, by omega, HX.out⟩
              case measure => simp [intOf]; omega
            · rw [decide_eq_false hmem] at d1
              have HS2 : Hid (kps us (s.take (k + 1)) 0 0 = (T, N ++ [-1])) := Lib.hid (by rw [hst, if_neg hmem])
              clear hI hkw ht hto hcell hst hlen hnl hTT hNN hul hY hk hmem
              have HI4 := Lib.hid (HI.out.keep (kp_alloc wy (.cells #[.int .i64 (-1)] 3)))
              have HNB : Hid (Blk (wy.alloc (.cells #[.int .i64 (-1)] 3)) wy.heap.size 3 #[.int .i64 (-1)]) := Lib.hid (Blk.new _ _ _)
              go_wp2_with (at_builtin; refine wpList_it (w := wr) rfl (.tmp 58) (.tmp 59) rfl _ rfl HI4.out.oj (by have := HNL.out; omega) (-1) (by unfold IxOk; omega) wy.heap.size rfl HNB.out ?_)
              intro v8 w8 ho8 hg8 ha8
              have hI8 := HI4.out.num ho8 hg8 (by simpa using ha8)
              have HX : Hid (MgI wr w8 o (.slice u1 u2 u3) v8 (kps us (s.take (k + 1)) 0 0).1 (kps us (s.take (k + 1)) 0 0).2) := Lib.hid (by
                rw [HS2.out]
                exact hI8)
              clear hI8 ho8 hg8 ha8
              go_wp2_with fail
              go_roundw
              case rel => exact ⟨k + 1, _, _, by go_num, rfl, by omega, HX.out⟩
              case measure => simp [intOf]; omega
          · obtain rfl : k = n := by omega
            have htk : s.take k = s := List.take_of_length_le (by have := HN.out; omega)
            rw [htk] at HI
            have e0 := HI.out.blk.cell 0 rfl
            have hb4 := ((HB2.out.keep HK1.out).keep HKR.out).keep HI.out.kp
            have HB4 := Lib.hid hb4
            have f4 := hb4.free 0; have d4 := hb4.cell 0 rfl
            have HUU : Hid (∀ c, (Value.slice u1 u2 u3).ownBlock = some c → w.heap.size + 2 ≤ c) := Lib.hid (fun c hc => by have := HI.out.ow.newer c hc; have := HKR.out.size; have := HK1.out.size; have := HSZ.out; omega)
            have HV : Hid (∀ c, (Value.slice v1 v2 v3).ownBlock = some c → w.heap.size + 2 ≤ c) := Lib.hid (fun c hc => by have := HI.out.oj.newer c hc; have := HKR.out.size; have := HK1.out.size; have := HSZ.out; omega)
            clear htk hI hb4 hlt hk hul
            go_wp2_with fail
            exact FIN.out wy _ _ _ 0 _ HB4.out (((HK.out.trans HK1.out).trans HKR.out).trans HI.out.kp) rfl rfl rfl rfl (by rw [(kpL_ok HOK.out).1]; exact HI.out.ow.tw) HUU.out (by rw [(kpL_ok HOK.out).2]; exact HI.out.oj.jw) HV.out HOK.out.symm
  · have q1 : ((E : Int) != 0) = true := by simp; omega
    have F : Hid (kpE s us = E ∧ kpL s us = [] ∧ kpN s us = []) := Lib.hid (by
      have h : kpE s us = err s := by rw [kpE, if_pos (by rw [← HE.out]; exact he)]
      exact ⟨h.trans HE.out.symm, kpL_no (by rw [h, ← HE.out]; exact he)⟩)
    clear he
    go_enter Try.func20, Try.ntmps20
    go_wp2_with fail
    rw [← HW.out]
    refine HC.out.mono ?_
    rintro e w1 ⟨rfl, hk1⟩
    have HK1 := Lib.hid hk1
    have hb4 := HB2.out.keep hk1
    have HB4 := Lib.hid hb4
    have f4 := hb4.free 0; have d4 := hb4.cell 0 rfl
    clear hk1 c0 hb4
    go_wp2_with fail
    exact FIN.out w1 _ _ _ E _ HB4.out (HK.out.trans HK1.out) rfl rfl rfl rfl (by rw [F.out.2.1]; exact Tw.nil _) (fun c hc => by simp [Value.ownBlock] at hc) (by rw [F.out.2.2]; exact Jw.nil _) (fun c hc => by simp [Value.ownBlock] at hc) F.out.1.symm
end By
end Go.Proofs.Ytlfoikjbbbhbdaa
