/- The reference's Keep: its walk. Condition: at most a million numbers. -/
import Derived.Test.YtlfoikjbbbhbdaaCtK
namespace Go.Proofs.Ytlfoikjbbbhbdaa
namespace By
open Go.RowKit WireN CtN
set_option linter.unusedVariables false
set_option linter.unusedSimpArgs false

theorem kps_step {us : List Int} {s : List Tx} {k : Nat} {t : Tx} (h : s[k]? = some t) : kps us (s.take (k + 1)) 0 0 =
    if (k : Int) ∈ us then ((kps us (s.take k) 0 0).1 ++ [t], (kps us (s.take k) 0 0).2 ++ [(((kps us (s.take k) 0 0).1.length : Nat) : Int)]) else ((kps us (s.take k) 0 0).1, (kps us (s.take k) 0 0).2 ++ [-1]) := by
  have hk : k < s.length := (List.getElem?_eq_some_iff.1 h).1
  rw [List.take_add_one, h, Option.toList_some, kps_snoc]
  rw [show 0 + (s.take k).length = k by rw [List.length_take]; omega]
  simp only [Nat.zero_add]
set_option maxRecDepth 100000 in
set_option maxHeartbeats 8000000 in
theorem rKeepT_any {w : World} {v vu : Value} {s : List Tx} {us : List Int} (hs : Tw w v s) (hu : Jw w vu us) (hul : us.length ≤ 1000000) :
    Calls Try.prog 20 #[.agg #[v], vu] w (KeepR s us w) := by
  obtain ⟨Q, hQ⟩ : ∃ Q, Q = KeepR s us w := ⟨_, rfl⟩
  rw [← hQ]
  obtain ⟨W, hW⟩ : ∃ W, W = (w.alloc (.cells #[v] 25)).alloc (.cells #[.slice none 0 0] 25) := ⟨_, rfl⟩
  have hk0 : Kp w W := by rw [hW]; exact Kp.alloc (kp_alloc _ _) _
  have b1 : Blk W w.heap.size 25 #[v] := by rw [hW]; exact (Blk.new _ _ _).keep (kp_alloc _ _)
  have b2 : Blk W (w.heap.size + 1) 25 #[.slice none 0 0] := by
    have := Blk.new (w.alloc (.cells #[v] 25)) 25 #[.slice none 0 0]
    rw [hW]
    simpa using this
  have hsz : W.heap.size = w.heap.size + 2 := by rw [hW]; simp
  have FIN : Hid (∀ (W' : World) (u0 u nv : Value) (E : Nat) (A : Act), Blk W' (w.heap.size + 1) 25 #[u0] → Kp w W' → A.defers = [] → A.tmps.getD 4 undef = .pointer (some ⟨w.heap.size + 1, 0, none⟩) → A.tmps.getD 5 undef = nv → A.tmps.getD 6 undef = .int .i64 (E : Nat) → Tw W' u (kpL s us) → (∀ c, u.ownBlock = some c → w.heap.size + 2 ≤ c) → Jw W' nv (kpN s us) → (∀ c, nv.ownBlock = some c → w.heap.size + 2 ≤ c) → E = kpE s us →
      bodyPost Try.prog Try.f20 Q .ret A (W'.setCell ⟨w.heap.size + 1, 0, none⟩ u)) := Lib.hid (by
    intro W' u0 u nv E A hb hk h0 h4 h5 h6 hT hu hJ hv hE
    have b3 := hb.set 0 u
    have e0 := b3.cell 0 (v := u) rfl
    have h4' : A.tmps[4]?.getD undef = .pointer (some ⟨w.heap.size + 1, 0, none⟩) := by simpa using h4
    have h5' : A.tmps[5]?.getD undef = nv := by simpa using h5
    have h6' : A.tmps[6]?.getD undef = .int .i64 (E : Nat) := by simpa using h6
    refine bodyPost_ret (v := .tuple #[.agg #[u], nv, .int .i64 (E : Nat)]) (by simp [results, Try.results20, go_sem, h4', h5', h6', e0]) h0 ?_
    rw [hQ]
    exact ⟨u, nv, by rw [hE], hT.setc (fun b hb2 => by have := hu b hb2; omega), hJ.setc (fun b hb2 => by have := hv b hb2; omega), fun b hb2 => by have := hu b hb2; omega, fun b hb2 => by have := hv b hb2; omega, Only.kp hk ((Only.refl (w.heap.size + 1) W').set 0 _) (by omega)⟩)
  have HC := Lib.hid (rCheckT_any (hs.keep hk0))
  have HW := Lib.hid hW; have HK := Lib.hid hk0; have HB1 := Lib.hid b1; have HB2 := Lib.hid b2; have HS := Lib.hid hs; have HU := Lib.hid hu; have HSZ := Lib.hid hsz
  have c0 := b1.cell 0 rfl
  obtain ⟨E, hE⟩ : ∃ E, E = err s := ⟨_, rfl⟩
  have HE := Lib.hid hE
  rw [← hE] at HC
  obtain ⟨ao, ac, rfl, hac, -, -⟩ := hs.open3
  obtain ⟨bo, bc, rfl, hbc, -, -⟩ := hu.open3
  obtain ⟨n, hn⟩ : ∃ n, n = s.length := ⟨_, rfl⟩
  obtain ⟨m, hm⟩ : ∃ m, m = us.length := ⟨_, rfl⟩
  rw [← hn] at HW HB1 HS HC c0 hac ⊢
  rw [← hm] at HU hul hbc ⊢
  have HN := Lib.hid hn; have HM := Lib.hid hm
  have i1 : (n : Int) ≤ (ac : Int) := by omega
  have i2 : (m : Int) ≤ (bc : Int) := by omega
  have i4 : (m : Int) ≤ 1000000 := by omega
  clear hs hu hk0 b1 b2 hW hE hac hbc hn hm hQ hsz
  by_cases he : E = 0
  · have q1 : ((E : Int) != 0) = false := by simp [he]
    have HZ : Hid (err s = 0) := Lib.hid (HE.out ▸ he)
    have HKE : Hid (kpE s us = kerr s.length us) := Lib.hid (by rw [kpE, if_neg (by simp [HZ.out])])
    clear he
    have hn4 : n ≤ 4096 := by have := (err_ok.1 HZ.out).1; have := HN.out; omega
    have i3 : (n : Int) ≤ 4096 := by omega
    go_enter Try.func20, Try.ntmps20
    go_wp2_with fail
    rw [← HW.out]
    refine HC.out.mono ?_
    rintro e w1 ⟨rfl, hk1⟩
    have HK1 := Lib.hid hk1
    have c1 := (HB1.out.keep hk1).cell 0 rfl
    have qm := make_bool (n := n) (by omega) w1
    obtain ⟨w2, hw2⟩ : ∃ w2, w2 = w1.alloc (.cells (bcel (mks n [])).toArray 4) := ⟨_, rfl⟩
    have hbb : BB w2 w1.heap.size (mks n []) := by rw [hw2]; exact Blk.new _ _ _
    have hk2 : Kp w1 w2 := by rw [hw2]; exact kp_alloc _ _
    rw [← hw2] at qm
    have HBB := Lib.hid hbb; have HK2 := Lib.hid hk2
    clear hk1 c0 hw2 hbb hk2
    go_wp2_with fail
    go_loopw [27] (fun i wr => ∃ (j : Nat), i = .int .i64 (j : Nat) ∧ j ≤ m ∧ Kp w1 wr ∧ BB wr w1.heap.size (mks n (us.take j)) ∧ Hid (∀ x ∈ us.take j, 0 ≤ x ∧ x < (n : Int))) (fun i _ => m - (intOf i).toNat)
    case atStart => exact ⟨0, rfl, Nat.zero_le _, HK2.out, HBB.out, Lib.hid (by simp)⟩
    case round =>
      obtain ⟨j, rfl, hj, hkr, hbr, HALL⟩ := hrel
      rename World => wr
      have HKR := Lib.hid hkr; have HBR := Lib.hid hbr
      have c2 := ((HB1.out.keep HK1.out).keep hkr).cell 0 rfl
      by_cases hlt : j < m
      · obtain ⟨x, hx⟩ : ∃ x, us[j]? = some x := ⟨_, List.getElem?_eq_getElem (by have := HM.out; omega)⟩
        have hxo : IxOk x := HU.out.ok x (List.mem_of_getElem? hx)
        obtain ⟨b, off, rfl, hcell⟩ := (HU.out.keep ((HK.out.trans HK1.out).trans hkr)).cell (by omega)
        have d0 := hcell j x hx
        have j1 : (j : Int) < (m : Int) := by omega
        have HX := Lib.hid hx
        clear hcell hx
        by_cases hin : 0 ≤ x ∧ x < (n : Int)
        · obtain ⟨p, rfl⟩ : ∃ p : Nat, x = (p : Int) := ⟨x.toNat, by omega⟩
          have hp1 : (p : Int) < (n : Int) := hin.2
          have hpn : p < n := by omega
          have hc3 := BB.cell hbr (mks_at (u := us.take j) hpn)
          have hf3 := Blk.free hbr p
          have HST : Hid (us.take (j + 1) = us.take j ++ [(p : Int)]) := Lib.hid (by rw [List.take_add_one, HX.out]; rfl)
          have HNX : Hid (Kp w1 (wr.setCell ⟨w1.heap.size, p, none⟩ (.bool true)) ∧ BB (wr.setCell ⟨w1.heap.size, p, none⟩ (.bool true)) w1.heap.size (mks n (us.take (j + 1)))) := Lib.hid ⟨Only.kp hkr ((Only.refl w1.heap.size wr).set p _) (Nat.le_refl _), by
            rw [HST.out, ← mks_set hpn]; exact BB.set hbr p true⟩
          have HAL2 : Hid (∀ x ∈ us.take (j + 1), 0 ≤ x ∧ x < (n : Int)) := Lib.hid (by
            rw [HST.out]; intro x hx
            rcases List.mem_append.1 hx with h | h
            · exact HALL.out x h
            · obtain rfl : x = (p : Int) := by simpa using h
              exact ⟨by omega, by omega⟩)
          clear hin hkr hbr hxo
          go_wp2_with fail
          go_roundw
          case rel => exact ⟨j + 1, by go_num, by omega, HNX.out.1, HNX.out.2, HAL2⟩
          case measure => simp [intOf]; omega
        · have F : Hid (kpE s us = 20 ∧ kpL s us = [] ∧ kpN s us = []) := Lib.hid (by
            have h : kpE s us = 20 := by
              rw [HKE.out, kerr, if_neg]
              intro h
              have := h x (List.mem_of_getElem? HX.out)
              rw [← HN.out] at this
              exact hin this
            exact ⟨h, kpL_no (by rw [h]; decide)⟩)
          have hb4 := (HB2.out.keep HK1.out).keep hkr
          have HB4 := Lib.hid hb4
          have f4 := hb4.free 0; have d4 := hb4.cell 0 rfl
          clear hkr hbr hb4
          by_cases hneg : x < 0
          · clear hin hxo
            go_wp2_with fail
            exact FIN.out wr _ _ _ 20 _ HB4.out ((HK.out.trans HK1.out).trans HKR.out) rfl rfl rfl rfl (by rw [F.out.2.1]; exact Tw.nil _) (fun c hc => by simp [Value.ownBlock] at hc) (by rw [F.out.2.2]; exact Jw.nil _) (fun c hc => by simp [Value.ownBlock] at hc) F.out.1.symm
          · have hn0 : (0 : Int) ≤ x := by omega
            have hnx : (n : Int) ≤ x := by omega
            clear hin hxo hneg
            go_wp2_with fail
            exact FIN.out wr _ _ _ 20 _ HB4.out ((HK.out.trans HK1.out).trans HKR.out) rfl rfl rfl rfl (by rw [F.out.2.1]; exact Tw.nil _) (fun c hc => by simp [Value.ownBlock] at hc) (by rw [F.out.2.2]; exact Jw.nil _) (fun c hc => by simp [Value.ownBlock] at hc) F.out.1.symm
      · obtain rfl : j = m := by omega
        have htk : us.take j = us := List.take_of_length_le (by have := HM.out; omega)
        rw [htk] at HBR HALL
        have HOK : Hid (kpE s us = 0) := Lib.hid (by rw [HKE.out, kerr, if_pos (by rw [← HN.out]; exact HALL.out)])
        obtain ⟨w6, hw6⟩ : ∃ W, W = wr.alloc (.cells #[.slice none 0 0] 25) := ⟨_, rfl⟩
        obtain ⟨o, ho⟩ : ∃ o, o = wr.heap.size := ⟨_, rfl⟩
        have hI0 : MgI wr w6 o (.slice none 0 0) (.slice none 0 0) [] [] := by
          rw [hw6, ho]
          exact ⟨Blk.new _ _ _, (OwT.start wr).keep (kp_alloc _ _), (OwJ.start wr).keep (kp_alloc _ _), Nat.le_refl _, fun c hc => by simp [Value.ownBlock] at hc, fun c hc => by simp [Value.ownBlock] at hc, fun c hc e => by simp [Value.ownBlock] at e⟩
        have c3 := (((HB1.out.keep HK1.out).keep hkr).keep (kp_alloc wr (.cells #[.slice none 0 0] 25))).cell 0 rfl
        have HI0 := Lib.hid hI0; have HW6 := Lib.hid hw6; have HO := Lib.hid ho
        clear htk hkr hbr hlt hI0 hw6 ho HALL
        go_wp2_with fail
        rw [← HW6.out, ← HO.out]
        go_loopw [12, 48] (fun nw i wy => ∃ (k : Nat) (u nv : Value), i = .int .i64 (k : Nat) ∧ nw = nv ∧ k ≤ n ∧ MgI wr wy o u nv (kps us (s.take k) 0 0).1 (kps us (s.take k) 0 0).2) (fun _ i _ => n - (intOf i).toNat)
        case atStart => exact ⟨0, _, _, rfl, rfl, Nat.zero_le _, HI0.out⟩
        case round =>
          obtain ⟨k, u, nv, rfl, rfl, hk, hI⟩ := hrel
          rename World => wy
          have HI := Lib.hid hI
          obtain ⟨⟨u1, u2, u3, rfl⟩, -⟩ := row_frc hI.ow.owns
          obtain ⟨⟨v1, v2, v3, rfl⟩, -⟩ := row_frc hI.oj.owns
          have hul := hI.ow.tw.len
          by_cases hlt : k < n
          · obtain ⟨t, ht⟩ : ∃ t, s[k]? = some t := ⟨_, List.getElem?_eq_getElem (by have := HN.out; omega)⟩
            have hto : TxOk t := HS.out.ok t (List.mem_of_getElem? ht)
            have hkw : Kp w wy := ((HK.out.trans HK1.out).trans HKR.out).trans hI.kp
            obtain ⟨bb, bf, rfl, hcell⟩ := (HS.out.keep hkw).cell (by omega)
            have d0 := hcell k t ht
            have d1 := BB.cell (Blk.keep HBR.out hI.kp) (mks_at (u := us) hlt)
            have j1 : (k : Int) < (n : Int) := by omega
            have hst := kps_step (us := us) ht
            have hlen : (kps us (s.take k) 0 0).1.length ≤ 4096 := by
              have := (kps_len us (s.take k) 0 0).2
              rw [List.length_take] at this
              omega
            have hnl : (kps us (s.take k) 0 0).2.length ≤ 4096 := by
              have := (kps_len us (s.take k) 0 0).1
              rw [List.length_take] at this
              omega
            obtain ⟨T, hTT⟩ : ∃ T, T = (kps us (s.take k) 0 0).1 := ⟨_, rfl⟩
            obtain ⟨N, hNN⟩ : ∃ N, N = (kps us (s.take k) 0 0).2 := ⟨_, rfl⟩
            rw [← hTT] at hI HI hul hst hlen
            rw [← hNN] at hI HI hst hnl
            have HST := Lib.hid hst; have HNL := Lib.hid hnl; have HLN := Lib.hid hlen; have HTO := Lib.hid hto; have HUL := Lib.hid hul
            have e0 := hI.blk.cell 0 rfl
            obtain ⟨Y, hY⟩ : ∃ Y, Y = st t := ⟨_, rfl⟩
            rw [← hY] at d0
            have HYY := Lib.hid hY
            have i5 : (u2 : Int) ≤ 4096 := by omega
            by_cases hmem : (k : Int) ∈ us
            · rw [decide_eq_true hmem] at d1
              have HS2 : Hid (kps us (s.take (k + 1)) 0 0 = (T ++ [t], N ++ [(u2 : Int)])) := Lib.hid (by rw [hst, if_pos hmem, ← hul])
              clear hI hkw ht hto hcell hst hlen hnl hTT hNN hul hY hk hmem
              have HI4 := Lib.hid (HI.out.keep (kp_alloc wy (.cells #[.int .i64 (u2 : Int)] 3)))
              have HNB : Hid (Blk (wy.alloc (.cells #[.int .i64 (u2 : Int)] 3)) wy.heap.size 3 #[.int .i64 (u2 : Int)]) := Lib.hid (Blk.new _ _ _)
              go_wp2_with (at_builtin; refine wpList_it (w := wr) rfl (.tmp 61) (.tmp 65) rfl _ rfl HI4.out.oj (by have := HNL.out; omega) (u2 : Int) (by unfold IxOk; omega) wy.heap.size rfl HNB.out ?_)
              intro v8 w8 ho8 hg8 ha8
              have HI8 := Lib.hid (HI4.out.num ho8 hg8 (by simpa using ha8))
              have e8 := HI8.out.blk.cell 0 rfl
              have HI9 := Lib.hid (HI8.out.keep (kp_alloc w8 (.cells #[.string Y] 9)))
              have HNB2 : Hid (Blk (w8.alloc (.cells #[.string Y] 9)) w8.heap.size 9 #[.string (st t)]) := Lib.hid (by rw [← HYY.out]; exact Blk.new _ _ _)
              clear ho8 hg8 ha8 e0 d0 d1
              go_wp2_with (at_builtin; refine wpList_tx (w := wr) rfl (.tmp 68) (.tmp 70) rfl _ rfl HI9.out.ow (by have := HLN.out; omega) t HTO.out w8.heap.size rfl HNB2.out ?_)
              intro v6 wz ho6 hg6 ha6
              obtain ⟨⟨x1, x2, x3, rfl⟩, -⟩ := row_frc ho6.owns
              obtain ⟨hb6, hI7⟩ := HI9.out.text ho6 hg6 (by simpa using ha6)
              have g6 := hb6.cell 0 rfl; have g6' := hb6.free 0
              have HX : Hid (MgI wr (wz.setCell ⟨o, 0, none⟩ (.slice x1 x2 x3)) o (.slice x1 x2 x3) v8 (kps us (s.take (k + 1)) 0 0).1 (kps us (s.take (k + 1)) 0 0).2) := Lib.hid (by
                rw [HS2.out]
                exact hI7)
              clear ho6 hg6 ha6 hb6 hI7 e8
              go_wp2_with fail
              go_roundw
              case rel => exact ⟨k + 1, _, _, by go_num, rfl, by omega, HX.out⟩
              case measure => simp [intOf]; omega
            · rw [decide_eq_false hmem] at d1
              have HS2 : Hid (kps us (s.take (k + 1)) 0 0 = (T, N ++ [-1])) := Lib.hid (by rw [hst, if_neg hmem])
              clear hI hkw ht hto hcell hst hlen hnl hTT hNN hul hY hk hmem
              have HI4 := Lib.hid (HI.out.keep (kp_alloc wy (.cells #[.int .i64 (-1)] 3)))
              have HNB : Hid (Blk (wy.alloc (.cells #[.int .i64 (-1)] 3)) wy.heap.size 3 #[.int .i64 (-1)]) := Lib.hid (Blk.new _ _ _)
              go_wp2_with (at_builtin; refine wpList_it (w := wr) rfl (.tmp 58) (.tmp 59) rfl _ rfl HI4.out.oj (by have := HNL.out; omega) (-1) (by unfold IxOk; omega) wy.heap.size rfl HNB.out ?_)
              intro v8 w8 ho8 hg8 ha8
              have hI8 := HI4.out.num ho8 hg8 (by simpa using ha8)
              have HX : Hid (MgI wr w8 o (.slice u1 u2 u3) v8 (kps us (s.take (k + 1)) 0 0).1 (kps us (s.take (k + 1)) 0 0).2) := Lib.hid (by
                rw [HS2.out]
                exact hI8)
              clear hI8 ho8 hg8 ha8
              go_wp2_with fail
              go_roundw
              case rel => exact ⟨k + 1, _, _, by go_num, rfl, by omega, HX.out⟩
              case measure => simp [intOf]; omega
          · obtain rfl : k = n := by omega
            have htk : s.take k = s := List.take_of_length_le (by have := HN.out; omega)
            rw [htk] at HI
            have e0 := HI.out.blk.cell 0 rfl
            have hb4 := ((HB2.out.keep HK1.out).keep HKR.out).keep HI.out.kp
            have HB4 := Lib.hid hb4
            have f4 := hb4.free 0; have d4 := hb4.cell 0 rfl
            have HUU : Hid (∀ c, (Value.slice u1 u2 u3).ownBlock = some c → w.heap.size + 2 ≤ c) := Lib.hid (fun c hc => by have := HI.out.ow.newer c hc; have := HKR.out.size; have := HK1.out.size; have := HSZ.out; omega)
            have HV : Hid (∀ c, (Value.slice v1 v2 v3).ownBlock = some c → w.heap.size + 2 ≤ c) := Lib.hid (fun c hc => by have := HI.out.oj.newer c hc; have := HKR.out.size; have := HK1.out.size; have := HSZ.out; omega)
            clear htk hI hb4 hlt hk hul
            go_wp2_with fail
            exact FIN.out wy _ _ _ 0 _ HB4.out (((HK.out.trans HK1.out).trans HKR.out).trans HI.out.kp) rfl rfl rfl rfl (by rw [(kpL_ok HOK.out).1]; exact HI.out.ow.tw) HUU.out (by rw [(kpL_ok HOK.out).2]; exact HI.out.oj.jw) HV.out HOK.out.symm
  · have q1 : ((E : Int) != 0) = true := by simp; omega
    have F : Hid (kpE s us = E ∧ kpL s us = [] ∧ kpN s us = []) := Lib.hid (by
      have h : kpE s us = err s := by rw [kpE, if_pos (by rw [← HE.out]; exact he)]
      exact ⟨h.trans HE.out.symm, kpL_no (by rw [h, ← HE.out]; exact he)⟩)
    clear he
    go_enter Try.func20, Try.ntmps20
    go_wp2_with fail
    rw [← HW.out]
    refine HC.out.mono ?_
    rintro e w1 ⟨rfl, hk1⟩
    have HK1 := Lib.hid hk1
    have hb4 := HB2.out.keep hk1
    have HB4 := Lib.hid hb4
    have f4 := hb4.free 0; have d4 := hb4.cell 0 rfl
    clear hk1 c0 hb4
    go_wp2_with fail
    exact FIN.out w1 _ _ _ E _ HB4.out (HK.out.trans HK1.out) rfl rfl rfl rfl (by rw [F.out.2.1]; exact Tw.nil _) (fun c hc => by simp [Value.ownBlock] at hc) (by rw [F.out.2.2]; exact Jw.nil _) (fun c hc => by simp [Value.ownBlock] at hc) F.out.1.symm
end By
end Go.Proofs.Ytlfoikjbbbhbdaa
