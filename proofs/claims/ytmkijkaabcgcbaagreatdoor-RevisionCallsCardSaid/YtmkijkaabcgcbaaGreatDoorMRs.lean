/- The reference's Same. Condition: the slices read as the files that are named. -/
import Derived.Test.YtmkijkaabcgcbaaGreatDoorMRc
import Derived.Test.YtmkijkaabcgcbaaGreatDoorMRl
import Derived.Test.YtmkijkaabcgcbaaGreatDoorMRd
namespace Go.Proofs.YtmkijkaabcgcbaaGreatDoor
namespace By
open Go.RowKit WireN LexN RevN
set_option linter.unusedVariables false
set_option linter.unusedSimpArgs false

set_option maxRecDepth 100000 in
set_option maxHeartbeats 2000000 in
theorem rSame_any {ua ub : Value} {fs gs : List Fl} {w : World} (ha : Rw w ua fs) (hb : Rw w ub gs) :
    Calls Tryz.prog 11 #[.agg #[ua], .agg #[ub]] w fun e w' => e = .returned (.bool (decide (fs = gs))) ∧ Kp w w' := by
  obtain ⟨aa, ca, rfl, hca, hmx, -⟩ := ha.open3
  obtain ⟨ab, cb, rfl, hcb, -, -⟩ := hb.open3
  obtain ⟨n, hn⟩ : ∃ n, n = fs.length := ⟨_, rfl⟩
  obtain ⟨m, hm⟩ : ∃ m, m = gs.length := ⟨_, rfl⟩
  rw [← hn] at ha hca ⊢
  rw [← hm] at hb hcb ⊢
  have HA := Lib.hid ha; have HB := Lib.hid hb; have HN := Lib.hid hn; have HM := Lib.hid hm
  have hcai : (n : Int) ≤ (ca : Int) := by omega
  have hnb : (n : Int) ≤ 9223372036854775807 := by unfold maxLen at hmx; omega
  clear hmx
  have hcbi : (m : Int) ≤ (cb : Int) := by omega
  obtain ⟨g1, hg1⟩ : ∃ g, g = w.heap.size := ⟨_, rfl⟩
  obtain ⟨g2, hg2⟩ : ∃ g, g = w.heap.size + 1 := ⟨_, rfl⟩
  obtain ⟨Wa, hWa⟩ : ∃ W, W = w.alloc (.cells #[.slice aa n ca] 28) := ⟨_, rfl⟩
  obtain ⟨W0, hW0⟩ : ∃ W, W = Wa.alloc (.cells #[.slice ab m cb] 28) := ⟨_, rfl⟩
  have hz : Wa.heap.size = w.heap.size + 1 := by rw [hWa]; simp
  have k1 : Kp w Wa := by rw [hWa]; exact kp_alloc w _
  have k2 : Kp Wa W0 := by rw [hW0]; exact kp_alloc Wa _
  have HK0 : Hid (Kp w W0) := Lib.hid (Kp.trans k1 k2)
  have B1 : Hid (Blk W0 g1 28 #[.slice aa n ca]) := Lib.hid (by
    have : Blk Wa w.heap.size 28 #[.slice aa n ca] := by rw [hWa]; exact Blk.new _ _ _
    rw [hg1]
    exact this.keep k2)
  have B2 : Hid (Blk W0 g2 28 #[.slice ab m cb]) := Lib.hid (by rw [hW0, hg2, ← hz]; exact Blk.new _ _ _)
  have HW0 : Hid (W0 = (w.alloc (.cells #[.slice aa n ca] 28)).alloc (.cells #[.slice ab m cb] 28)) := Lib.hid (by rw [hW0, hWa])
  have HG1 := Lib.hid hg1; have HG2 := Lib.hid hg2
  obtain ⟨D, hD⟩ : ∃ D, D = decide (fs = gs) := ⟨_, rfl⟩
  rw [← hD]
  have HD := Lib.hid hD
  clear ha hb hca hcb hn hm hg1 hg2 hWa hW0 hz k1 k2 hD
  by_cases hnm : n = m
  · have q1 : ((n : Int) == (m : Int)) = true := by rw [beq_iff_eq]; omega
    have q2 : ((n : Int) != (m : Int)) = false := by rw [bne_eq_false_iff_eq]; omega
    have HNM := Lib.hid hnm
    clear hnm
    go_enter Tryz.func11, Tryz.ntmps11
    go_wp2_with fail
    rw [← HW0.out, ← HG2.out, ← HG1.out]
    go_loopw [16] (fun i wr => ∃ k : Nat, i = .int .i64 k ∧ k ≤ n ∧ fs.take k = gs.take k ∧ Kp W0 wr) (fun i _ => n - (intOf i).toNat)
    case atStart => exact ⟨0, rfl, Nat.zero_le _, by simp, Kp.refl _⟩
    case round =>
      obtain ⟨k, rfl, hk, htk, hkp⟩ := hrel
      rename World => wx
      have HT := Lib.hid htk; have HKP := Lib.hid hkp; have HKX := Lib.hid (Kp.trans HK0.out hkp)
      have a0 := (B1.out.keep hkp).cell 0 rfl; have b0 := (B2.out.keep hkp).cell 0 rfl
      clear htk hkp
      by_cases hkn : k < n
      · obtain ⟨f, hf⟩ : ∃ f, fs[k]? = some f := ⟨_, List.getElem?_eq_getElem (by have := HN.out; omega)⟩
        obtain ⟨g, hg⟩ : ∃ g, gs[k]? = some g := ⟨_, List.getElem?_eq_getElem (by have := HM.out; have := HNM.out; omega)⟩
        obtain ⟨p, o, rfl, hc⟩ := (HA.out.keep HKX.out).cell (by omega)
        obtain ⟨p', o', rfl, hc'⟩ := (HB.out.keep HKX.out).cell (by have := HNM.out; omega)
        obtain ⟨c0, c1⟩ := hc k f hf
        obtain ⟨d0, d1⟩ := hc' k g hg
        have hlf := HA.out.lt f (List.mem_of_getElem? hf)
        have hlg := HB.out.lt g (List.mem_of_getElem? hg)
        have hq1 := st_inj' hlf.1 hlg.1
        have hq2 := st_inj' hlf.2 hlg.2
        have hkm : (k : Int) < (m : Int) := by have := HNM.out; omega
        obtain ⟨x, hx⟩ : ∃ x, x = decide (f.1 = g.1) := ⟨_, rfl⟩
        obtain ⟨y, hy⟩ : ∃ y, y = decide (f.2 = g.2) := ⟨_, rfl⟩
        have HNE : Hid ((x = false ∨ y = false) → D = false) := Lib.hid (by
          intro h
          rw [HD.out]
          apply decide_eq_false
          intro e
          rw [e, hg] at hf
          injection hf with hf
          subst hf
          rcases h with h | h
          · rw [hx] at h; simp at h
          · rw [hy] at h; simp at h)
        have HEQ : Hid (x = true → y = true → fs.take (k + 1) = gs.take (k + 1)) := Lib.hid (by
          intro h1 h2
          rw [hx] at h1
          rw [hy] at h2
          rw [List.take_add_one, List.take_add_one, hf, hg, HT.out]
          have e1 := of_decide_eq_true h1
          have e2 := of_decide_eq_true h2
          rw [Prod.ext e1 e2])
        rw [← hx] at hq1
        rw [← hy] at hq2
        obtain ⟨S1, hS1⟩ : ∃ S, S = st f.1 := ⟨_, rfl⟩
        obtain ⟨S2, hS2⟩ : ∃ S, S = st f.2 := ⟨_, rfl⟩
        obtain ⟨T1, hT1⟩ : ∃ S, S = st g.1 := ⟨_, rfl⟩
        obtain ⟨T2, hT2⟩ : ∃ S, S = st g.2 := ⟨_, rfl⟩
        rw [← hS1] at c0 hq1
        rw [← hS2] at c1 hq2
        rw [← hT1] at d0 hq1
        rw [← hT2] at d1 hq2
        clear hc hc' hf hg hlf hlg hx hy hS1 hS2 hT1 hT2
        cases x with
        | false =>
          have hD0 := HNE.out (.inl rfl)
          subst hD0
          go_wp2_with fail
          go_quiet (fail)
          go_wp2_with fail
          go_ret
          exact ⟨rfl, Kp.trans HKX.out (Kp.drewN _ _)⟩
        | true =>
          cases y with
          | false =>
            have hD0 := HNE.out (.inr rfl)
            subst hD0
            go_wp2_with fail
            go_quiet (fail)
            go_wp2_with fail
            go_ret
            exact ⟨rfl, Kp.trans HKX.out (Kp.drewN _ _)⟩
          | true =>
            have HT2 := Lib.hid (HEQ.out rfl rfl)
            clear HEQ HNE
            go_wp2_with fail
            go_quiet (fail)
            go_wp2_with fail
            go_roundw
            case rel => exact ⟨k + 1, by go_num, by omega, HT2.out, Kp.trans HKP.out (Kp.drewN _ _)⟩
            case measure => simp [intOf]; omega
      · have hD0 : D = true := by
          rw [HD.out]
          apply decide_eq_true
          have h1 := HT.out
          rw [List.take_of_length_le (by have := HN.out; omega), List.take_of_length_le (by have := HM.out; have := HNM.out; omega)] at h1
          exact h1
        subst hD0
        go_wp2_with fail
        go_ret
        exact ⟨rfl, HKX.out⟩
  · have q1 : ((n : Int) == (m : Int)) = false := beq_eq_false_iff_ne.2 (by omega)
    have q2 : ((n : Int) != (m : Int)) = true := by rw [bne_iff_ne]; omega
    have hD0 : D = false := by
      rw [HD.out]
      apply decide_eq_false
      intro e
      have h1 := HN.out; have h2 := HM.out
      rw [e] at h1
      omega
    subst hD0
    clear hnm
    go_enter Tryz.func11, Tryz.ntmps11
    go_wp2_with fail
    go_ret
    rw [← HW0.out]
    exact ⟨rfl, HK0.out⟩
end By
end Go.Proofs.YtmkijkaabcgcbaaGreatDoor

/- Both Decodes agree; the laws' sanity check. Conditions: a package variable of the library holds some integer; the slice holds the bytes that are named, at most a million. -/
namespace Go.Proofs.YtmkijkaabcgcbaaGreatDoor
namespace By
open Go.RowKit Go.Shelf WireN LexN RevN
set_option linter.unusedVariables false
set_option linter.unusedSimpArgs false

set_option maxRecDepth 100000 in
set_option maxHeartbeats 2000000 in
theorem decodes_any {v : Value} {xs : List Nat} {w : World} (hs : Sl w v xs) (hsm : xs.length ≤ 1000000) (hm : MX w) :
    Calls Tryz.prog 28 #[v] w fun e w' => e = .returned (.bool true) ∧ Kp w w' := by
  obtain ⟨ao, cap, rfl, -, -, -⟩ := hs.open3
  obtain ⟨len, hlen⟩ : ∃ len, len = xs.length := ⟨_, rfl⟩
  rw [← hlen] at hs ⊢
  have HS := Lib.hid hs; have HSM := Lib.hid hsm
  have HC := Lib.hid (Decode_any hs hsm hm)
  clear hs hsm hm hlen
  go_enter Tryz.func28, Tryz.ntmps28
  go_wp2_with fail
  refine HC.out.mono ?_
  rintro e w1 ⟨fs, q, E, u, hch, hst, rfl, hrw, hk1⟩
  have HCH := Lib.hid hch; have HST := Lib.hid hst
  have HK1 := Lib.hid hk1
  obtain ⟨ua, uc, hu, -, -, -⟩ := hrw.open3
  obtain ⟨gs, hgs⟩ : ∃ gs, gs = (dec fs E).2 := ⟨_, rfl⟩
  obtain ⟨er, her⟩ : ∃ er, er = (dec fs E).1 := ⟨_, rfl⟩
  rw [← hgs] at hrw hu
  rw [← her]
  obtain ⟨gl, hgl⟩ : ∃ gl, gl = gs.length := ⟨_, rfl⟩
  rw [← hgl] at hu
  subst hu
  obtain ⟨W2, hW2⟩ : ∃ W, W = w1.alloc (.cells #[.slice ua gl uc] 28) := ⟨_, rfl⟩
  have HK2 : Hid (Kp w1 W2) := Lib.hid (by rw [hW2]; exact kp_alloc w1 _)
  have HB2 : Hid (Blk W2 w1.heap.size 28 #[.slice ua gl uc]) := Lib.hid (by rw [hW2]; exact Blk.new _ _ _)
  have HW2 := Lib.hid hW2
  have HR2 := Lib.hid (hrw.keep HK2.out)
  have HGS := Lib.hid hgs; have HER := Lib.hid her
  have HD := Lib.hid (rDecode_any (HS.out.keep (Kp.trans hk1 HK2.out)) HSM.out)
  clear hch hst hrw hk1 hgs her hgl hW2 HC
  go_wp2_with fail
  rw [← HW2.out]
  refine HD.out.mono ?_
  rintro e w3 ⟨fs', q', E', u', hch', hst', rfl, hrw', hk3⟩
  obtain ⟨h1, -, h3⟩ := HCH.out.unique HST.out hch' hst'
  subst h1 h3
  obtain ⟨ua', uc', hu', -, -, -⟩ := hrw'.open3
  rw [← HGS.out] at hrw' hu'
  rw [← HER.out]
  obtain ⟨gl', hgl'⟩ : ∃ gl, gl = gs.length := ⟨_, rfl⟩
  rw [← hgl'] at hu'
  subst hu'
  have q0 : ((er : Int) == (er : Int)) = true := by simp
  obtain ⟨W4, hW4⟩ : ∃ W, W = w3.alloc (.cells #[.slice ua' gl' uc'] 28) := ⟨_, rfl⟩
  have HK4 : Hid (Kp W2 W4) := Lib.hid (by rw [hW4]; exact Kp.trans hk3 (kp_alloc w3 _))
  have k34 : Kp w3 W4 := by rw [hW4]; exact kp_alloc w3 _
  have c0 := (HB2.out.keep HK4.out).cell 0 rfl
  have hsa := rSame_any (HR2.out.keep HK4.out) (hrw'.keep k34)
  rw [decide_eq_true rfl] at hsa
  have HSA := Lib.hid hsa
  have HKX := Lib.hid (Kp.trans HK1.out (Kp.trans HK2.out HK4.out))
  rw [hW4] at c0
  have HW4 := Lib.hid hW4
  clear hch' hst' hrw' hk3 hgl' hW4 k34 hsa
  go_wp2_with fail
  rw [← HW4.out]
  refine HSA.out.mono ?_
  rintro e w5 ⟨rfl, hk5⟩
  have HK5 := Lib.hid (Kp.trans HKX.out hk5)
  clear hk5 c0
  go_wp2_with fail
  go_ret
  exact ⟨rfl, HK5.out⟩

/-- The files of the sanity check. -/
def F1 : List Fl := [([97, 46, 115, 114, 99], [120])]
def F2 : List Fl := [([98, 46, 115, 114, 99], [120])]
theorem aw_put : putF [] [97, 46, 115, 114, 99] [120] = (0, F1) := by decide +kernel
theorem aw_mov : movF F1 [97, 46, 115, 114, 99] [98, 46, 115, 114, 99] = (0, F2) := by decide +kernel
theorem aw_find : findF F2 [98, 46, 115, 114, 99] = ([120], true) := by decide +kernel
theorem aw_chk : chk F2 = 0 := by decide +kernel
theorem aw_is : srcB [98, 46, 115, 114, 99] = true := by decide +kernel
theorem aw_is2 : srcB [46, 115, 114, 99] = false := by decide +kernel
set_option maxRecDepth 100000 in
set_option maxHeartbeats 4000000 in
theorem rvAwake_any {w : World} (hm : MX w) : Calls Tryz.prog 23 #[] w fun e w' => e = .returned (.bool true) ∧ Kp w w' := by
  have HM := Lib.hid hm
  have L1 : Lt [97, 46, 115, 114, 99] := lt_dec (by decide +kernel)
  have L2 : Lt [98, 46, 115, 114, 99] := lt_dec (by decide +kernel)
  have L3 : Lt [120] := lt_dec (by decide +kernel)
  have L4 : Lt [46, 115, 114, 99] := lt_dec (by decide +kernel)
  obtain ⟨G1, hG1⟩ : ∃ G, G = F1 := ⟨_, rfl⟩
  obtain ⟨G2, hG2⟩ : ∃ G, G = F2 := ⟨_, rfl⟩
  obtain ⟨EN, hEN⟩ : ∃ E, E = enc F2 := ⟨_, rfl⟩
  have HEL : Hid (EN.length ≤ 1000000) := Lib.hid (by rw [hEN]; decide +kernel)
  have HPut : Hid (∀ W, MX W → Calls Tryz.prog 17 #[.agg #[.slice none 0 0], .string ⟨#[97, 46, 115, 114, 99]⟩, .string ⟨#[120]⟩] W (RevR W (0, G1))) := Lib.hid (fun W hw => by
    have h := Put_any (Rw.nil W) L1 L3 hw
    rw [aw_put, ← hG1] at h
    exact h)
  have HMove : Hid (∀ W v, MX W → Rw W v G1 → Calls Tryz.prog 21 #[.agg #[v], .string ⟨#[97, 46, 115, 114, 99]⟩, .string ⟨#[98, 46, 115, 114, 99]⟩] W (RevR W (0, G2))) := Lib.hid (fun W v hw hr => by
    rw [hG1] at hr
    have h := Move_any hr L1 L2 hw
    rw [aw_mov, ← hG2] at h
    exact h)
  have HFind : Hid (∀ W v, MX W → Rw W v G2 → Calls Tryz.prog 13 #[.agg #[v], .string ⟨#[98, 46, 115, 114, 99]⟩] W fun e w' => e = .returned (.tuple #[.string ⟨#[120]⟩, .bool true]) ∧ Kp W w') := Lib.hid (fun W v hw hr => by
    rw [hG2] at hr
    have h := Find_any hr L2 hw
    rw [aw_find] at h
    exact h)
  have HEnc : Hid (∀ W v, MX W → Rw W v G2 → Calls Tryz.prog 24 #[.agg #[v]] W fun e w' => ∃ l, e = .returned (.tuple #[l, .int .i64 0]) ∧ Sl w' l EN ∧ Kp W w') := Lib.hid (fun W v hw hr => by
    rw [hG2] at hr
    refine (Encode_any hr hw).mono ?_
    intro e w' h
    obtain ⟨l, h1, h2, h3⟩ := h.sl
    rw [aw_chk] at h1 h2
    rw [if_pos rfl, ← hEN] at h2
    exact ⟨l, h1, h2, h3⟩)
  have HDec : Hid (∀ W l, MX W → Sl W l EN → Calls Tryz.prog 31 #[l] W fun e w' => ∃ u, e = .returned (.tuple #[.agg #[u], .int .i64 0]) ∧ Rw w' u G2 ∧ Kp W w') := Lib.hid (fun W l hw hl => by
    refine (Decode_any hl HEL.out hw).mono ?_
    rintro e w' ⟨fs, q, E, u, hch, hst, rfl, hrw, hk⟩
    rw [hEN] at hch hst
    have hm2 : ∀ f ∈ F2, f.1.length ≤ 80 ∧ f.2.length ≤ 16384 := fun f hf => ⟨path_len (chkL_mem (chk_ok aw_chk).2 f hf).1, (chkL_mem (chk_ok aw_chk).2 f hf).2⟩
    obtain ⟨h1, -, h3⟩ := hch.unique hst (chain_enc hm2 (chk_ok aw_chk).1) stops_end
    subst h1 h3
    rw [dec_enc aw_chk] at hrw
    rw [dec_enc aw_chk, hG2]
    exact ⟨u, rfl, hrw, hk⟩)
  have HSame : Hid (∀ W u v, Rw W u G2 → Rw W v G2 → Calls Tryz.prog 10 #[.agg #[u], .agg #[v]] W fun e w' => e = .returned (.bool true) ∧ Kp W w') := Lib.hid (fun W u v hu hv => by
    have h := Same_pany hu hv
    rw [decide_eq_true rfl] at h
    exact h)
  have HIs1 : Hid (∀ W, MX W → Calls Tryz.prog 15 #[.string ⟨#[98, 46, 115, 114, 99]⟩] W fun e w' => e = .returned (.bool true) ∧ Kp W w') := Lib.hid (fun W hw => by
    have h := IsSource_any L2 (by unfold maxLen; decide) hw
    rw [aw_is] at h
    exact h)
  have HIs2 : Hid (∀ W, MX W → Calls Tryz.prog 15 #[.string ⟨#[46, 115, 114, 99]⟩] W fun e w' => e = .returned (.bool false) ∧ Kp W w') := Lib.hid (fun W hw => by
    have h := IsSource_any L4 (by unfold maxLen; decide) hw
    rw [aw_is2] at h
    exact h)
  clear hm L1 L2 L3 L4 hG1 hG2 hEN HEL
  go_enter Tryz.func23, Tryz.ntmps23
  go_wp2_with fail
  refine (HPut.out w HM.out).mono ?_
  rintro e w1 ⟨v1, rfl, hr1, hn1, hk1⟩
  obtain ⟨a1, c1, hv1, -, -, -⟩ := hr1.open3
  simp only at hr1 hv1
  obtain ⟨l1, hl1⟩ : ∃ l, l = G1.length := ⟨_, rfl⟩
  rw [← hl1] at hv1
  subst hv1
  obtain ⟨rb, hrb⟩ : ∃ rb, rb = w1.heap.size := ⟨_, rfl⟩
  obtain ⟨W1, hW1⟩ : ∃ W, W = w1.alloc (.cells #[.slice a1 l1 c1] 28) := ⟨_, rfl⟩
  have k1 : Kp w1 W1 := by rw [hW1]; exact kp_alloc w1 _
  have HK1 : Hid (Kp w W1) := Lib.hid (Kp.trans hk1 k1)
  have RB1 : Hid (Blk W1 rb 28 #[.slice a1 l1 c1]) := Lib.hid (by rw [hW1, hrb]; exact Blk.new _ _ _)
  have HR1 := Lib.hid (hr1.keep k1)
  have GR : Hid (w.heap.size ≤ rb) := Lib.hid (by have := hk1.size; omega)
  have HW1 := Lib.hid hW1; have HRB := Lib.hid hrb
  clear hr1 hn1 hk1 hl1 hW1 k1 hrb
  go_wp2_with fail
  rw [← HW1.out, ← HRB.out]
  refine (HMove.out W1 _ (HM.out.keep HK1.out) HR1.out).mono ?_
  rintro e w2 ⟨v2, rfl, hr2, hn2, hk2⟩
  obtain ⟨a2, c2, hv2, -, -, -⟩ := hr2.open3
  simp only at hr2 hv2
  obtain ⟨l2, hl2⟩ : ∃ l, l = G2.length := ⟨_, rfl⟩
  rw [← hl2] at hv2
  subst hv2
  have rb2 := RB1.out.keep hk2
  have r0 := rb2.cell 0 rfl; have f0 := rb2.free 0
  have HNE : Hid (∀ b, (Value.slice a2 l2 c2).ownBlock = some b → b ≠ rb) := Lib.hid (fun b hb e => by have := hn2 b hb; have := RB1.out.lt; omega)
  have RB2 := Lib.hid rb2; have HR2 := Lib.hid hr2; have HK2 := Lib.hid (Kp.trans HK1.out hk2)
  clear hr2 hn2 hk2 hl2 rb2
  go_wp2_with fail
  obtain ⟨w3, hw3⟩ : ∃ W, W = w2.setCell ⟨rb, 0, none⟩ (.slice a2 l2 c2) := ⟨_, rfl⟩
  rw [← hw3]
  have o3 : Only rb w2 w3 := by rw [hw3]; exact (Only.refl rb w2).set 0 _
  have RB3 : Hid (Blk w3 rb 28 #[.slice a2 l2 c2]) := Lib.hid (by rw [hw3]; exact RB2.out.set 0 _)
  have HR3 := Lib.hid (HR2.out.only o3 HNE.out)
  have HK3 : Hid (Kp w w3) := Lib.hid (Only.kp HK2.out o3 GR.out)
  clear hw3 o3 r0 f0
  refine (HFind.out w3 _ (HM.out.keep HK3.out) HR3.out).mono ?_
  rintro e w4 ⟨rfl, hk4⟩
  have HK4 := Lib.hid (Kp.trans HK3.out hk4)
  have RB4 := Lib.hid (RB3.out.keep hk4)
  have HR4 := Lib.hid (HR3.out.keep hk4)
  have r0 := RB4.out.cell 0 rfl
  clear hk4
  go_wp2_with fail
  refine (HEnc.out w4 _ (HM.out.keep HK4.out) HR4.out).mono ?_
  rintro e w5 ⟨l, rfl, hsl, hk5⟩
  obtain ⟨al, cl, hvl, -, -, -⟩ := hsl.open3
  obtain ⟨ll, hll⟩ : ∃ l, l = EN.length := ⟨_, rfl⟩
  rw [← hll] at hvl
  subst hvl
  have HSL := Lib.hid hsl
  have HK5 := Lib.hid (Kp.trans HK4.out hk5)
  have RB5 := Lib.hid (RB4.out.keep hk5)
  have HR5 := Lib.hid (HR4.out.keep hk5)
  clear hsl hk5 hll r0
  go_wp2_with fail
  refine (HDec.out w5 _ (HM.out.keep HK5.out) HSL.out).mono ?_
  rintro e w6 ⟨u, rfl, hru, hk6⟩
  obtain ⟨au, cu, hvu, -, -, -⟩ := hru.open3
  obtain ⟨lu, hlu⟩ : ∃ l, l = G2.length := ⟨_, rfl⟩
  rw [← hlu] at hvu
  subst hvu
  obtain ⟨W7, hW7⟩ : ∃ W, W = w6.alloc (.cells #[.slice au lu cu] 28) := ⟨_, rfl⟩
  have k7 : Kp w6 W7 := by rw [hW7]; exact kp_alloc w6 _
  have HK7 := Lib.hid (Kp.trans HK5.out (Kp.trans hk6 k7))
  have r0 := (RB5.out.keep (Kp.trans hk6 k7)).cell 0 rfl
  have HR7 := Lib.hid (HR5.out.keep (Kp.trans hk6 k7))
  have HU7 := Lib.hid (hru.keep k7)
  rw [hW7] at r0
  have HW7 := Lib.hid hW7
  clear hru hk6 hlu k7 hW7
  have e1 : ((⟨#[120]⟩ : ByteArray).toList == [120]) = true := by rw [ByteArray.toList_eq]; rfl
  go_wp2_with fail
  rw [← HW7.out]
  refine (HSame.out W7 _ _ HR7.out HU7.out).mono ?_
  rintro e w8 ⟨rfl, hk8⟩
  have HK8 := Lib.hid (Kp.trans HK7.out hk8)
  clear hk8 r0
  go_wp2_with fail
  refine (HIs1.out w8 (HM.out.keep HK8.out)).mono ?_
  rintro e w9 ⟨rfl, hk9⟩
  have HK9 := Lib.hid (Kp.trans HK8.out hk9)
  clear hk9
  go_wp2_with fail
  refine (HIs2.out w9 (HM.out.keep HK9.out)).mono ?_
  rintro e w10 ⟨rfl, hk10⟩
  have HK10 := Lib.hid (Kp.trans HK9.out hk10)
  clear hk10
  go_wp2_with fail
  go_ret
  exact ⟨rfl, HK10.out⟩
end By
end Go.Proofs.YtmkijkaabcgcbaaGreatDoor
