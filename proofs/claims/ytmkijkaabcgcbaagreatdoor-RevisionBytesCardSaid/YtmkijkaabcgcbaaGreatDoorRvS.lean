/- The reference's Same. Condition: the slices read as the files that are named. -/
import Derived.Test.YtmkijkaabcgcbaaGreatDoorMRc
namespace Go.Proofs.YtmkijkaabcgcbaaGreatDoor
namespace By
open Go.RowKit WireN LexN RevN
set_option linter.unusedVariables false
set_option linter.unusedSimpArgs false

set_option maxRecDepth 100000 in
set_option maxHeartbeats 2000000 in
theorem rSame_any {ua ub : Value} {fs gs : List Fl} {w : World} (ha : Rw w ua fs) (hb : Rw w ub gs) :
    Calls Tryz.prog 11 #[.agg #[ua], .agg #[ub]] w fun e w' => e = .returned (.bool (decide (fs = gs))) ∧ Kp w w' := by
  obtain ⟨aa, ca, rfl, hca, hmx, -⟩ := ha.open3
  obtain ⟨ab, cb, rfl, hcb, -, -⟩ := hb.open3
  obtain ⟨n, hn⟩ : ∃ n, n = fs.length := ⟨_, rfl⟩
  obtain ⟨m, hm⟩ : ∃ m, m = gs.length := ⟨_, rfl⟩
  rw [← hn] at ha hca ⊢
  rw [← hm] at hb hcb ⊢
  have HA := Lib.hid ha; have HB := Lib.hid hb; have HN := Lib.hid hn; have HM := Lib.hid hm
  have hcai : (n : Int) ≤ (ca : Int) := by omega
  have hnb : (n : Int) ≤ 9223372036854775807 := by unfold maxLen at hmx; omega
  clear hmx
  have hcbi : (m : Int) ≤ (cb : Int) := by omega
  obtain ⟨g1, hg1⟩ : ∃ g, g = w.heap.size := ⟨_, rfl⟩
  obtain ⟨g2, hg2⟩ : ∃ g, g = w.heap.size + 1 := ⟨_, rfl⟩
  obtain ⟨Wa, hWa⟩ : ∃ W, W = w.alloc (.cells #[.slice aa n ca] 28) := ⟨_, rfl⟩
  obtain ⟨W0, hW0⟩ : ∃ W, W = Wa.alloc (.cells #[.slice ab m cb] 28) := ⟨_, rfl⟩
  have hz : Wa.heap.size = w.heap.size + 1 := by rw [hWa]; simp
  have k1 : Kp w Wa := by rw [hWa]; exact kp_alloc w _
  have k2 : Kp Wa W0 := by rw [hW0]; exact kp_alloc Wa _
  have HK0 : Hid (Kp w W0) := Lib.hid (Kp.trans k1 k2)
  have B1 : Hid (Blk W0 g1 28 #[.slice aa n ca]) := Lib.hid (by
    have : Blk Wa w.heap.size 28 #[.slice aa n ca] := by rw [hWa]; exact Blk.new _ _ _
    rw [hg1]
    exact this.keep k2)
  have B2 : Hid (Blk W0 g2 28 #[.slice ab m cb]) := Lib.hid (by rw [hW0, hg2, ← hz]; exact Blk.new _ _ _)
  have HW0 : Hid (W0 = (w.alloc (.cells #[.slice aa n ca] 28)).alloc (.cells #[.slice ab m cb] 28)) := Lib.hid (by rw [hW0, hWa])
  have HG1 := Lib.hid hg1; have HG2 := Lib.hid hg2
  obtain ⟨D, hD⟩ : ∃ D, D = decide (fs = gs) := ⟨_, rfl⟩
  rw [← hD]
  have HD := Lib.hid hD
  clear ha hb hca hcb hn hm hg1 hg2 hWa hW0 hz k1 k2 hD
  by_cases hnm : n = m
  · have q1 : ((n : Int) == (m : Int)) = true := by rw [beq_iff_eq]; omega
    have q2 : ((n : Int) != (m : Int)) = false := by rw [bne_eq_false_iff_eq]; omega
    have HNM := Lib.hid hnm
    clear hnm
    go_enter Tryz.func11, Tryz.ntmps11
    go_wp2_with fail
    rw [← HW0.out, ← HG2.out, ← HG1.out]
    go_loopw [16] (fun i wr => ∃ k : Nat, i = .int .i64 k ∧ k ≤ n ∧ fs.take k = gs.take k ∧ Kp W0 wr) (fun i _ => n - (intOf i).toNat)
    case atStart => exact ⟨0, rfl, Nat.zero_le _, by simp, Kp.refl _⟩
    case round =>
      obtain ⟨k, rfl, hk, htk, hkp⟩ := hrel
      rename World => wx
      have HT := Lib.hid htk; have HKP := Lib.hid hkp; have HKX := Lib.hid (Kp.trans HK0.out hkp)
      have a0 := (B1.out.keep hkp).cell 0 rfl; have b0 := (B2.out.keep hkp).cell 0 rfl
      clear htk hkp
      by_cases hkn : k < n
      · obtain ⟨f, hf⟩ : ∃ f, fs[k]? = some f := ⟨_, List.getElem?_eq_getElem (by have := HN.out; omega)⟩
        obtain ⟨g, hg⟩ : ∃ g, gs[k]? = some g := ⟨_, List.getElem?_eq_getElem (by have := HM.out; have := HNM.out; omega)⟩
        obtain ⟨p, o, rfl, hc⟩ := (HA.out.keep HKX.out).cell (by omega)
        obtain ⟨p', o', rfl, hc'⟩ := (HB.out.keep HKX.out).cell (by have := HNM.out; omega)
        obtain ⟨c0, c1⟩ := hc k f hf
        obtain ⟨d0, d1⟩ := hc' k g hg
        have hlf := HA.out.lt f (List.mem_of_getElem? hf)
        have hlg := HB.out.lt g (List.mem_of_getElem? hg)
        have hq1 := st_inj' hlf.1 hlg.1
        have hq2 := st_inj' hlf.2 hlg.2
        have hkm : (k : Int) < (m : Int) := by have := HNM.out; omega
        obtain ⟨x, hx⟩ : ∃ x, x = decide (f.1 = g.1) := ⟨_, rfl⟩
        obtain ⟨y, hy⟩ : ∃ y, y = decide (f.2 = g.2) := ⟨_, rfl⟩
        have HNE : Hid ((x = false ∨ y = false) → D = false) := Lib.hid (by
          intro h
          rw [HD.out]
          apply decide_eq_false
          intro e
          rw [e, hg] at hf
          injection hf with hf
          subst hf
          rcases h with h | h
          · rw [hx] at h; simp at h
          · rw [hy] at h; simp at h)
        have HEQ : Hid (x = true → y = true → fs.take (k + 1) = gs.take (k + 1)) := Lib.hid (by
          intro h1 h2
          rw [hx] at h1
          rw [hy] at h2
          rw [List.take_add_one, List.take_add_one, hf, hg, HT.out]
          have e1 := of_decide_eq_true h1
          have e2 := of_decide_eq_true h2
          rw [Prod.ext e1 e2])
        rw [← hx] at hq1
        rw [← hy] at hq2
        obtain ⟨S1, hS1⟩ : ∃ S, S = st f.1 := ⟨_, rfl⟩
        obtain ⟨S2, hS2⟩ : ∃ S, S = st f.2 := ⟨_, rfl⟩
        obtain ⟨T1, hT1⟩ : ∃ S, S = st g.1 := ⟨_, rfl⟩
        obtain ⟨T2, hT2⟩ : ∃ S, S = st g.2 := ⟨_, rfl⟩
        rw [← hS1] at c0 hq1
        rw [← hS2] at c1 hq2
        rw [← hT1] at d0 hq1
        rw [← hT2] at d1 hq2
        clear hc hc' hf hg hlf hlg hx hy hS1 hS2 hT1 hT2
        cases x with
        | false =>
          have hD0 := HNE.out (.inl rfl)
          subst hD0
          go_wp2_with fail
          go_quiet (fail)
          go_wp2_with fail
          go_ret
          exact ⟨rfl, Kp.trans HKX.out (Kp.drewN _ _)⟩
        | true =>
          cases y with
          | false =>
            have hD0 := HNE.out (.inr rfl)
            subst hD0
            go_wp2_with fail
            go_quiet (fail)
            go_wp2_with fail
            go_ret
            exact ⟨rfl, Kp.trans HKX.out (Kp.drewN _ _)⟩
          | true =>
            have HT2 := Lib.hid (HEQ.out rfl rfl)
            clear HEQ HNE
            go_wp2_with fail
            go_quiet (fail)
            go_wp2_with fail
            go_roundw
            case rel => exact ⟨k + 1, by go_num, by omega, HT2.out, Kp.trans HKP.out (Kp.drewN _ _)⟩
            case measure => simp [intOf]; omega
      · have hD0 : D = true := by
          rw [HD.out]
          apply decide_eq_true
          have h1 := HT.out
          rw [List.take_of_length_le (by have := HN.out; omega), List.take_of_length_le (by have := HM.out; have := HNM.out; omega)] at h1
          exact h1
        subst hD0
        go_wp2_with fail
        go_ret
        exact ⟨rfl, HKX.out⟩
  · have q1 : ((n : Int) == (m : Int)) = false := beq_eq_false_iff_ne.2 (by omega)
    have q2 : ((n : Int) != (m : Int)) = true := by rw [bne_iff_ne]; omega
    have hD0 : D = false := by
      rw [HD.out]
      apply decide_eq_false
      intro e
      have h1 := HN.out; have h2 := HM.out
      rw [e] at h1
      omega
    subst hD0
    clear hnm
    go_enter Tryz.func11, Tryz.ntmps11
    go_wp2_with fail
    go_ret
    rw [← HW0.out]
    exact ⟨rfl, HK0.out⟩
end By
end Go.Proofs.YtmkijkaabcgcbaaGreatDoor
