/- Comparisons of lists, and the reference's Find and Get. Condition: at most a million texts. -/
import Derived.Test.YtlfoikjbbbhbdaaCtB
import Derived.Test.YtlfoikjbbbhbdaaCtI
namespace Go.Proofs.Ytlfoikjbbbhbdaa
namespace By
open Go.RowKit WireN CtN
set_option linter.unusedVariables false
set_option linter.unusedSimpArgs false

set_option maxRecDepth 100000 in
set_option maxHeartbeats 4000000 in
theorem rSameT_any {va vb : Value} {ks ls : List Tx} {w : World} (ha : Tw w va ks) (hb : Tw w vb ls) (hk : ks.length ≤ 1000000) :
    Calls Try.prog 15 #[.agg #[va], .agg #[vb]] w fun e w' => e = .returned (.bool (decide (ks = ls))) ∧ Kp w w' := by
  obtain ⟨ao, ac, rfl, h1, -, -⟩ := ha.open3
  obtain ⟨bo, bc, rfl, h2, -, -⟩ := hb.open3
  obtain ⟨n, hn⟩ : ∃ n, n = ks.length := ⟨_, rfl⟩
  obtain ⟨m, hm⟩ : ∃ m, m = ls.length := ⟨_, rfl⟩
  rw [← hn] at ha h1 hk ⊢
  rw [← hm] at hb h2 ⊢
  obtain ⟨W, hW⟩ : ∃ W, W = (w.alloc (.cells #[.slice ao n ac] 25)).alloc (.cells #[.slice bo m bc] 25) := ⟨_, rfl⟩
  have hk0 : Kp w W := by rw [hW]; exact Kp.alloc (kp_alloc _ _) _
  have b1 : Blk W w.heap.size 25 #[.slice ao n ac] := by rw [hW]; exact (Blk.new _ _ _).keep (kp_alloc _ _)
  have b2 : Blk W (w.heap.size + 1) 25 #[.slice bo m bc] := by
    have := Blk.new (w.alloc (.cells #[.slice ao n ac] 25)) 25 #[.slice bo m bc]
    rw [hW]
    simpa using this
  have HA := Lib.hid (ha.keep hk0); have HB := Lib.hid (hb.keep hk0); have HN := Lib.hid hn; have HM := Lib.hid hm; have HK := Lib.hid hk0; have HW := Lib.hid hW; have HB1 := Lib.hid b1; have HB2 := Lib.hid b2
  obtain ⟨V, hV⟩ : ∃ V, V = decide (ks = ls) := ⟨_, rfl⟩
  rw [← hV]
  have HV := Lib.hid hV
  have i1 : (n : Int) ≤ (ac : Int) := by omega
  have i2 : (m : Int) ≤ (bc : Int) := by omega
  have i3 : (n : Int) ≤ 1000000 := by omega
  clear ha hb hn hm hV h1 h2 hk0 hW b1 b2
  by_cases hnm : n = m
  · subst hnm
    go_enter Try.func15, Try.ntmps15
    go_wp2_with fail
    rw [← HW.out]
    go_loopw [16] (fun i wr => ∃ k : Nat, i = .int .i64 (k : Nat) ∧ k ≤ n ∧ (∀ j, j < k → ks[j]? = ls[j]?) ∧ Kp W wr) (fun i _ => n - (intOf i).toNat)
    case atStart => exact ⟨0, rfl, Nat.zero_le _, fun j hj => by omega, Kp.refl _⟩
    case round =>
      obtain ⟨k, rfl, hkn, hall, hkp⟩ := hrel
      rename World => wx
      have HALL := Lib.hid hall; have HKP := Lib.hid hkp
      have c8 := (HB1.out.keep hkp).cell 0 rfl
      have c9 := (HB2.out.keep hkp).cell 0 rfl
      by_cases hlt : k < n
      · have hki : (k : Int) < (n : Int) := by omega
        obtain ⟨x, hx⟩ : ∃ x, ks[k]? = some x := ⟨_, List.getElem?_eq_getElem (by have := HN.out; omega)⟩
        obtain ⟨y, hy⟩ : ∃ y, ls[k]? = some y := ⟨_, List.getElem?_eq_getElem (by have := HM.out; omega)⟩
        obtain ⟨q1, o1, rfl, e1⟩ := (HA.out.keep hkp).cell (by omega)
        obtain ⟨q2, o2, rfl, e2⟩ := (HB.out.keep hkp).cell (by omega)
        have c0 := e1 k x hx
        have d0 := e2 k y hy
        have q := st_eqc (HA.out.ok x (List.mem_of_getElem? hx)).1 (HB.out.ok y (List.mem_of_getElem? hy)).1
        obtain ⟨X, hX⟩ : ∃ X, X = st x := ⟨_, rfl⟩
        obtain ⟨Y, hY⟩ : ∃ Y, Y = st y := ⟨_, rfl⟩
        rw [← hX] at c0 q
        rw [← hY] at d0 q
        by_cases he : x = y
        · rw [decide_eq_true he] at q
          have HNX : Hid ((∀ j, j < k + 1 → ks[j]? = ls[j]?) ∧ Kp W wx.drew) := Lib.hid ⟨fun j hj => by
            by_cases e : j = k
            · rw [e, hx, hy, he]
            · exact HALL.out j (by omega), Kp.trans hkp (kp_drew _)⟩
          clear hx hy e1 e2 hall hkp hX hY he
          go_wp2_with fail
          go_region
          go_wp2_with fail
          go_roundw
          case rel => exact ⟨k + 1, by go_num, by omega, HNX.out⟩
          case measure => simp [intOf]; omega
        · rw [decide_eq_false he] at q
          have HF : Hid (V = false) := Lib.hid (by
            rw [HV.out, decide_eq_false_iff_not]
            intro e
            rw [e, hy] at hx
            exact he (by injection hx with h; exact h.symm))
          have HKD := Lib.hid (Kp.trans HK.out (Kp.trans hkp (kp_drew wx)))
          clear hx hy e1 e2 he hall hkp hX hY
          go_wp2_with fail
          go_region
          go_wp2_with fail
          go_ret
          exact ⟨ret_bool HF.out.symm, HKD.out⟩
      · obtain rfl : k = n := by omega
        have HT : Hid (V = true) := Lib.hid (by
          rw [HV.out, decide_eq_true_eq]
          refine List.ext_getElem? fun j => ?_
          by_cases hj : j < k
          · exact HALL.out j hj
          · rw [List.getElem?_eq_none (by have := HN.out; omega), List.getElem?_eq_none (by have := HM.out; omega)])
        have HKD := Lib.hid (Kp.trans HK.out hkp)
        clear hall hkp hlt
        go_wp2_with fail
        go_ret
        exact ⟨ret_bool HT.out.symm, HKD.out⟩
  · have HF : Hid (V = false) := Lib.hid (by
      rw [HV.out, decide_eq_false_iff_not]
      intro e
      exact hnm (by rw [HN.out, HM.out, e]))
    have hb : ((n : Int) == (m : Int)) = false := beq_eq_false_iff_ne.2 (by omega)
    clear hnm
    go_enter Try.func15, Try.ntmps15
    go_wp2_with fail
    go_ret
    exact ⟨ret_bool HF.out.symm, by first | exact HK.out | (rw [← HW.out]; exact HK.out)⟩
end By
end Go.Proofs.Ytlfoikjbbbhbdaa
