/- The reference's Same of keys. Condition: at most a thousand keys. -/
import Derived.Test.YtpgnckjgclbepaaDoorKyJ
namespace Go.Proofs.YtpgnckjgclbepaaDoor
namespace By
open Go.RowKit WireN LexN RevN KeyN
set_option linter.unusedVariables false
set_option linter.unusedSimpArgs false

theorem ky_ne {x y : Ky} (h : x ≠ y) : x.1 ≠ y.1 ∨ (x.1 = y.1 ∧ x.2.1 ≠ y.2.1) ∨ (x.1 = y.1 ∧ x.2.1 = y.2.1 ∧ x.2.2 ≠ y.2.2) := by
  by_cases a1 : x.1 = y.1
  · by_cases a2 : x.2.1 = y.2.1
    · exact .inr (.inr ⟨a1, a2, fun a3 => h (Prod.ext a1 (Prod.ext a2 a3))⟩)
    · exact .inr (.inl ⟨a1, a2⟩)
  · exact .inl a1
set_option maxRecDepth 100000 in
set_option maxHeartbeats 4000000 in
theorem SameK_any {va vb : Value} {ks ls : List Ky} {w : World} (ha : Kw w va ks) (hb : Kw w vb ls) (hk : ks.length ≤ 1000) (hl : ls.length ≤ 1000) :
    Calls Tryd.prog 10 #[va, vb] w fun e w' => e = .returned (.bool (decide (ks = ls))) ∧ Kp w w' := by
  obtain ⟨ao, ac, rfl, h1, -, -⟩ := ha.open3
  obtain ⟨bo, bc, rfl, h2, -, -⟩ := hb.open3
  obtain ⟨n, hn⟩ : ∃ n, n = ks.length := ⟨_, rfl⟩
  obtain ⟨m, hm⟩ : ∃ m, m = ls.length := ⟨_, rfl⟩
  rw [← hn] at ha h1 hk ⊢
  rw [← hm] at hb h2 hl ⊢
  have HA := Lib.hid ha; have HB := Lib.hid hb; have HN := Lib.hid hn; have HM := Lib.hid hm
  obtain ⟨V, hV⟩ : ∃ V, V = decide (ks = ls) := ⟨_, rfl⟩
  rw [← hV]
  have HV := Lib.hid hV
  have i1 : (n : Int) ≤ (ac : Int) := by omega
  have i2 : (m : Int) ≤ (bc : Int) := by omega
  have i3 : (n : Int) ≤ 1000 := by omega
  clear ha hb hn hm hV h1 h2
  by_cases hnm : n = m
  · subst hnm
    go_enter Tryd.func10, Tryd.ntmps10
    go_wp2_with fail
    go_loopw [13] (fun i wr => ∃ k : Nat, i = .int .i64 (k : Nat) ∧ k ≤ n ∧ (∀ j, j < k → ks[j]? = ls[j]?) ∧ Kp w wr) (fun i _ => n - (intOf i).toNat)
    case atStart => exact ⟨0, rfl, Nat.zero_le _, fun j hj => by omega, Kp.refl _⟩
    case round =>
      obtain ⟨k, rfl, hkn, hall, hkp⟩ := hrel
      rename World => wx
      have HALL := Lib.hid hall; have HKP := Lib.hid hkp
      by_cases hlt : k < n
      · have hki : (k : Int) < (n : Int) := by omega
        obtain ⟨x, hx⟩ : ∃ x, ks[k]? = some x := ⟨_, List.getElem?_eq_getElem (by have := HN.out; omega)⟩
        obtain ⟨y, hy⟩ : ∃ y, ls[k]? = some y := ⟨_, List.getElem?_eq_getElem (by have := HM.out; omega)⟩
        obtain ⟨b1, o1, rfl, e1⟩ := (HA.out.keep hkp).cell (by omega)
        obtain ⟨b2, o2, rfl, e2⟩ := (HB.out.keep hkp).cell (by omega)
        obtain ⟨c0, c1, c2⟩ := e1 k x hx
        obtain ⟨d0, d1, d2⟩ := e2 k y hy
        have hxo := HA.out.ok x (List.mem_of_getElem? hx)
        have hyo := HB.out.ok y (List.mem_of_getElem? hy)
        have q2 := st_eqk hxo.1.1 hyo.1.1
        have q3 := st_eqk hxo.1.2 hyo.1.2
        by_cases he : x = y
        · subst he
          have HNX : Hid ((∀ j, j < k + 1 → ks[j]? = ls[j]?) ∧ Kp w wx.drew) := Lib.hid ⟨fun j hj => by
            by_cases e : j = k
            · rw [e, hx, hy]
            · exact HALL.out j (by omega), Kp.trans hkp (kp_drew _)⟩
          obtain ⟨x1, x2, x3⟩ := x
          simp only at c0 c1 c2 d0 d1 d2 q2 q3
          clear hx hy e1 e2 hxo hyo hall hkp
          go_wp2_with fail
          go_region
          go_wp2_with fail
          go_roundw
          case rel => exact ⟨k + 1, by go_num, by omega, HNX.out⟩
          case measure => simp [intOf]; omega
        · have HF : Hid (V = false) := Lib.hid (by
            rw [HV.out, decide_eq_false_iff_not]
            intro e
            rw [e, hy] at hx
            exact he (by injection hx with h; exact h.symm))
          have HKD := Lib.hid (Kp.trans hkp (kp_drew wx))
          have hne := ky_ne he
          obtain ⟨x1, x2, x3⟩ := x
          obtain ⟨y1, y2, y3⟩ := y
          simp only at c0 c1 c2 d0 d1 d2 q2 q3 hne
          clear hx hy e1 e2 hxo hyo he hall hkp
          rcases hne with h1 | ⟨rfl, h2⟩ | ⟨rfl, rfl, h3⟩
          all_goals
            go_wp2_with fail
            go_region
            go_wp2_with fail
            go_ret
            exact ⟨ret_bool HF.out.symm, HKD.out⟩
      · obtain rfl : k = n := by omega
        have HT : Hid (V = true) := Lib.hid (by
          rw [HV.out, decide_eq_true_eq]
          refine List.ext_getElem? fun j => ?_
          by_cases hj : j < k
          · exact HALL.out j hj
          · rw [List.getElem?_eq_none (by have := HN.out; omega), List.getElem?_eq_none (by have := HM.out; omega)])
        clear hall hkp hlt
        go_wp2_with fail
        go_ret
        exact ⟨ret_bool HT.out.symm, HKP.out⟩
  · have HF : Hid (V = false) := Lib.hid (by
      rw [HV.out, decide_eq_false_iff_not]
      intro e
      exact hnm (by rw [HN.out, HM.out, e]))
    have hb : ((n : Int) == (m : Int)) = false := beq_eq_false_iff_ne.2 (by omega)
    clear hnm
    go_enter Tryd.func10, Tryd.ntmps10
    go_wp2_with fail
    go_ret
    exact ⟨ret_bool HF.out.symm, Kp.refl _⟩
end By
end Go.Proofs.YtpgnckjgclbepaaDoor
