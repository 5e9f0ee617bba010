/- The maker's comparisons of lists. Condition: at most a million members. -/
import Derived.Test.YtlfoikjbbbhbdaaCtC
namespace Go.Proofs.Ytlfoikjbbbhbdaa
namespace By
open Go.RowKit WireN CtN
set_option linter.unusedVariables false
set_option linter.unusedSimpArgs false

set_option maxRecDepth 100000 in
set_option maxHeartbeats 4000000 in
theorem SameTexts_any {va vb : Value} {ks ls : List Tx} {w : World} (ha : Tw w va ks) (hb : Tw w vb ls) (hk : ks.length ≤ 1000000) :
    Calls Try.prog 30 #[va, vb] w fun e w' => e = .returned (.bool (decide (ks = ls))) ∧ Kp w w' := by
  obtain ⟨ao, ac, rfl, h1, -, -⟩ := ha.open3
  obtain ⟨bo, bc, rfl, h2, -, -⟩ := hb.open3
  obtain ⟨n, hn⟩ : ∃ n, n = ks.length := ⟨_, rfl⟩
  obtain ⟨m, hm⟩ : ∃ m, m = ls.length := ⟨_, rfl⟩
  rw [← hn] at ha h1 hk ⊢
  rw [← hm] at hb h2 ⊢
  have HA := Lib.hid ha; have HB := Lib.hid hb; have HN := Lib.hid hn; have HM := Lib.hid hm
  obtain ⟨V, hV⟩ : ∃ V, V = decide (ks = ls) := ⟨_, rfl⟩
  rw [← hV]
  have HV := Lib.hid hV
  have i1 : (n : Int) ≤ (ac : Int) := by omega
  have i2 : (m : Int) ≤ (bc : Int) := by omega
  have i3 : (n : Int) ≤ 1000000 := by omega
  clear ha hb hn hm hV h1 h2
  by_cases hnm : n = m
  · subst hnm
    go_enter Try.func30, Try.ntmps30
    go_wp2_with fail
    go_loopw [5] (fun i wr => ∃ k : Nat, i = .int .i64 (k : Nat) ∧ k ≤ n ∧ (∀ j, j < k → ks[j]? = ls[j]?) ∧ Kp w wr) (fun i _ => n - (intOf i).toNat)
    case atStart => exact ⟨0, rfl, Nat.zero_le _, fun j hj => by omega, Kp.refl _⟩
    case round =>
      obtain ⟨k, rfl, hkn, hall, hkp⟩ := hrel
      rename World => wx
      have HALL := Lib.hid hall; have HKP := Lib.hid hkp
      by_cases hlt : k < n
      · have hki : (k : Int) < (n : Int) := by omega
        obtain ⟨x, hx⟩ : ∃ x, ks[k]? = some x := ⟨_, List.getElem?_eq_getElem (by have := HN.out; omega)⟩
        obtain ⟨y, hy⟩ : ∃ y, ls[k]? = some y := ⟨_, List.getElem?_eq_getElem (by have := HM.out; omega)⟩
        obtain ⟨q1, o1, rfl, e1⟩ := (HA.out.keep hkp).cell (by omega)
        obtain ⟨q2, o2, rfl, e2⟩ := (HB.out.keep hkp).cell (by omega)
        have c0 := e1 k x hx
        have d0 := e2 k y hy
        have q := st_eqc (HA.out.ok x (List.mem_of_getElem? hx)).1 (HB.out.ok y (List.mem_of_getElem? hy)).1
        obtain ⟨X, hX⟩ : ∃ X, X = st x := ⟨_, rfl⟩
        obtain ⟨Y, hY⟩ : ∃ Y, Y = st y := ⟨_, rfl⟩
        rw [← hX] at c0 q
        rw [← hY] at d0 q
        by_cases he : x = y
        · rw [decide_eq_true he] at q
          have HNX : Hid ((∀ j, j < k + 1 → ks[j]? = ls[j]?) ∧ Kp w wx.drew) := Lib.hid ⟨fun j hj => by
            by_cases e : j = k
            · rw [e, hx, hy, he]
            · exact HALL.out j (by omega), Kp.trans hkp (kp_drew _)⟩
          clear hx hy e1 e2 hall hkp hX hY he
          go_wp2_with fail
          go_region
          go_wp2_with fail
          go_roundw
          case rel => exact ⟨k + 1, by go_num, by omega, HNX.out⟩
          case measure => simp [intOf]; omega
        · rw [decide_eq_false he] at q
          have HF : Hid (V = false) := Lib.hid (by
            rw [HV.out, decide_eq_false_iff_not]
            intro e
            rw [e, hy] at hx
            exact he (by injection hx with h; exact h.symm))
          have HKD := Lib.hid (Kp.trans hkp (kp_drew wx))
          clear hx hy e1 e2 he hall hkp hX hY
          go_wp2_with fail
          go_region
          go_wp2_with fail
          go_ret
          exact ⟨ret_bool HF.out.symm, HKD.out⟩
      · obtain rfl : k = n := by omega
        have HT : Hid (V = true) := Lib.hid (by
          rw [HV.out, decide_eq_true_eq]
          refine List.ext_getElem? fun j => ?_
          by_cases hj : j < k
          · exact HALL.out j hj
          · rw [List.getElem?_eq_none (by have := HN.out; omega), List.getElem?_eq_none (by have := HM.out; omega)])
        clear hall hkp hlt
        go_wp2_with fail
        go_ret
        exact ⟨ret_bool HT.out.symm, HKP.out⟩
  · have HF : Hid (V = false) := Lib.hid (by
      rw [HV.out, decide_eq_false_iff_not]
      intro e
      exact hnm (by rw [HN.out, HM.out, e]))
    have hb : ((n : Int) == (m : Int)) = false := beq_eq_false_iff_ne.2 (by omega)
    clear hnm
    go_enter Try.func30, Try.ntmps30
    go_wp2_with fail
    go_ret
    exact ⟨ret_bool HF.out.symm, Kp.refl _⟩
set_option maxRecDepth 100000 in
set_option maxHeartbeats 4000000 in
theorem SameTexts_d {va vb : Value} {ks ls : List Tx} {w : World} (ha : Tw w va ks) (hb : Tw w vb ls) (hk : ks.length ≤ 1000000) :
    Calls Try.prog 30 #[va, vb] w fun e w' => e = .returned (.bool (decide (ks = ls))) ∧ ∃ d, w' = w.drewN d := by
  obtain ⟨ao, ac, rfl, h1, -, -⟩ := ha.open3
  obtain ⟨bo, bc, rfl, h2, -, -⟩ := hb.open3
  obtain ⟨n, hn⟩ : ∃ n, n = ks.length := ⟨_, rfl⟩
  obtain ⟨m, hm⟩ : ∃ m, m = ls.length := ⟨_, rfl⟩
  rw [← hn] at ha h1 hk ⊢
  rw [← hm] at hb h2 ⊢
  have HA := Lib.hid ha; have HB := Lib.hid hb; have HN := Lib.hid hn; have HM := Lib.hid hm
  obtain ⟨V, hV⟩ : ∃ V, V = decide (ks = ls) := ⟨_, rfl⟩
  rw [← hV]
  have HV := Lib.hid hV
  have i1 : (n : Int) ≤ (ac : Int) := by omega
  have i2 : (m : Int) ≤ (bc : Int) := by omega
  have i3 : (n : Int) ≤ 1000000 := by omega
  clear ha hb hn hm hV h1 h2
  by_cases hnm : n = m
  · subst hnm
    go_enter Try.func30, Try.ntmps30
    go_wp2_with fail
    go_loopw [5] (fun i wr => ∃ k : Nat, i = .int .i64 (k : Nat) ∧ k ≤ n ∧ (∀ j, j < k → ks[j]? = ls[j]?) ∧ ∃ d, wr = w.drewN d) (fun i _ => n - (intOf i).toNat)
    case atStart => exact ⟨0, rfl, Nat.zero_le _, fun j hj => by omega, 0, rfl⟩
    case round =>
      obtain ⟨k, rfl, hkn, hall, d, hd⟩ := hrel
      rename World => wx
      have hkp : Kp w wx := by rw [hd]; exact Kp.drewN w d
      have HDD := Lib.hid hd
      clear hd
      have HALL := Lib.hid hall; have HKP := Lib.hid hkp
      by_cases hlt : k < n
      · have hki : (k : Int) < (n : Int) := by omega
        obtain ⟨x, hx⟩ : ∃ x, ks[k]? = some x := ⟨_, List.getElem?_eq_getElem (by have := HN.out; omega)⟩
        obtain ⟨y, hy⟩ : ∃ y, ls[k]? = some y := ⟨_, List.getElem?_eq_getElem (by have := HM.out; omega)⟩
        obtain ⟨q1, o1, rfl, e1⟩ := (HA.out.keep hkp).cell (by omega)
        obtain ⟨q2, o2, rfl, e2⟩ := (HB.out.keep hkp).cell (by omega)
        have c0 := e1 k x hx
        have d0 := e2 k y hy
        have q := st_eqc (HA.out.ok x (List.mem_of_getElem? hx)).1 (HB.out.ok y (List.mem_of_getElem? hy)).1
        obtain ⟨X, hX⟩ : ∃ X, X = st x := ⟨_, rfl⟩
        obtain ⟨Y, hY⟩ : ∃ Y, Y = st y := ⟨_, rfl⟩
        rw [← hX] at c0 q
        rw [← hY] at d0 q
        by_cases he : x = y
        · rw [decide_eq_true he] at q
          have HNX : Hid ((∀ j, j < k + 1 → ks[j]? = ls[j]?) ∧ ∃ d, wx.drew = w.drewN d) := Lib.hid ⟨fun j hj => by
            by_cases e : j = k
            · rw [e, hx, hy, he]
            · exact HALL.out j (by omega), d + 1, by rw [HDD.out]; rfl⟩
          clear hx hy e1 e2 hall hkp hX hY he
          go_wp2_with fail
          go_region
          go_wp2_with fail
          go_roundw
          case rel => exact ⟨k + 1, by go_num, by omega, HNX.out⟩
          case measure => simp [intOf]; omega
        · rw [decide_eq_false he] at q
          have HF : Hid (V = false) := Lib.hid (by
            rw [HV.out, decide_eq_false_iff_not]
            intro e
            rw [e, hy] at hx
            exact he (by injection hx with h; exact h.symm))
          have HKD : Hid (∃ d, wx.drew = w.drewN d) := Lib.hid ⟨d + 1, by rw [HDD.out]; rfl⟩
          clear hx hy e1 e2 he hall hkp hX hY
          go_wp2_with fail
          go_region
          go_wp2_with fail
          go_ret
          exact ⟨ret_bool HF.out.symm, HKD.out⟩
      · obtain rfl : k = n := by omega
        have HT : Hid (V = true) := Lib.hid (by
          rw [HV.out, decide_eq_true_eq]
          refine List.ext_getElem? fun j => ?_
          by_cases hj : j < k
          · exact HALL.out j hj
          · rw [List.getElem?_eq_none (by have := HN.out; omega), List.getElem?_eq_none (by have := HM.out; omega)])
        clear hall hkp hlt
        go_wp2_with fail
        go_ret
        exact ⟨ret_bool HT.out.symm, d, HDD.out⟩
  · have HF : Hid (V = false) := Lib.hid (by
      rw [HV.out, decide_eq_false_iff_not]
      intro e
      exact hnm (by rw [HN.out, HM.out, e]))
    have hb : ((n : Int) == (m : Int)) = false := beq_eq_false_iff_ne.2 (by omega)
    clear hnm
    go_enter Try.func30, Try.ntmps30
    go_wp2_with fail
    go_ret
    exact ⟨ret_bool HF.out.symm, 0, rfl⟩
set_option maxRecDepth 100000 in
set_option maxHeartbeats 4000000 in
theorem SameInts_any {va vb : Value} {ks ls : List Int} {w : World} (ha : Jw w va ks) (hb : Jw w vb ls) (hk : ks.length ≤ 1000000) :
    Calls Try.prog 21 #[va, vb] w fun e w' => e = .returned (.bool (decide (ks = ls))) ∧ Kp w w' := by
  obtain ⟨ao, ac, rfl, h1, -, -⟩ := ha.open3
  obtain ⟨bo, bc, rfl, h2, -, -⟩ := hb.open3
  obtain ⟨n, hn⟩ : ∃ n, n = ks.length := ⟨_, rfl⟩
  obtain ⟨m, hm⟩ : ∃ m, m = ls.length := ⟨_, rfl⟩
  rw [← hn] at ha h1 hk ⊢
  rw [← hm] at hb h2 ⊢
  have HA := Lib.hid ha; have HB := Lib.hid hb; have HN := Lib.hid hn; have HM := Lib.hid hm
  obtain ⟨V, hV⟩ : ∃ V, V = decide (ks = ls) := ⟨_, rfl⟩
  rw [← hV]
  have HV := Lib.hid hV
  have i1 : (n : Int) ≤ (ac : Int) := by omega
  have i2 : (m : Int) ≤ (bc : Int) := by omega
  have i3 : (n : Int) ≤ 1000000 := by omega
  clear ha hb hn hm hV h1 h2
  by_cases hnm : n = m
  · subst hnm
    go_enter Try.func21, Try.ntmps21
    go_wp2_with fail
    go_loopw [5] (fun i wr => ∃ k : Nat, i = .int .i64 (k : Nat) ∧ k ≤ n ∧ (∀ j, j < k → ks[j]? = ls[j]?) ∧ Kp w wr) (fun i _ => n - (intOf i).toNat)
    case atStart => exact ⟨0, rfl, Nat.zero_le _, fun j hj => by omega, Kp.refl _⟩
    case round =>
      obtain ⟨k, rfl, hkn, hall, hkp⟩ := hrel
      rename World => wx
      have HALL := Lib.hid hall; have HKP := Lib.hid hkp
      by_cases hlt : k < n
      · have hki : (k : Int) < (n : Int) := by omega
        obtain ⟨x, hx⟩ : ∃ x, ks[k]? = some x := ⟨_, List.getElem?_eq_getElem (by have := HN.out; omega)⟩
        obtain ⟨y, hy⟩ : ∃ y, ls[k]? = some y := ⟨_, List.getElem?_eq_getElem (by have := HM.out; omega)⟩
        obtain ⟨q1, o1, rfl, e1⟩ := (HA.out.keep hkp).cell (by omega)
        obtain ⟨q2, o2, rfl, e2⟩ := (HB.out.keep hkp).cell (by omega)
        have c0 := e1 k x hx
        have d0 := e2 k y hy
        have hxo := HA.out.ok x (List.mem_of_getElem? hx)
        by_cases he : x = y
        · have q : (x == y) = true := beq_iff_eq.2 he
          have HNX : Hid ((∀ j, j < k + 1 → ks[j]? = ls[j]?) ∧ Kp w wx.drew) := Lib.hid ⟨fun j hj => by
            by_cases e : j = k
            · rw [e, hx, hy, he]
            · exact HALL.out j (by omega), Kp.trans hkp (kp_drew _)⟩
          clear hx hy e1 e2 hall hkp hxo he
          go_wp2_with fail
          go_region
          go_wp2_with fail
          go_roundw
          case rel => exact ⟨k + 1, by go_num, by omega, HNX.out⟩
          case measure => simp [intOf]; omega
        · have q : (x == y) = false := beq_eq_false_iff_ne.2 he
          have HF : Hid (V = false) := Lib.hid (by
            rw [HV.out, decide_eq_false_iff_not]
            intro e
            rw [e, hy] at hx
            exact he (by injection hx with h; exact h.symm))
          have HKD := Lib.hid (Kp.trans hkp (kp_drew wx))
          clear hx hy e1 e2 he hall hkp hxo
          go_wp2_with fail
          go_region
          go_wp2_with fail
          go_ret
          exact ⟨ret_bool HF.out.symm, HKD.out⟩
      · obtain rfl : k = n := by omega
        have HT : Hid (V = true) := Lib.hid (by
          rw [HV.out, decide_eq_true_eq]
          refine List.ext_getElem? fun j => ?_
          by_cases hj : j < k
          · exact HALL.out j hj
          · rw [List.getElem?_eq_none (by have := HN.out; omega), List.getElem?_eq_none (by have := HM.out; omega)])
        clear hall hkp hlt
        go_wp2_with fail
        go_ret
        exact ⟨ret_bool HT.out.symm, HKP.out⟩
  · have HF : Hid (V = false) := Lib.hid (by
      rw [HV.out, decide_eq_false_iff_not]
      intro e
      exact hnm (by rw [HN.out, HM.out, e]))
    have hb : ((n : Int) == (m : Int)) = false := beq_eq_false_iff_ne.2 (by omega)
    clear hnm
    go_enter Try.func21, Try.ntmps21
    go_wp2_with fail
    go_ret
    exact ⟨ret_bool HF.out.symm, Kp.refl _⟩
set_option maxRecDepth 100000 in
set_option maxHeartbeats 1000000 in
theorem HasInt_t {w : World} {v : Value} {ts : List Int} (hs : Jw w v ts) (hn2 : ts.length ≤ 1000000) (x : Int) :
    Calls Try.prog 31 #[v, .int .i64 x] w fun e w' => e = .returned (.bool (decide (x ∈ ts))) ∧ w = w' := by
  obtain ⟨ao, cap, rfl, hcap, -, -⟩ := hs.open3
  obtain ⟨n, hn⟩ : ∃ n, n = ts.length := ⟨_, rfl⟩
  rw [← hn] at hs hn2 hcap ⊢
  obtain ⟨V, hV⟩ : ∃ V, V = decide (x ∈ ts) := ⟨_, rfl⟩
  rw [← hV]
  have HS := Lib.hid hs; have HN := Lib.hid hn; have HV := Lib.hid hV
  have i1 : (n : Int) ≤ (cap : Int) := by omega
  have i2 : (n : Int) ≤ 1000000 := by omega
  clear hs hn hV hcap hn2
  go_enter Try.func31, Try.ntmps31
  go_wp2_with fail
  go_loopw [5] (fun i wr => ∃ k : Nat, i = .int .i64 (k : Nat) ∧ k ≤ n ∧ w = wr ∧ Hid (∀ j, j < k → ts[j]? ≠ some x)) (fun i _ => n - (intOf i).toNat)
  case atStart => exact ⟨0, rfl, Nat.zero_le _, rfl, Lib.hid (fun j hj => by omega)⟩
  case round =>
    obtain ⟨k, rfl, hk, rfl, HJ⟩ := hrel
    by_cases hlt : k < n
    · obtain ⟨y, hy⟩ : ∃ y, ts[k]? = some y := ⟨_, List.getElem?_eq_getElem (by have := HN.out; omega)⟩
      obtain ⟨b, off, rfl, hcell⟩ := HS.out.cell (by omega)
      have c0 := hcell k y hy
      have j1 : (k : Int) < (n : Int) := by omega
      have HY := Lib.hid hy
      clear hcell hy
      by_cases he : y = x
      · have q : (y == x) = true := beq_iff_eq.2 he
        have HF : Hid (true = V) := Lib.hid (by rw [HV.out]; exact (decide_eq_true (he ▸ List.mem_of_getElem? HY.out)).symm)
        clear he
        go_wp2_with fail
        go_ret
        exact ⟨ret_bool HF.out, rfl⟩
      · have q : (y == x) = false := beq_eq_false_iff_ne.2 he
        have HJ2 : Hid (∀ j, j < k + 1 → ts[j]? ≠ some x) := Lib.hid (fun j hj => by
          by_cases hjk : j = k
          · subst hjk; rw [HY.out]; intro e; injection e with e; exact he e
          · exact HJ.out j (by omega))
        clear he
        go_wp2_with fail
        go_roundw
        case rel => exact ⟨k + 1, by go_num, by omega, by first | trivial | rfl, HJ2⟩
        case measure => simp [intOf]; omega
    · obtain rfl : k = n := by omega
      have HF : Hid (false = V) := Lib.hid (by
        rw [HV.out]
        refine (decide_eq_false fun hm => ?_).symm
        obtain ⟨j, hj, e⟩ := List.getElem_of_mem hm
        exact HJ.out j (by have := HN.out; omega) (by rw [List.getElem?_eq_getElem hj, e]))
      clear hlt
      go_wp2_with fail
      go_ret
      exact ⟨ret_bool HF.out, rfl⟩
end By
end Go.Proofs.Ytlfoikjbbbhbdaa
