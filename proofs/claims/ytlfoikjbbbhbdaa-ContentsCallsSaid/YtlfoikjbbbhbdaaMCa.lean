/- Whether a text is in a list, the reference's number of a text, and its comparison of stores. Condition: at most a million texts. -/
import Derived.Test.YtlfoikjbbbhbdaaCtM
import Derived.Test.YtlfoikjbbbhbdaaCtI
namespace Go.Proofs.Ytlfoikjbbbhbdaa
namespace By
open Go.RowKit WireN CtN
set_option linter.unusedVariables false
set_option linter.unusedSimpArgs false

set_option maxRecDepth 100000 in
set_option maxHeartbeats 1000000 in
theorem Has_t {w : World} {v : Value} {ts : List Tx} (hs : Tw w v ts) (hn2 : ts.length ≤ 1000000) {x : Tx} (hx : Lt x) :
    Calls Try.prog 35 #[v, .string (st x)] w fun e w' => e = .returned (.bool (decide (x ∈ ts))) ∧ w = w' := by
  obtain ⟨ao, cap, rfl, hcap, -, -⟩ := hs.open3
  obtain ⟨n, hn⟩ : ∃ n, n = ts.length := ⟨_, rfl⟩
  rw [← hn] at hs hn2 hcap ⊢
  obtain ⟨V, hV⟩ : ∃ V, V = decide (x ∈ ts) := ⟨_, rfl⟩
  rw [← hV]
  have HS := Lib.hid hs; have HN := Lib.hid hn; have HV := Lib.hid hV; have HX := Lib.hid hx
  have i1 : (n : Int) ≤ (cap : Int) := by omega
  have i2 : (n : Int) ≤ 1000000 := by omega
  obtain ⟨X, hX⟩ : ∃ X, X = st x := ⟨_, rfl⟩
  rw [← hX]
  have HXX := Lib.hid hX
  clear hs hn hV hcap hn2 hx hX
  go_enter Try.func35, Try.ntmps35
  go_wp2_with fail
  go_loopw [5] (fun i wr => ∃ k : Nat, i = .int .i64 (k : Nat) ∧ k ≤ n ∧ wr = w ∧ Hid (∀ j, j < k → ts[j]? ≠ some x)) (fun i _ => n - (intOf i).toNat)
  case atStart => exact ⟨0, rfl, Nat.zero_le _, rfl, Lib.hid (fun j hj => by omega)⟩
  case round =>
    obtain ⟨k, rfl, hk, rfl, HJ⟩ := hrel
    by_cases hlt : k < n
    · obtain ⟨y, hy⟩ : ∃ y, ts[k]? = some y := ⟨_, List.getElem?_eq_getElem (by have := HN.out; omega)⟩
      have hyo : TxOk y := HS.out.ok y (List.mem_of_getElem? hy)
      obtain ⟨b, off, rfl, hcell⟩ := HS.out.cell (by omega)
      have c0 := hcell k y hy
      have q := st_eqc hyo.1 HX.out
      rw [← HXX.out] at q
      have j1 : (k : Int) < (n : Int) := by omega
      have HY := Lib.hid hy
      obtain ⟨Y, hY⟩ : ∃ Y, Y = st y := ⟨_, rfl⟩
      rw [← hY] at c0 q
      clear hcell hyo hy hY
      by_cases he : y = x
      · rw [decide_eq_true he] at q
        have HF : Hid (true = V) := Lib.hid (by rw [HV.out]; exact (decide_eq_true (he ▸ List.mem_of_getElem? HY.out)).symm)
        clear he
        go_wp2_with fail
        go_ret
        exact ⟨ret_bool HF.out, rfl⟩
      · rw [decide_eq_false he] at q
        have HJ2 : Hid (∀ j, j < k + 1 → ts[j]? ≠ some x) := Lib.hid (fun j hj => by
          by_cases hjk : j = k
          · subst hjk; rw [HY.out]; intro e; injection e with e; exact he e
          · exact HJ.out j (by omega))
        clear he
        go_wp2_with fail
        go_roundw
        case rel => exact ⟨k + 1, by go_num, by omega, by first | trivial | rfl, HJ2⟩
        case measure => simp [intOf]; omega
    · obtain rfl : k = n := by omega
      have HF : Hid (false = V) := Lib.hid (by rw [HV.out]; exact (decide_eq_false (not_mem_of (by have := HN.out; intro j hj; exact HJ.out j (by omega)))).symm)
      clear hlt
      go_wp2_with fail
      go_ret
      exact ⟨ret_bool HF.out, rfl⟩
/-- The number that find answers. -/
def fndI (x : Tx) (ts : List Tx) : Int := if x ∈ ts then (fnd x ts : Nat) else -1
set_option maxRecDepth 100000 in
set_option maxHeartbeats 1000000 in
theorem rfind_any {w : World} {v : Value} {ts : List Tx} (hs : Tw w v ts) (hn2 : ts.length ≤ 140737488355328) {x : Tx} (hx : Lt x) :
    Calls Try.prog 37 #[.agg #[v], .string (st x)] w fun e w' => e = .returned (.int .i64 (fndI x ts)) ∧ Kp w w' := by
  obtain ⟨ao, cap, rfl, hcap, -, -⟩ := hs.open3
  obtain ⟨n, hn⟩ : ∃ n, n = ts.length := ⟨_, rfl⟩
  rw [← hn] at hs hn2 hcap ⊢
  obtain ⟨V, hV⟩ : ∃ V, V = fndI x ts := ⟨_, rfl⟩
  rw [← hV]
  obtain ⟨W, hW⟩ : ∃ W, W = w.alloc (.cells #[.slice ao n cap] 25) := ⟨_, rfl⟩
  have hk0 : Kp w W := by rw [hW]; exact kp_alloc _ _
  have HS := Lib.hid (hs.keep hk0); have HN := Lib.hid hn; have HV := Lib.hid hV; have HX := Lib.hid hx; have HW := Lib.hid hW; have HK := Lib.hid hk0
  have i1 : (n : Int) ≤ (cap : Int) := by omega
  have i2 : (n : Int) ≤ 140737488355328 := by omega
  obtain ⟨X, hX⟩ : ∃ X, X = st x := ⟨_, rfl⟩
  rw [← hX]
  have HXX := Lib.hid hX
  clear hs hn hV hcap hn2 hx hX hW hk0
  go_enter Try.func37, Try.ntmps37
  go_wp2_with fail
  rw [← HW.out]
  go_loopw [10] (fun i wr => ∃ k : Nat, i = .int .i64 (k : Nat) ∧ k ≤ n ∧ wr = W ∧ Hid (∀ j, j < k → ts[j]? ≠ some x)) (fun i _ => n - (intOf i).toNat)
  case atStart => exact ⟨0, rfl, Nat.zero_le _, rfl, Lib.hid (fun j hj => by omega)⟩
  case round =>
    obtain ⟨k, rfl, hk, rfl, HJ⟩ := hrel
    by_cases hlt : k < n
    · obtain ⟨y, hy⟩ : ∃ y, ts[k]? = some y := ⟨_, List.getElem?_eq_getElem (by have := HN.out; omega)⟩
      have hyo : TxOk y := HS.out.ok y (List.mem_of_getElem? hy)
      obtain ⟨b, off, rfl, hcell⟩ := HS.out.cell (by omega)
      have c0 := hcell k y hy
      have q := st_eqc hyo.1 HX.out
      rw [← HXX.out] at q
      have j1 : (k : Int) < (n : Int) := by omega
      have HY := Lib.hid hy
      obtain ⟨Y, hY⟩ : ∃ Y, Y = st y := ⟨_, rfl⟩
      rw [← hY] at c0 q
      clear hcell hyo hy hY
      by_cases he : y = x
      · rw [decide_eq_true he] at q
        have HF : Hid ((k : Int) = V) := Lib.hid (by
          have hm : x ∈ ts := he ▸ List.mem_of_getElem? HY.out
          rw [HV.out, fndI, if_pos hm, fnd_first (k := k) (he ▸ HY.out) HJ.out])
        clear he
        go_wp2_with fail
        go_ret
        exact ⟨by rw [← HF.out]; rfl, HK.out⟩
      · rw [decide_eq_false he] at q
        have HJ2 : Hid (∀ j, j < k + 1 → ts[j]? ≠ some x) := Lib.hid (fun j hj => by
          by_cases hjk : j = k
          · subst hjk; rw [HY.out]; intro e; injection e with e; exact he e
          · exact HJ.out j (by omega))
        clear he
        go_wp2_with fail
        go_roundw
        case rel => exact ⟨k + 1, by go_num, by omega, by first | trivial | rfl, HJ2⟩
        case measure => simp [intOf]; omega
    · obtain rfl : k = n := by omega
      have HF : Hid ((-1 : Int) = V) := Lib.hid (by rw [HV.out, fndI, if_neg (not_mem_of (by have := HN.out; intro j hj; exact HJ.out j (by omega)))])
      clear hlt
      go_wp2_with fail
      go_ret
      exact ⟨by rw [← HF.out]; rfl, HK.out⟩
end By
end Go.Proofs.Ytlfoikjbbbhbdaa

/- The reference's Check of a store. Condition: the slice is not longer than a slice can be. -/
namespace Go.Proofs.Ytlfoikjbbbhbdaa
namespace By
open Go.RowKit WireN CtN
set_option linter.unusedVariables false
set_option linter.unusedSimpArgs false

theorem nodup_snoc {ts : List Tx} {k : Nat} {x : Tx} (h : (ts.take k).Nodup) (hx : ts[k]? = some x) (hn : ∀ j, j < k → ts[j]? ≠ some x) : (ts.take (k + 1)).Nodup := by
  rw [List.take_add_one, hx]
  show (ts.take k ++ [x]).Nodup
  rw [List.nodup_append]
  refine ⟨h, by simp, fun a ha b hb e => ?_⟩
  obtain rfl : b = x := by simpa using hb
  subst e
  obtain ⟨j, hj, e⟩ := List.getElem_of_mem ha
  rw [List.length_take] at hj
  refine hn j (by omega) ?_
  rw [List.getElem_take] at e
  rw [List.getElem?_eq_getElem (by omega), e]
theorem not_nodup {ts : List Tx} {j k : Nat} {x : Tx} (hjk : j < k) (h1 : ts[j]? = some x) (h2 : ts[k]? = some x) : ¬ ts.Nodup := fun hd => by
  have a := fnd_nodup hd h1
  have b := fnd_nodup hd h2
  omega
set_option maxRecDepth 100000 in
set_option maxHeartbeats 1000000 in
theorem rCheckT_any {w : World} {v : Value} {ts : List Tx} (hs : Tw w v ts) :
    Calls Try.prog 10 #[.agg #[v]] w fun e w' => e = .returned (.int .i64 (err ts : Nat)) ∧ Kp w w' := by
  obtain ⟨ao, cap, rfl, hcap, hmx, -⟩ := hs.open3
  obtain ⟨n, hn⟩ : ∃ n, n = ts.length := ⟨_, rfl⟩
  rw [← hn] at hs hcap ⊢
  obtain ⟨V, hV⟩ : ∃ V, V = err ts := ⟨_, rfl⟩
  rw [← hV]
  obtain ⟨W, hW⟩ : ∃ W, W = w.alloc (.cells #[.slice ao n cap] 25) := ⟨_, rfl⟩
  have hk0 : Kp w W := by rw [hW]; exact kp_alloc _ _
  have hb0 : Blk W w.heap.size 25 #[.slice ao n cap] := by rw [hW]; exact Blk.new _ _ _
  have HS := Lib.hid (hs.keep hk0); have HN := Lib.hid hn; have HV := Lib.hid hV; have HW := Lib.hid hW; have HK := Lib.hid hk0
  have c8 := hb0.cell 0 rfl
  have i1 : (n : Int) ≤ (cap : Int) := by omega
  clear hs hn hV hW hk0 hb0
  by_cases hbig : 4096 < n
  · have HF : Hid (2 = V) := Lib.hid (by rw [HV.out, err, if_pos (by have := HN.out; omega)])
    have j0 : (4096 : Int) < (n : Int) := by omega
    clear hbig hcap hmx
    go_enter Try.func10, Try.ntmps10
    go_wp2_with fail
    go_ret
    exact ⟨by rw [← HF.out]; rfl, by first | exact HK.out | (rw [← HW.out]; exact HK.out)⟩
  have i2 : (n : Int) ≤ 4096 := by omega
  clear hbig hcap hmx
  go_enter Try.func10, Try.ntmps10
  go_wp2_with fail
  rw [← HW.out]
  go_loopw [14] (fun i wr => ∃ k : Nat, i = .int .i64 (k : Nat) ∧ k ≤ n ∧ W = wr ∧ Hid ((ts.take k).Nodup)) (fun i _ => n - (intOf i).toNat)
  case atStart => exact ⟨0, rfl, Nat.zero_le _, rfl, Lib.hid (by simp)⟩
  case round =>
    obtain ⟨k, rfl, hk, rfl, HJ⟩ := hrel
    by_cases hlt : k < n
    · obtain ⟨x, hx⟩ : ∃ x, ts[k]? = some x := ⟨_, List.getElem?_eq_getElem (by have := HN.out; omega)⟩
      have hxo : TxOk x := HS.out.ok x (List.mem_of_getElem? hx)
      obtain ⟨b, off, rfl, hcell⟩ := HS.out.cell (by omega)
      have c0 := hcell k x hx
      have j1 : (k : Int) < (n : Int) := by omega
      have j2 : (k : Int) ≤ (cap : Int) := by omega
      have HX := Lib.hid hx; have HXO := Lib.hid hxo; have HC := Lib.hid hcell
      obtain ⟨X, hX⟩ : ∃ X, X = st x := ⟨_, rfl⟩
      rw [← hX] at c0
      have HXX := Lib.hid hX
      clear hcell hxo hx hX
      go_wp2_with fail
      go_loopw [24] (fun i wr => ∃ j : Nat, i = .int .i64 (j : Nat) ∧ j ≤ k ∧ W = wr ∧ Hid (∀ i, i < j → ts[i]? ≠ some x)) (fun i _ => k - (intOf i).toNat)
      case atStart => exact ⟨0, rfl, Nat.zero_le _, rfl, Lib.hid (fun j hj => by omega)⟩
      case round =>
        obtain ⟨j, rfl, hj, rfl, HI⟩ := hrel
        by_cases hjl : j < k
        · obtain ⟨y, hy⟩ : ∃ y, ts[j]? = some y := ⟨_, List.getElem?_eq_getElem (by have := HN.out; omega)⟩
          have hyo : TxOk y := HS.out.ok y (List.mem_of_getElem? hy)
          have c1 := HC.out j y hy
          have q := st_eqc HXO.out.1 hyo.1
          rw [← HXX.out] at q
          have j3 : (j : Int) < (k : Int) := by omega
          have HY := Lib.hid hy
          obtain ⟨Y, hY⟩ : ∃ Y, Y = st y := ⟨_, rfl⟩
          rw [← hY] at c1 q
          clear hyo hy hY
          by_cases he : x = y
          · rw [decide_eq_true he] at q
            have HF : Hid (10 = V) := Lib.hid (by rw [HV.out, err, if_neg (by have := HN.out; omega), if_neg (not_nodup hjl (he ▸ HY.out) HX.out)])
            clear he
            go_wp2_with fail
            go_ret
            exact ⟨by rw [← HF.out]; rfl, HK.out⟩
          · rw [decide_eq_false he] at q
            have HI2 : Hid (∀ i, i < j + 1 → ts[i]? ≠ some x) := Lib.hid (fun i hi => by
              by_cases hjk : i = j
              · subst hjk; rw [HY.out]; intro e; injection e with e; exact he e.symm
              · exact HI.out i (by omega))
            clear he
            go_wp2_with fail
            go_roundw
            case rel => exact ⟨j + 1, by go_num, by omega, by first | trivial | rfl, HI2⟩
            case measure => simp [intOf]; omega
        · obtain rfl : j = k := by omega
          have HJ2 : Hid ((ts.take (j + 1)).Nodup) := Lib.hid (nodup_snoc HJ.out HX.out HI.out)
          clear hjl
          go_wp2_with fail
          go_roundw
          case rel => exact ⟨j + 1, by go_num, by omega, by first | trivial | rfl, HJ2⟩
          case measure => simp [intOf]; omega
    · obtain rfl : k = n := by omega
      have HF : Hid (0 = V) := Lib.hid (by
        have h2 : ts.Nodup := by have := HJ.out; rwa [List.take_of_length_le (by have := HN.out; omega)] at this
        rw [HV.out]
        exact (err_ok.2 ⟨by have := HN.out; omega, h2⟩).symm)
      clear hlt
      go_wp2_with fail
      go_ret
      exact ⟨by rw [← HF.out]; rfl, HK.out⟩
end By
end Go.Proofs.Ytlfoikjbbbhbdaa

/- Comparisons of lists, and the reference's Find and Get. Condition: at most a million texts. -/
namespace Go.Proofs.Ytlfoikjbbbhbdaa
namespace By
open Go.RowKit WireN CtN
set_option linter.unusedVariables false
set_option linter.unusedSimpArgs false

set_option maxRecDepth 100000 in
set_option maxHeartbeats 4000000 in
theorem rSameT_any {va vb : Value} {ks ls : List Tx} {w : World} (ha : Tw w va ks) (hb : Tw w vb ls) (hk : ks.length ≤ 1000000) :
    Calls Try.prog 15 #[.agg #[va], .agg #[vb]] w fun e w' => e = .returned (.bool (decide (ks = ls))) ∧ Kp w w' := by
  obtain ⟨ao, ac, rfl, h1, -, -⟩ := ha.open3
  obtain ⟨bo, bc, rfl, h2, -, -⟩ := hb.open3
  obtain ⟨n, hn⟩ : ∃ n, n = ks.length := ⟨_, rfl⟩
  obtain ⟨m, hm⟩ : ∃ m, m = ls.length := ⟨_, rfl⟩
  rw [← hn] at ha h1 hk ⊢
  rw [← hm] at hb h2 ⊢
  obtain ⟨W, hW⟩ : ∃ W, W = (w.alloc (.cells #[.slice ao n ac] 25)).alloc (.cells #[.slice bo m bc] 25) := ⟨_, rfl⟩
  have hk0 : Kp w W := by rw [hW]; exact Kp.alloc (kp_alloc _ _) _
  have b1 : Blk W w.heap.size 25 #[.slice ao n ac] := by rw [hW]; exact (Blk.new _ _ _).keep (kp_alloc _ _)
  have b2 : Blk W (w.heap.size + 1) 25 #[.slice bo m bc] := by
    have := Blk.new (w.alloc (.cells #[.slice ao n ac] 25)) 25 #[.slice bo m bc]
    rw [hW]
    simpa using this
  have HA := Lib.hid (ha.keep hk0); have HB := Lib.hid (hb.keep hk0); have HN := Lib.hid hn; have HM := Lib.hid hm; have HK := Lib.hid hk0; have HW := Lib.hid hW; have HB1 := Lib.hid b1; have HB2 := Lib.hid b2
  obtain ⟨V, hV⟩ : ∃ V, V = decide (ks = ls) := ⟨_, rfl⟩
  rw [← hV]
  have HV := Lib.hid hV
  have i1 : (n : Int) ≤ (ac : Int) := by omega
  have i2 : (m : Int) ≤ (bc : Int) := by omega
  have i3 : (n : Int) ≤ 1000000 := by omega
  clear ha hb hn hm hV h1 h2 hk0 hW b1 b2
  by_cases hnm : n = m
  · subst hnm
    go_enter Try.func15, Try.ntmps15
    go_wp2_with fail
    rw [← HW.out]
    go_loopw [16] (fun i wr => ∃ k : Nat, i = .int .i64 (k : Nat) ∧ k ≤ n ∧ (∀ j, j < k → ks[j]? = ls[j]?) ∧ Kp W wr) (fun i _ => n - (intOf i).toNat)
    case atStart => exact ⟨0, rfl, Nat.zero_le _, fun j hj => by omega, Kp.refl _⟩
    case round =>
      obtain ⟨k, rfl, hkn, hall, hkp⟩ := hrel
      rename World => wx
      have HALL := Lib.hid hall; have HKP := Lib.hid hkp
      have c8 := (HB1.out.keep hkp).cell 0 rfl
      have c9 := (HB2.out.keep hkp).cell 0 rfl
      by_cases hlt : k < n
      · have hki : (k : Int) < (n : Int) := by omega
        obtain ⟨x, hx⟩ : ∃ x, ks[k]? = some x := ⟨_, List.getElem?_eq_getElem (by have := HN.out; omega)⟩
        obtain ⟨y, hy⟩ : ∃ y, ls[k]? = some y := ⟨_, List.getElem?_eq_getElem (by have := HM.out; omega)⟩
        obtain ⟨q1, o1, rfl, e1⟩ := (HA.out.keep hkp).cell (by omega)
        obtain ⟨q2, o2, rfl, e2⟩ := (HB.out.keep hkp).cell (by omega)
        have c0 := e1 k x hx
        have d0 := e2 k y hy
        have q := st_eqc (HA.out.ok x (List.mem_of_getElem? hx)).1 (HB.out.ok y (List.mem_of_getElem? hy)).1
        obtain ⟨X, hX⟩ : ∃ X, X = st x := ⟨_, rfl⟩
        obtain ⟨Y, hY⟩ : ∃ Y, Y = st y := ⟨_, rfl⟩
        rw [← hX] at c0 q
        rw [← hY] at d0 q
        by_cases he : x = y
        · rw [decide_eq_true he] at q
          have HNX : Hid ((∀ j, j < k + 1 → ks[j]? = ls[j]?) ∧ Kp W wx.drew) := Lib.hid ⟨fun j hj => by
            by_cases e : j = k
            · rw [e, hx, hy, he]
            · exact HALL.out j (by omega), Kp.trans hkp (kp_drew _)⟩
          clear hx hy e1 e2 hall hkp hX hY he
          go_wp2_with fail
          go_region
          go_wp2_with fail
          go_roundw
          case rel => exact ⟨k + 1, by go_num, by omega, HNX.out⟩
          case measure => simp [intOf]; omega
        · rw [decide_eq_false he] at q
          have HF : Hid (V = false) := Lib.hid (by
            rw [HV.out, decide_eq_false_iff_not]
            intro e
            rw [e, hy] at hx
            exact he (by injection hx with h; exact h.symm))
          have HKD := Lib.hid (Kp.trans HK.out (Kp.trans hkp (kp_drew wx)))
          clear hx hy e1 e2 he hall hkp hX hY
          go_wp2_with fail
          go_region
          go_wp2_with fail
          go_ret
          exact ⟨ret_bool HF.out.symm, HKD.out⟩
      · obtain rfl : k = n := by omega
        have HT : Hid (V = true) := Lib.hid (by
          rw [HV.out, decide_eq_true_eq]
          refine List.ext_getElem? fun j => ?_
          by_cases hj : j < k
          · exact HALL.out j hj
          · rw [List.getElem?_eq_none (by have := HN.out; omega), List.getElem?_eq_none (by have := HM.out; omega)])
        have HKD := Lib.hid (Kp.trans HK.out hkp)
        clear hall hkp hlt
        go_wp2_with fail
        go_ret
        exact ⟨ret_bool HT.out.symm, HKD.out⟩
  · have HF : Hid (V = false) := Lib.hid (by
      rw [HV.out, decide_eq_false_iff_not]
      intro e
      exact hnm (by rw [HN.out, HM.out, e]))
    have hb : ((n : Int) == (m : Int)) = false := beq_eq_false_iff_ne.2 (by omega)
    clear hnm
    go_enter Try.func15, Try.ntmps15
    go_wp2_with fail
    go_ret
    exact ⟨ret_bool HF.out.symm, by first | exact HK.out | (rw [← HW.out]; exact HK.out)⟩
end By
end Go.Proofs.Ytlfoikjbbbhbdaa

/- The maker's comparisons of lists. Condition: at most a million members. -/
namespace Go.Proofs.Ytlfoikjbbbhbdaa
namespace By
open Go.RowKit WireN CtN
set_option linter.unusedVariables false
set_option linter.unusedSimpArgs false

set_option maxRecDepth 100000 in
set_option maxHeartbeats 4000000 in
theorem SameTexts_any {va vb : Value} {ks ls : List Tx} {w : World} (ha : Tw w va ks) (hb : Tw w vb ls) (hk : ks.length ≤ 1000000) :
    Calls Try.prog 30 #[va, vb] w fun e w' => e = .returned (.bool (decide (ks = ls))) ∧ Kp w w' := by
  obtain ⟨ao, ac, rfl, h1, -, -⟩ := ha.open3
  obtain ⟨bo, bc, rfl, h2, -, -⟩ := hb.open3
  obtain ⟨n, hn⟩ : ∃ n, n = ks.length := ⟨_, rfl⟩
  obtain ⟨m, hm⟩ : ∃ m, m = ls.length := ⟨_, rfl⟩
  rw [← hn] at ha h1 hk ⊢
  rw [← hm] at hb h2 ⊢
  have HA := Lib.hid ha; have HB := Lib.hid hb; have HN := Lib.hid hn; have HM := Lib.hid hm
  obtain ⟨V, hV⟩ : ∃ V, V = decide (ks = ls) := ⟨_, rfl⟩
  rw [← hV]
  have HV := Lib.hid hV
  have i1 : (n : Int) ≤ (ac : Int) := by omega
  have i2 : (m : Int) ≤ (bc : Int) := by omega
  have i3 : (n : Int) ≤ 1000000 := by omega
  clear ha hb hn hm hV h1 h2
  by_cases hnm : n = m
  · subst hnm
    go_enter Try.func30, Try.ntmps30
    go_wp2_with fail
    go_loopw [5] (fun i wr => ∃ k : Nat, i = .int .i64 (k : Nat) ∧ k ≤ n ∧ (∀ j, j < k → ks[j]? = ls[j]?) ∧ Kp w wr) (fun i _ => n - (intOf i).toNat)
    case atStart => exact ⟨0, rfl, Nat.zero_le _, fun j hj => by omega, Kp.refl _⟩
    case round =>
      obtain ⟨k, rfl, hkn, hall, hkp⟩ := hrel
      rename World => wx
      have HALL := Lib.hid hall; have HKP := Lib.hid hkp
      by_cases hlt : k < n
      · have hki : (k : Int) < (n : Int) := by omega
        obtain ⟨x, hx⟩ : ∃ x, ks[k]? = some x := ⟨_, List.getElem?_eq_getElem (by have := HN.out; omega)⟩
        obtain ⟨y, hy⟩ : ∃ y, ls[k]? = some y := ⟨_, List.getElem?_eq_getElem (by have := HM.out; omega)⟩
        obtain ⟨q1, o1, rfl, e1⟩ := (HA.out.keep hkp).cell (by omega)
        obtain ⟨q2, o2, rfl, e2⟩ := (HB.out.keep hkp).cell (by omega)
        have c0 := e1 k x hx
        have d0 := e2 k y hy
        have q := st_eqc (HA.out.ok x (List.mem_of_getElem? hx)).1 (HB.out.ok y (List.mem_of_getElem? hy)).1
        obtain ⟨X, hX⟩ : ∃ X, X = st x := ⟨_, rfl⟩
        obtain ⟨Y, hY⟩ : ∃ Y, Y = st y := ⟨_, rfl⟩
        rw [← hX] at c0 q
        rw [← hY] at d0 q
        by_cases he : x = y
        · rw [decide_eq_true he] at q
          have HNX : Hid ((∀ j, j < k + 1 → ks[j]? = ls[j]?) ∧ Kp w wx.drew) := Lib.hid ⟨fun j hj => by
            by_cases e : j = k
            · rw [e, hx, hy, he]
            · exact HALL.out j (by omega), Kp.trans hkp (kp_drew _)⟩
          clear hx hy e1 e2 hall hkp hX hY he
          go_wp2_with fail
          go_region
          go_wp2_with fail
          go_roundw
          case rel => exact ⟨k + 1, by go_num, by omega, HNX.out⟩
          case measure => simp [intOf]; omega
        · rw [decide_eq_false he] at q
          have HF : Hid (V = false) := Lib.hid (by
            rw [HV.out, decide_eq_false_iff_not]
            intro e
            rw [e, hy] at hx
            exact he (by injection hx with h; exact h.symm))
          have HKD := Lib.hid (Kp.trans hkp (kp_drew wx))
          clear hx hy e1 e2 he hall hkp hX hY
          go_wp2_with fail
          go_region
          go_wp2_with fail
          go_ret
          exact ⟨ret_bool HF.out.symm, HKD.out⟩
      · obtain rfl : k = n := by omega
        have HT : Hid (V = true) := Lib.hid (by
          rw [HV.out, decide_eq_true_eq]
          refine List.ext_getElem? fun j => ?_
          by_cases hj : j < k
          · exact HALL.out j hj
          · rw [List.getElem?_eq_none (by have := HN.out; omega), List.getElem?_eq_none (by have := HM.out; omega)])
        clear hall hkp hlt
        go_wp2_with fail
        go_ret
        exact ⟨ret_bool HT.out.symm, HKP.out⟩
  · have HF : Hid (V = false) := Lib.hid (by
      rw [HV.out, decide_eq_false_iff_not]
      intro e
      exact hnm (by rw [HN.out, HM.out, e]))
    have hb : ((n : Int) == (m : Int)) = false := beq_eq_false_iff_ne.2 (by omega)
    clear hnm
    go_enter Try.func30, Try.ntmps30
    go_wp2_with fail
    go_ret
    exact ⟨ret_bool HF.out.symm, Kp.refl _⟩
set_option maxRecDepth 100000 in
set_option maxHeartbeats 4000000 in
theorem SameTexts_d {va vb : Value} {ks ls : List Tx} {w : World} (ha : Tw w va ks) (hb : Tw w vb ls) (hk : ks.length ≤ 1000000) :
    Calls Try.prog 30 #[va, vb] w fun e w' => e = .returned (.bool (decide (ks = ls))) ∧ ∃ d, w' = w.drewN d := by
  obtain ⟨ao, ac, rfl, h1, -, -⟩ := ha.open3
  obtain ⟨bo, bc, rfl, h2, -, -⟩ := hb.open3
  obtain ⟨n, hn⟩ : ∃ n, n = ks.length := ⟨_, rfl⟩
  obtain ⟨m, hm⟩ : ∃ m, m = ls.length := ⟨_, rfl⟩
  rw [← hn] at ha h1 hk ⊢
  rw [← hm] at hb h2 ⊢
  have HA := Lib.hid ha; have HB := Lib.hid hb; have HN := Lib.hid hn; have HM := Lib.hid hm
  obtain ⟨V, hV⟩ : ∃ V, V = decide (ks = ls) := ⟨_, rfl⟩
  rw [← hV]
  have HV := Lib.hid hV
  have i1 : (n : Int) ≤ (ac : Int) := by omega
  have i2 : (m : Int) ≤ (bc : Int) := by omega
  have i3 : (n : Int) ≤ 1000000 := by omega
  clear ha hb hn hm hV h1 h2
  by_cases hnm : n = m
  · subst hnm
    go_enter Try.func30, Try.ntmps30
    go_wp2_with fail
    go_loopw [5] (fun i wr => ∃ k : Nat, i = .int .i64 (k : Nat) ∧ k ≤ n ∧ (∀ j, j < k → ks[j]? = ls[j]?) ∧ ∃ d, wr = w.drewN d) (fun i _ => n - (intOf i).toNat)
    case atStart => exact ⟨0, rfl, Nat.zero_le _, fun j hj => by omega, 0, rfl⟩
    case round =>
      obtain ⟨k, rfl, hkn, hall, d, hd⟩ := hrel
      rename World => wx
      have hkp : Kp w wx := by rw [hd]; exact Kp.drewN w d
      have HDD := Lib.hid hd
      clear hd
      have HALL := Lib.hid hall; have HKP := Lib.hid hkp
      by_cases hlt : k < n
      · have hki : (k : Int) < (n : Int) := by omega
        obtain ⟨x, hx⟩ : ∃ x, ks[k]? = some x := ⟨_, List.getElem?_eq_getElem (by have := HN.out; omega)⟩
        obtain ⟨y, hy⟩ : ∃ y, ls[k]? = some y := ⟨_, List.getElem?_eq_getElem (by have := HM.out; omega)⟩
        obtain ⟨q1, o1, rfl, e1⟩ := (HA.out.keep hkp).cell (by omega)
        obtain ⟨q2, o2, rfl, e2⟩ := (HB.out.keep hkp).cell (by omega)
        have c0 := e1 k x hx
        have d0 := e2 k y hy
        have q := st_eqc (HA.out.ok x (List.mem_of_getElem? hx)).1 (HB.out.ok y (List.mem_of_getElem? hy)).1
        obtain ⟨X, hX⟩ : ∃ X, X = st x := ⟨_, rfl⟩
        obtain ⟨Y, hY⟩ : ∃ Y, Y = st y := ⟨_, rfl⟩
        rw [← hX] at c0 q
        rw [← hY] at d0 q
        by_cases he : x = y
        · rw [decide_eq_true he] at q
          have HNX : Hid ((∀ j, j < k + 1 → ks[j]? = ls[j]?) ∧ ∃ d, wx.drew = w.drewN d) := Lib.hid ⟨fun j hj => by
            by_cases e : j = k
            · rw [e, hx, hy, he]
            · exact HALL.out j (by omega), d + 1, by rw [HDD.out]; rfl⟩
          clear hx hy e1 e2 hall hkp hX hY he
          go_wp2_with fail
          go_region
          go_wp2_with fail
          go_roundw
          case rel => exact ⟨k + 1, by go_num, by omega, HNX.out⟩
          case measure => simp [intOf]; omega
        · rw [decide_eq_false he] at q
          have HF : Hid (V = false) := Lib.hid (by
            rw [HV.out, decide_eq_false_iff_not]
            intro e
            rw [e, hy] at hx
            exact he (by injection hx with h; exact h.symm))
          have HKD : Hid (∃ d, wx.drew = w.drewN d) := Lib.hid ⟨d + 1, by rw [HDD.out]; rfl⟩
          clear hx hy e1 e2 he hall hkp hX hY
          go_wp2_with fail
          go_region
          go_wp2_with fail
          go_ret
          exact ⟨ret_bool HF.out.symm, HKD.out⟩
      · obtain rfl : k = n := by omega
        have HT : Hid (V = true) := Lib.hid (by
          rw [HV.out, decide_eq_true_eq]
          refine List.ext_getElem? fun j => ?_
          by_cases hj : j < k
          · exact HALL.out j hj
          · rw [List.getElem?_eq_none (by have := HN.out; omega), List.getElem?_eq_none (by have := HM.out; omega)])
        clear hall hkp hlt
        go_wp2_with fail
        go_ret
        exact ⟨ret_bool HT.out.symm, d, HDD.out⟩
  · have HF : Hid (V = false) := Lib.hid (by
      rw [HV.out, decide_eq_false_iff_not]
      intro e
      exact hnm (by rw [HN.out, HM.out, e]))
    have hb : ((n : Int) == (m : Int)) = false := beq_eq_false_iff_ne.2 (by omega)
    clear hnm
    go_enter Try.func30, Try.ntmps30
    go_wp2_with fail
    go_ret
    exact ⟨ret_bool HF.out.symm, 0, rfl⟩
set_option maxRecDepth 100000 in
set_option maxHeartbeats 4000000 in
theorem SameInts_any {va vb : Value} {ks ls : List Int} {w : World} (ha : Jw w va ks) (hb : Jw w vb ls) (hk : ks.length ≤ 1000000) :
    Calls Try.prog 21 #[va, vb] w fun e w' => e = .returned (.bool (decide (ks = ls))) ∧ Kp w w' := by
  obtain ⟨ao, ac, rfl, h1, -, -⟩ := ha.open3
  obtain ⟨bo, bc, rfl, h2, -, -⟩ := hb.open3
  obtain ⟨n, hn⟩ : ∃ n, n = ks.length := ⟨_, rfl⟩
  obtain ⟨m, hm⟩ : ∃ m, m = ls.length := ⟨_, rfl⟩
  rw [← hn] at ha h1 hk ⊢
  rw [← hm] at hb h2 ⊢
  have HA := Lib.hid ha; have HB := Lib.hid hb; have HN := Lib.hid hn; have HM := Lib.hid hm
  obtain ⟨V, hV⟩ : ∃ V, V = decide (ks = ls) := ⟨_, rfl⟩
  rw [← hV]
  have HV := Lib.hid hV
  have i1 : (n : Int) ≤ (ac : Int) := by omega
  have i2 : (m : Int) ≤ (bc : Int) := by omega
  have i3 : (n : Int) ≤ 1000000 := by omega
  clear ha hb hn hm hV h1 h2
  by_cases hnm : n = m
  · subst hnm
    go_enter Try.func21, Try.ntmps21
    go_wp2_with fail
    go_loopw [5] (fun i wr => ∃ k : Nat, i = .int .i64 (k : Nat) ∧ k ≤ n ∧ (∀ j, j < k → ks[j]? = ls[j]?) ∧ Kp w wr) (fun i _ => n - (intOf i).toNat)
    case atStart => exact ⟨0, rfl, Nat.zero_le _, fun j hj => by omega, Kp.refl _⟩
    case round =>
      obtain ⟨k, rfl, hkn, hall, hkp⟩ := hrel
      rename World => wx
      have HALL := Lib.hid hall; have HKP := Lib.hid hkp
      by_cases hlt : k < n
      · have hki : (k : Int) < (n : Int) := by omega
        obtain ⟨x, hx⟩ : ∃ x, ks[k]? = some x := ⟨_, List.getElem?_eq_getElem (by have := HN.out; omega)⟩
        obtain ⟨y, hy⟩ : ∃ y, ls[k]? = some y := ⟨_, List.getElem?_eq_getElem (by have := HM.out; omega)⟩
        obtain ⟨q1, o1, rfl, e1⟩ := (HA.out.keep hkp).cell (by omega)
        obtain ⟨q2, o2, rfl, e2⟩ := (HB.out.keep hkp).cell (by omega)
        have c0 := e1 k x hx
        have d0 := e2 k y hy
        have hxo := HA.out.ok x (List.mem_of_getElem? hx)
        by_cases he : x = y
        · have q : (x == y) = true := beq_iff_eq.2 he
          have HNX : Hid ((∀ j, j < k + 1 → ks[j]? = ls[j]?) ∧ Kp w wx.drew) := Lib.hid ⟨fun j hj => by
            by_cases e : j = k
            · rw [e, hx, hy, he]
            · exact HALL.out j (by omega), Kp.trans hkp (kp_drew _)⟩
          clear hx hy e1 e2 hall hkp hxo he
          go_wp2_with fail
          go_region
          go_wp2_with fail
          go_roundw
          case rel => exact ⟨k + 1, by go_num, by omega, HNX.out⟩
          case measure => simp [intOf]; omega
        · have q : (x == y) = false := beq_eq_false_iff_ne.2 he
          have HF : Hid (V = false) := Lib.hid (by
            rw [HV.out, decide_eq_false_iff_not]
            intro e
            rw [e, hy] at hx
            exact he (by injection hx with h; exact h.symm))
          have HKD := Lib.hid (Kp.trans hkp (kp_drew wx))
          clear hx hy e1 e2 he hall hkp hxo
          go_wp2_with fail
          go_region
          go_wp2_with fail
          go_ret
          exact ⟨ret_bool HF.out.symm, HKD.out⟩
      · obtain rfl : k = n := by omega
        have HT : Hid (V = true) := Lib.hid (by
          rw [HV.out, decide_eq_true_eq]
          refine List.ext_getElem? fun j => ?_
          by_cases hj : j < k
          · exact HALL.out j hj
          · rw [List.getElem?_eq_none (by have := HN.out; omega), List.getElem?_eq_none (by have := HM.out; omega)])
        clear hall hkp hlt
        go_wp2_with fail
        go_ret
        exact ⟨ret_bool HT.out.symm, HKP.out⟩
  · have HF : Hid (V = false) := Lib.hid (by
      rw [HV.out, decide_eq_false_iff_not]
      intro e
      exact hnm (by rw [HN.out, HM.out, e]))
    have hb : ((n : Int) == (m : Int)) = false := beq_eq_false_iff_ne.2 (by omega)
    clear hnm
    go_enter Try.func21, Try.ntmps21
    go_wp2_with fail
    go_ret
    exact ⟨ret_bool HF.out.symm, Kp.refl _⟩
set_option maxRecDepth 100000 in
set_option maxHeartbeats 1000000 in
theorem HasInt_t {w : World} {v : Value} {ts : List Int} (hs : Jw w v ts) (hn2 : ts.length ≤ 1000000) (x : Int) :
    Calls Try.prog 31 #[v, .int .i64 x] w fun e w' => e = .returned (.bool (decide (x ∈ ts))) ∧ w = w' := by
  obtain ⟨ao, cap, rfl, hcap, -, -⟩ := hs.open3
  obtain ⟨n, hn⟩ : ∃ n, n = ts.length := ⟨_, rfl⟩
  rw [← hn] at hs hn2 hcap ⊢
  obtain ⟨V, hV⟩ : ∃ V, V = decide (x ∈ ts) := ⟨_, rfl⟩
  rw [← hV]
  have HS := Lib.hid hs; have HN := Lib.hid hn; have HV := Lib.hid hV
  have i1 : (n : Int) ≤ (cap : Int) := by omega
  have i2 : (n : Int) ≤ 1000000 := by omega
  clear hs hn hV hcap hn2
  go_enter Try.func31, Try.ntmps31
  go_wp2_with fail
  go_loopw [5] (fun i wr => ∃ k : Nat, i = .int .i64 (k : Nat) ∧ k ≤ n ∧ w = wr ∧ Hid (∀ j, j < k → ts[j]? ≠ some x)) (fun i _ => n - (intOf i).toNat)
  case atStart => exact ⟨0, rfl, Nat.zero_le _, rfl, Lib.hid (fun j hj => by omega)⟩
  case round =>
    obtain ⟨k, rfl, hk, rfl, HJ⟩ := hrel
    by_cases hlt : k < n
    · obtain ⟨y, hy⟩ : ∃ y, ts[k]? = some y := ⟨_, List.getElem?_eq_getElem (by have := HN.out; omega)⟩
      obtain ⟨b, off, rfl, hcell⟩ := HS.out.cell (by omega)
      have c0 := hcell k y hy
      have j1 : (k : Int) < (n : Int) := by omega
      have HY := Lib.hid hy
      clear hcell hy
      by_cases he : y = x
      · have q : (y == x) = true := beq_iff_eq.2 he
        have HF : Hid (true = V) := Lib.hid (by rw [HV.out]; exact (decide_eq_true (he ▸ List.mem_of_getElem? HY.out)).symm)
        clear he
        go_wp2_with fail
        go_ret
        exact ⟨ret_bool HF.out, rfl⟩
      · have q : (y == x) = false := beq_eq_false_iff_ne.2 he
        have HJ2 : Hid (∀ j, j < k + 1 → ts[j]? ≠ some x) := Lib.hid (fun j hj => by
          by_cases hjk : j = k
          · subst hjk; rw [HY.out]; intro e; injection e with e; exact he e
          · exact HJ.out j (by omega))
        clear he
        go_wp2_with fail
        go_roundw
        case rel => exact ⟨k + 1, by go_num, by omega, by first | trivial | rfl, HJ2⟩
        case measure => simp [intOf]; omega
    · obtain rfl : k = n := by omega
      have HF : Hid (false = V) := Lib.hid (by
        rw [HV.out]
        refine (decide_eq_false fun hm => ?_).symm
        obtain ⟨j, hj, e⟩ := List.getElem_of_mem hm
        exact HJ.out j (by have := HN.out; omega) (by rw [List.getElem?_eq_getElem hj, e]))
      clear hlt
      go_wp2_with fail
      go_ret
      exact ⟨ret_bool HF.out, rfl⟩
end By
end Go.Proofs.Ytlfoikjbbbhbdaa
