/- The reference's Check of a store. Condition: the slice is not longer than a slice can be. -/
import Derived.Test.YtlfoikjbbbhbdaaCtA
namespace Go.Proofs.Ytlfoikjbbbhbdaa
namespace By
open Go.RowKit WireN CtN
set_option linter.unusedVariables false
set_option linter.unusedSimpArgs false

theorem nodup_snoc {ts : List Tx} {k : Nat} {x : Tx} (h : (ts.take k).Nodup) (hx : ts[k]? = some x) (hn : ∀ j, j < k → ts[j]? ≠ some x) : (ts.take (k + 1)).Nodup := by
  rw [List.take_add_one, hx]
  show (ts.take k ++ [x]).Nodup
  rw [List.nodup_append]
  refine ⟨h, by simp, fun a ha b hb e => ?_⟩
  obtain rfl : b = x := by simpa using hb
  subst e
  obtain ⟨j, hj, e⟩ := List.getElem_of_mem ha
  rw [List.length_take] at hj
  refine hn j (by omega) ?_
  rw [List.getElem_take] at e
  rw [List.getElem?_eq_getElem (by omega), e]
theorem not_nodup {ts : List Tx} {j k : Nat} {x : Tx} (hjk : j < k) (h1 : ts[j]? = some x) (h2 : ts[k]? = some x) : ¬ ts.Nodup := fun hd => by
  have a := fnd_nodup hd h1
  have b := fnd_nodup hd h2
  omega
set_option maxRecDepth 100000 in
set_option maxHeartbeats 1000000 in
theorem rCheckT_any {w : World} {v : Value} {ts : List Tx} (hs : Tw w v ts) :
    Calls Try.prog 10 #[.agg #[v]] w fun e w' => e = .returned (.int .i64 (err ts : Nat)) ∧ Kp w w' := by
  obtain ⟨ao, cap, rfl, hcap, hmx, -⟩ := hs.open3
  obtain ⟨n, hn⟩ : ∃ n, n = ts.length := ⟨_, rfl⟩
  rw [← hn] at hs hcap ⊢
  obtain ⟨V, hV⟩ : ∃ V, V = err ts := ⟨_, rfl⟩
  rw [← hV]
  obtain ⟨W, hW⟩ : ∃ W, W = w.alloc (.cells #[.slice ao n cap] 25) := ⟨_, rfl⟩
  have hk0 : Kp w W := by rw [hW]; exact kp_alloc _ _
  have hb0 : Blk W w.heap.size 25 #[.slice ao n cap] := by rw [hW]; exact Blk.new _ _ _
  have HS := Lib.hid (hs.keep hk0); have HN := Lib.hid hn; have HV := Lib.hid hV; have HW := Lib.hid hW; have HK := Lib.hid hk0
  have c8 := hb0.cell 0 rfl
  have i1 : (n : Int) ≤ (cap : Int) := by omega
  clear hs hn hV hW hk0 hb0
  by_cases hbig : 4096 < n
  · have HF : Hid (2 = V) := Lib.hid (by rw [HV.out, err, if_pos (by have := HN.out; omega)])
    have j0 : (4096 : Int) < (n : Int) := by omega
    clear hbig hcap hmx
    go_enter Try.func10, Try.ntmps10
    go_wp2_with fail
    go_ret
    exact ⟨by rw [← HF.out]; rfl, by first | exact HK.out | (rw [← HW.out]; exact HK.out)⟩
  have i2 : (n : Int) ≤ 4096 := by omega
  clear hbig hcap hmx
  go_enter Try.func10, Try.ntmps10
  go_wp2_with fail
  rw [← HW.out]
  go_loopw [14] (fun i wr => ∃ k : Nat, i = .int .i64 (k : Nat) ∧ k ≤ n ∧ W = wr ∧ Hid ((ts.take k).Nodup)) (fun i _ => n - (intOf i).toNat)
  case atStart => exact ⟨0, rfl, Nat.zero_le _, rfl, Lib.hid (by simp)⟩
  case round =>
    obtain ⟨k, rfl, hk, rfl, HJ⟩ := hrel
    by_cases hlt : k < n
    · obtain ⟨x, hx⟩ : ∃ x, ts[k]? = some x := ⟨_, List.getElem?_eq_getElem (by have := HN.out; omega)⟩
      have hxo : TxOk x := HS.out.ok x (List.mem_of_getElem? hx)
      obtain ⟨b, off, rfl, hcell⟩ := HS.out.cell (by omega)
      have c0 := hcell k x hx
      have j1 : (k : Int) < (n : Int) := by omega
      have j2 : (k : Int) ≤ (cap : Int) := by omega
      have HX := Lib.hid hx; have HXO := Lib.hid hxo; have HC := Lib.hid hcell
      obtain ⟨X, hX⟩ : ∃ X, X = st x := ⟨_, rfl⟩
      rw [← hX] at c0
      have HXX := Lib.hid hX
      clear hcell hxo hx hX
      go_wp2_with fail
      go_loopw [24] (fun i wr => ∃ j : Nat, i = .int .i64 (j : Nat) ∧ j ≤ k ∧ W = wr ∧ Hid (∀ i, i < j → ts[i]? ≠ some x)) (fun i _ => k - (intOf i).toNat)
      case atStart => exact ⟨0, rfl, Nat.zero_le _, rfl, Lib.hid (fun j hj => by omega)⟩
      case round =>
        obtain ⟨j, rfl, hj, rfl, HI⟩ := hrel
        by_cases hjl : j < k
        · obtain ⟨y, hy⟩ : ∃ y, ts[j]? = some y := ⟨_, List.getElem?_eq_getElem (by have := HN.out; omega)⟩
          have hyo : TxOk y := HS.out.ok y (List.mem_of_getElem? hy)
          have c1 := HC.out j y hy
          have q := st_eqc HXO.out.1 hyo.1
          rw [← HXX.out] at q
          have j3 : (j : Int) < (k : Int) := by omega
          have HY := Lib.hid hy
          obtain ⟨Y, hY⟩ : ∃ Y, Y = st y := ⟨_, rfl⟩
          rw [← hY] at c1 q
          clear hyo hy hY
          by_cases he : x = y
          · rw [decide_eq_true he] at q
            have HF : Hid (10 = V) := Lib.hid (by rw [HV.out, err, if_neg (by have := HN.out; omega), if_neg (not_nodup hjl (he ▸ HY.out) HX.out)])
            clear he
            go_wp2_with fail
            go_ret
            exact ⟨by rw [← HF.out]; rfl, HK.out⟩
          · rw [decide_eq_false he] at q
            have HI2 : Hid (∀ i, i < j + 1 → ts[i]? ≠ some x) := Lib.hid (fun i hi => by
              by_cases hjk : i = j
              · subst hjk; rw [HY.out]; intro e; injection e with e; exact he e.symm
              · exact HI.out i (by omega))
            clear he
            go_wp2_with fail
            go_roundw
            case rel => exact ⟨j + 1, by go_num, by omega, by first | trivial | rfl, HI2⟩
            case measure => simp [intOf]; omega
        · obtain rfl : j = k := by omega
          have HJ2 : Hid ((ts.take (j + 1)).Nodup) := Lib.hid (nodup_snoc HJ.out HX.out HI.out)
          clear hjl
          go_wp2_with fail
          go_roundw
          case rel => exact ⟨j + 1, by go_num, by omega, by first | trivial | rfl, HJ2⟩
          case measure => simp [intOf]; omega
    · obtain rfl : k = n := by omega
      have HF : Hid (0 = V) := Lib.hid (by
        have h2 : ts.Nodup := by have := HJ.out; rwa [List.take_of_length_le (by have := HN.out; omega)] at this
        rw [HV.out]
        exact (err_ok.2 ⟨by have := HN.out; omega, h2⟩).symm)
      clear hlt
      go_wp2_with fail
      go_ret
      exact ⟨by rw [← HF.out]; rfl, HK.out⟩
end By
end Go.Proofs.Ytlfoikjbbbhbdaa
