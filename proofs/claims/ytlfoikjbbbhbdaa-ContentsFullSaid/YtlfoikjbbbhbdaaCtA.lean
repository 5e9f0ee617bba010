/- Whether a text is in a list, the reference's number of a text, and its comparison of stores. Condition: at most a million texts. -/
import Derived.Test.YtlfoikjbbbhbdaaCtM
namespace Go.Proofs.Ytlfoikjbbbhbdaa
namespace By
open Go.RowKit WireN CtN
set_option linter.unusedVariables false
set_option linter.unusedSimpArgs false

set_option maxRecDepth 100000 in
set_option maxHeartbeats 1000000 in
theorem Has_t {w : World} {v : Value} {ts : List Tx} (hs : Tw w v ts) (hn2 : ts.length ≤ 1000000) {x : Tx} (hx : Lt x) :
    Calls Try.prog 35 #[v, .string (st x)] w fun e w' => e = .returned (.bool (decide (x ∈ ts))) ∧ w = w' := by
  obtain ⟨ao, cap, rfl, hcap, -, -⟩ := hs.open3
  obtain ⟨n, hn⟩ : ∃ n, n = ts.length := ⟨_, rfl⟩
  rw [← hn] at hs hn2 hcap ⊢
  obtain ⟨V, hV⟩ : ∃ V, V = decide (x ∈ ts) := ⟨_, rfl⟩
  rw [← hV]
  have HS := Lib.hid hs; have HN := Lib.hid hn; have HV := Lib.hid hV; have HX := Lib.hid hx
  have i1 : (n : Int) ≤ (cap : Int) := by omega
  have i2 : (n : Int) ≤ 1000000 := by omega
  obtain ⟨X, hX⟩ : ∃ X, X = st x := ⟨_, rfl⟩
  rw [← hX]
  have HXX := Lib.hid hX
  clear hs hn hV hcap hn2 hx hX
  go_enter Try.func35, Try.ntmps35
  go_wp2_with fail
  go_loopw [5] (fun i wr => ∃ k : Nat, i = .int .i64 (k : Nat) ∧ k ≤ n ∧ wr = w ∧ Hid (∀ j, j < k → ts[j]? ≠ some x)) (fun i _ => n - (intOf i).toNat)
  case atStart => exact ⟨0, rfl, Nat.zero_le _, rfl, Lib.hid (fun j hj => by omega)⟩
  case round =>
    obtain ⟨k, rfl, hk, rfl, HJ⟩ := hrel
    by_cases hlt : k < n
    · obtain ⟨y, hy⟩ : ∃ y, ts[k]? = some y := ⟨_, List.getElem?_eq_getElem (by have := HN.out; omega)⟩
      have hyo : TxOk y := HS.out.ok y (List.mem_of_getElem? hy)
      obtain ⟨b, off, rfl, hcell⟩ := HS.out.cell (by omega)
      have c0 := hcell k y hy
      have q := st_eqc hyo.1 HX.out
      rw [← HXX.out] at q
      have j1 : (k : Int) < (n : Int) := by omega
      have HY := Lib.hid hy
      obtain ⟨Y, hY⟩ : ∃ Y, Y = st y := ⟨_, rfl⟩
      rw [← hY] at c0 q
      clear hcell hyo hy hY
      by_cases he : y = x
      · rw [decide_eq_true he] at q
        have HF : Hid (true = V) := Lib.hid (by rw [HV.out]; exact (decide_eq_true (he ▸ List.mem_of_getElem? HY.out)).symm)
        clear he
        go_wp2_with fail
        go_ret
        exact ⟨ret_bool HF.out, rfl⟩
      · rw [decide_eq_false he] at q
        have HJ2 : Hid (∀ j, j < k + 1 → ts[j]? ≠ some x) := Lib.hid (fun j hj => by
          by_cases hjk : j = k
          · subst hjk; rw [HY.out]; intro e; injection e with e; exact he e
          · exact HJ.out j (by omega))
        clear he
        go_wp2_with fail
        go_roundw
        case rel => exact ⟨k + 1, by go_num, by omega, by first | trivial | rfl, HJ2⟩
        case measure => simp [intOf]; omega
    · obtain rfl : k = n := by omega
      have HF : Hid (false = V) := Lib.hid (by rw [HV.out]; exact (decide_eq_false (not_mem_of (by have := HN.out; intro j hj; exact HJ.out j (by omega)))).symm)
      clear hlt
      go_wp2_with fail
      go_ret
      exact ⟨ret_bool HF.out, rfl⟩
/-- The number that find answers. -/
def fndI (x : Tx) (ts : List Tx) : Int := if x ∈ ts then (fnd x ts : Nat) else -1
set_option maxRecDepth 100000 in
set_option maxHeartbeats 1000000 in
theorem rfind_any {w : World} {v : Value} {ts : List Tx} (hs : Tw w v ts) (hn2 : ts.length ≤ 140737488355328) {x : Tx} (hx : Lt x) :
    Calls Try.prog 37 #[.agg #[v], .string (st x)] w fun e w' => e = .returned (.int .i64 (fndI x ts)) ∧ Kp w w' := by
  obtain ⟨ao, cap, rfl, hcap, -, -⟩ := hs.open3
  obtain ⟨n, hn⟩ : ∃ n, n = ts.length := ⟨_, rfl⟩
  rw [← hn] at hs hn2 hcap ⊢
  obtain ⟨V, hV⟩ : ∃ V, V = fndI x ts := ⟨_, rfl⟩
  rw [← hV]
  obtain ⟨W, hW⟩ : ∃ W, W = w.alloc (.cells #[.slice ao n cap] 25) := ⟨_, rfl⟩
  have hk0 : Kp w W := by rw [hW]; exact kp_alloc _ _
  have HS := Lib.hid (hs.keep hk0); have HN := Lib.hid hn; have HV := Lib.hid hV; have HX := Lib.hid hx; have HW := Lib.hid hW; have HK := Lib.hid hk0
  have i1 : (n : Int) ≤ (cap : Int) := by omega
  have i2 : (n : Int) ≤ 140737488355328 := by omega
  obtain ⟨X, hX⟩ : ∃ X, X = st x := ⟨_, rfl⟩
  rw [← hX]
  have HXX := Lib.hid hX
  clear hs hn hV hcap hn2 hx hX hW hk0
  go_enter Try.func37, Try.ntmps37
  go_wp2_with fail
  rw [← HW.out]
  go_loopw [10] (fun i wr => ∃ k : Nat, i = .int .i64 (k : Nat) ∧ k ≤ n ∧ wr = W ∧ Hid (∀ j, j < k → ts[j]? ≠ some x)) (fun i _ => n - (intOf i).toNat)
  case atStart => exact ⟨0, rfl, Nat.zero_le _, rfl, Lib.hid (fun j hj => by omega)⟩
  case round =>
    obtain ⟨k, rfl, hk, rfl, HJ⟩ := hrel
    by_cases hlt : k < n
    · obtain ⟨y, hy⟩ : ∃ y, ts[k]? = some y := ⟨_, List.getElem?_eq_getElem (by have := HN.out; omega)⟩
      have hyo : TxOk y := HS.out.ok y (List.mem_of_getElem? hy)
      obtain ⟨b, off, rfl, hcell⟩ := HS.out.cell (by omega)
      have c0 := hcell k y hy
      have q := st_eqc hyo.1 HX.out
      rw [← HXX.out] at q
      have j1 : (k : Int) < (n : Int) := by omega
      have HY := Lib.hid hy
      obtain ⟨Y, hY⟩ : ∃ Y, Y = st y := ⟨_, rfl⟩
      rw [← hY] at c0 q
      clear hcell hyo hy hY
      by_cases he : y = x
      · rw [decide_eq_true he] at q
        have HF : Hid ((k : Int) = V) := Lib.hid (by
          have hm : x ∈ ts := he ▸ List.mem_of_getElem? HY.out
          rw [HV.out, fndI, if_pos hm, fnd_first (k := k) (he ▸ HY.out) HJ.out])
        clear he
        go_wp2_with fail
        go_ret
        exact ⟨by rw [← HF.out]; rfl, HK.out⟩
      · rw [decide_eq_false he] at q
        have HJ2 : Hid (∀ j, j < k + 1 → ts[j]? ≠ some x) := Lib.hid (fun j hj => by
          by_cases hjk : j = k
          · subst hjk; rw [HY.out]; intro e; injection e with e; exact he e
          · exact HJ.out j (by omega))
        clear he
        go_wp2_with fail
        go_roundw
        case rel => exact ⟨k + 1, by go_num, by omega, by first | trivial | rfl, HJ2⟩
        case measure => simp [intOf]; omega
    · obtain rfl : k = n := by omega
      have HF : Hid ((-1 : Int) = V) := Lib.hid (by rw [HV.out, fndI, if_neg (not_mem_of (by have := HN.out; intro j hj; exact HJ.out j (by omega)))])
      clear hlt
      go_wp2_with fail
      go_ret
      exact ⟨by rw [← HF.out]; rfl, HK.out⟩
end By
end Go.Proofs.Ytlfoikjbbbhbdaa
