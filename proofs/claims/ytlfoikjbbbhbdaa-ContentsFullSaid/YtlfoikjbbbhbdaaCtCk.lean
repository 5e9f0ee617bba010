/- The program's Check, Find and isNumber. No condition. -/
import Derived.Test.YtlfoikjbbbhbdaaCtTo
import Derived.Test.YtlfoikjbbbhbdaaCtE
namespace Go.Proofs.Ytlfoikjbbbhbdaa
namespace By
open Go.RowKit WireN CtN
set_option linter.unusedVariables false
set_option linter.unusedSimpArgs false

set_option maxRecDepth 100000 in
set_option maxHeartbeats 1000000 in
theorem check_any {w : World} {v : Value} {ts : List Tx} (hs : Tw w v ts) :
    Calls Try.prog 9 #[.agg #[v]] w fun e w' => e = .returned (.int .i64 (err ts : Nat)) ∧ Kp w w' := by
  obtain ⟨Q, hQ⟩ : ∃ Q : Ending → World → Prop, Q = fun e w' => e = .returned (.int .i64 (err ts : Nat)) ∧ Kp w w' := ⟨_, rfl⟩
  have FIN : Hid (∀ (E : Nat) (w' : World), E = err ts → Kp w w' → Q (.returned (.int .i64 (E : Nat))) w') := Lib.hid (by
    intro E w' h1 h2
    rw [hQ, h1]
    exact ⟨rfl, h2⟩)
  rw [← hQ]
  clear hQ
  obtain ⟨W, hW⟩ : ∃ W, W = w.alloc (.cells #[v] 25) := ⟨_, rfl⟩
  have hk0 : Kp w W := by rw [hW]; exact kp_alloc _ _
  have hb0 : Blk W w.heap.size 25 #[v] := by rw [hW]; exact Blk.new _ _ _
  have HC := Lib.hid (tableOf_any (hs.keep hk0))
  have HW := Lib.hid hW; have HK := Lib.hid hk0
  have c0 := hb0.cell 0 rfl
  obtain ⟨ao, cap, rfl, -, -, -⟩ := hs.open3
  clear hs hk0 hb0 hW
  go_enter Try.func9, Try.ntmps9
  go_wp2_with fail
  rw [← HW.out]
  refine HC.out.mono ?_
  rintro e w1 ⟨hk1, h⟩
  have HK1 := Lib.hid (HK.out.trans hk1)
  clear hk1
  rcases h with ⟨-, rfl⟩ | ⟨h0, p, v, b, rfl, -⟩
  · obtain ⟨E, hE⟩ : ∃ E, E = err ts := ⟨_, rfl⟩
    rw [← hE]
    have HE := Lib.hid hE
    clear hE
    go_wp2_with fail
    exact FIN.out E _ HE.out HK1.out
  · have H0 := Lib.hid h0
    clear h0
    go_wp2_with fail
    exact FIN.out 0 _ H0.out.symm HK1.out
theorem mNum_fd {x : Tx} {ts : List Tx} (h : err ts = 0) : mNum x ts = fdN x ts ∧ decide (x ∈ ts) = fdB x ts := by
  unfold mNum fdN fdB
  by_cases hm : x ∈ ts <;> simp [h, hm]
set_option maxRecDepth 100000 in
set_option maxHeartbeats 1000000 in
theorem find_any {w : World} {v : Value} {ts : List Tx} (hs : Tw w v ts) {x : Tx} (hx : TxOk x) :
    Calls Try.prog 11 #[.agg #[v], .string (st x)] w fun e w' => e = .returned (.tuple #[.int .i64 (fdN x ts : Nat), .bool (fdB x ts)]) ∧ Kp w w' := by
  obtain ⟨W, hW⟩ : ∃ W, W = w.alloc (.cells #[v] 25) := ⟨_, rfl⟩
  have hk0 : Kp w W := by rw [hW]; exact kp_alloc _ _
  have hb0 : Blk W w.heap.size 25 #[v] := by rw [hW]; exact Blk.new _ _ _
  have HC := Lib.hid (tableOf_any (hs.keep hk0))
  have HW := Lib.hid hW; have HK := Lib.hid hk0; have HX := Lib.hid hx
  have c0 := hb0.cell 0 rfl
  obtain ⟨N, hN⟩ : ∃ N, N = fdN x ts := ⟨_, rfl⟩
  obtain ⟨B, hB⟩ : ∃ B, B = fdB x ts := ⟨_, rfl⟩
  have FIN : Hid (∀ (n : Nat) (c : Bool) (w' : World), n = N → c = B → Kp w w' → Ending.returned (.tuple #[.int .i64 (n : Nat), .bool c]) = Ending.returned (.tuple #[.int .i64 (N : Nat), .bool B]) ∧ Kp w w') := Lib.hid (by
    intro n c w' h1 h2 h3
    rw [h1, h2]
    exact ⟨rfl, h3⟩)
  obtain ⟨Q, hQ⟩ : ∃ Q : Ending → World → Prop, Q = fun e w' => e = .returned (.tuple #[.int .i64 (N : Nat), .bool B]) ∧ Kp w w' := ⟨_, rfl⟩
  have FIN2 : Hid (∀ (n : Nat) (c : Bool) (w' : World), n = N → c = B → Kp w w' → Q (.returned (.tuple #[.int .i64 (n : Nat), .bool c])) w') := Lib.hid (by
    intro n c w' h1 h2 h3
    rw [hQ]
    exact FIN.out n c w' h1 h2 h3)
  rw [← hN, ← hB, ← hQ]
  have HN := Lib.hid hN; have HB := Lib.hid hB
  obtain ⟨X, hX⟩ : ∃ X, X = st x := ⟨_, rfl⟩
  rw [← hX]
  have HXX := Lib.hid hX
  obtain ⟨ao, cap, rfl, -, -, -⟩ := hs.open3
  clear hs hk0 hb0 hW hQ hN hB hX FIN
  go_enter Try.func11, Try.ntmps11
  go_wp2_with fail
  rw [← HW.out]
  refine HC.out.mono ?_
  rintro e w1 ⟨hk1, h⟩
  have HK1 := Lib.hid (HK.out.trans hk1)
  clear hk1
  rcases h with ⟨h0, rfl⟩ | ⟨h0, p, v, b, rfl, hT⟩
  · have F : Hid (0 = N ∧ false = B) := Lib.hid ⟨by rw [HN.out, fdN, if_neg (fun h => h0 h.1)], by rw [HB.out, fdB]; exact (decide_eq_false (fun h => h0 h.1)).symm⟩
    obtain ⟨E, hE⟩ : ∃ E, E = err ts := ⟨_, rfl⟩
    rw [← hE] at h0 ⊢
    have q : ((E : Int) != 0) = true := by simp; omega
    clear hE h0
    go_wp2_with fail
    exact FIN2.out 0 false _ F.out.1 F.out.2 HK1.out
  · have F : Hid (mNum x ts = N ∧ decide (x ∈ ts) = B) := Lib.hid (by rw [HN.out, HB.out]; exact mNum_fd h0)
    have d1 := hT.blk.cell 1 rfl
    have qg := hT.nm.get HX.out
    rw [F.out.1, F.out.2, ← HXX.out] at qg
    clear hT h0
    go_wp2_with fail
    exact FIN2.out N B _ rfl rfl HK1.out
set_option maxRecDepth 100000 in
set_option maxHeartbeats 1000000 in
theorem isNumber_any {w : World} {v : Value} {ts : List Tx} (hs : Tw w v ts) (n : Int) :
    Calls Try.prog 40 #[.agg #[v], .int .i64 n] w fun e w' => e = .returned (.bool (decide (0 ≤ n ∧ n < (ts.length : Int)))) ∧ Kp w w' := by
  obtain ⟨W, hW⟩ : ∃ W, W = w.alloc (.cells #[v] 25) := ⟨_, rfl⟩
  have hk0 : Kp w W := by rw [hW]; exact kp_alloc _ _
  have hb0 : Blk W w.heap.size 25 #[v] := by rw [hW]; exact Blk.new _ _ _
  have HW := Lib.hid hW; have HK := Lib.hid hk0
  have c0 := hb0.cell 0 rfl
  obtain ⟨ao, cap, rfl, -, -, -⟩ := hs.open3
  obtain ⟨m, hm⟩ : ∃ m, m = ts.length := ⟨_, rfl⟩
  rw [← hm] at HW c0 ⊢
  clear hs hk0 hb0 hm
  by_cases h1 : n < 0
  · have F : Hid (decide (0 ≤ n ∧ n < (m : Int)) = false) := Lib.hid (decide_eq_false (by omega))
    rw [F.out]
    rw [hW] at c0
    clear hW
    go_enter Try.func40, Try.ntmps40
    go_wp2_with fail
    go_ret
    (try rw [← HW.out])
    exact ⟨rfl, HK.out⟩
  · have h2 : 0 ≤ n := by omega
    clear h1
    by_cases h3 : n < (m : Int)
    · have F : Hid (decide (0 ≤ n ∧ n < (m : Int)) = true) := Lib.hid (decide_eq_true (by omega))
      rw [F.out]
      rw [hW] at c0
      clear hW
      go_enter Try.func40, Try.ntmps40
      go_wp2_with fail
      go_ret
      (try rw [← HW.out])
      exact ⟨rfl, HK.out⟩
    · have F : Hid (decide (0 ≤ n ∧ n < (m : Int)) = false) := Lib.hid (decide_eq_false (by omega))
      have h4 : (m : Int) ≤ n := by omega
      have Q3 : Hid (decide (n < (m : Int)) = false) := Lib.hid (decide_eq_false h3)
      rw [F.out]
      rw [hW] at c0
      clear hW h3
      go_enter Try.func40, Try.ntmps40
      go_wp2_with fail
      go_ret
      (try rw [← HW.out])
      exact ⟨by show Ending.returned (.bool (decide (n < (m : Int)))) = _; rw [Q3.out], HK.out⟩
end By
end Go.Proofs.Ytlfoikjbbbhbdaa
