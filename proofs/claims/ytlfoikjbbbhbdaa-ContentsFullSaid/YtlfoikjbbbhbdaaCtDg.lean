/- The maker's Digits: the digits of a number. Condition: it has at most 17 of them. -/
import Derived.Test.YtlfoikjbbbhbdaaCtN
import Derived.Test.YtlfoikjbbbhbdaaLStr
namespace Go.Proofs.Ytlfoikjbbbhbdaa
namespace CtN
/-- The digits of a number of at most k + 1 of them. -/
def digC : Nat → Nat → List Nat
  | 0, n => [48 + n]
  | k + 1, n => if n < 10 then [48 + n] else digC k (n / 10) ++ [48 + n % 10]
/-- What digits mean. -/
def dvl (l : List Nat) : Nat := l.foldl (fun a c => a * 10 + (c - 48)) 0
theorem digC_val : ∀ (k n : Nat), n < 10 ^ (k + 1) → dvl (digC k n) = n
  | 0, n, _ => by simp [digC, dvl]
  | k + 1, n, h => by
    unfold digC
    split
    · simp [dvl]
    · have ih := digC_val k (n / 10) (by rw [Nat.pow_succ] at h; omega)
      unfold dvl at ih ⊢
      rw [List.foldl_append, ih]
      simp only [List.foldl_cons, List.foldl_nil]
      omega
theorem digC_inj {k i j : Nat} (hi : i < 10 ^ (k + 1)) (hj : j < 10 ^ (k + 1)) (h : digC k i = digC k j) : i = j := by
  rw [← digC_val k i hi, ← digC_val k j hj, h]
theorem digC_len : ∀ (k n : Nat), 0 < (digC k n).length ∧ (digC k n).length ≤ k + 1
  | 0, n => by simp [digC]
  | k + 1, n => by
    have := digC_len k (n / 10)
    unfold digC
    split
    · simp
    · simp only [List.length_append, List.length_cons, List.length_nil]; omega
theorem digC_all : ∀ (k n : Nat), n < 10 ^ (k + 1) → ∀ c ∈ digC k n, 48 ≤ c ∧ c ≤ 57
  | 0, n, h, c, hc => by
    have h' : n < 10 := by simpa using h
    obtain rfl : c = 48 + n := by simpa [digC] using hc
    omega
  | k + 1, n, h, c, hc => by
    unfold digC at hc
    split at hc
    · obtain rfl : c = 48 + n := by simpa using hc
      omega
    · rcases List.mem_append.1 hc with hc | hc
      · exact digC_all k (n / 10) (by rw [Nat.pow_succ] at h; omega) c hc
      · obtain rfl : c = 48 + n % 10 := by simpa using hc
        omega
/-- The first k numbers as texts. -/
def nums (k : Nat) : List Tx := (List.range k).map (digC 3)
theorem nums_len (k : Nat) : (nums k).length = k := by simp [nums]
theorem nums_snoc (k : Nat) : nums (k + 1) = nums k ++ [digC 3 k] := by simp [nums, List.range_succ]
theorem nums_nodup {k : Nat} (h : k ≤ 9999) : (nums k).Nodup := by
  unfold nums
  rw [List.nodup_iff_pairwise_ne, List.pairwise_map]
  refine List.Pairwise.imp_of_mem ?_ (List.nodup_iff_pairwise_ne.1 List.nodup_range)
  intro a b ha hb hab e
  exact hab (digC_inj (k := 3) (by have := List.mem_range.1 ha; omega) (by have := List.mem_range.1 hb; omega) e)
theorem nums_not {k : Nat} (h : k ≤ 9999) {x : Tx} {c : Nat} (hc : c ∈ x) (h2 : 57 < c) : x ∉ nums k := fun hm => by
  obtain ⟨i, hi, rfl⟩ := List.mem_map.1 hm
  have := digC_all 3 i (by have := List.mem_range.1 hi; omega) c hc
  omega
theorem nums_at {k i : Nat} (h : i < k) : (nums k)[i]? = some (digC 3 i) := by simp [nums, h]
end CtN
namespace By
open Go.RowKit WireN LexN CtN
set_option linter.unusedVariables false
set_option linter.unusedSimpArgs false

theorem st_appc (a b : List Nat) : st a ++ st b = st (a ++ b) := by
  apply ByteArray.ext
  apply Array.ext'
  simp [st]
theorem add_stc {a b : List Nat} (h : a.length + b.length ≤ 1000000) (w : World) : (Op.stringOp .add (st a) (st b)).run Try.prog w = .ok (.string (st (a ++ b))) w := by
  rw [run_string_add_sum w (st a) (st b) (by rw [st_size, st_size]; omega), st_appc]
set_option maxRecDepth 100000 in
set_option maxHeartbeats 1000000 in
theorem Digit_c (n : Nat) (h : n < 10) (w : World) : Calls Try.prog 33 #[.int .i64 (n : Nat)] w fun e w' => e = .returned (.string (st [48 + n])) ∧ w = w' := by
  obtain ⟨S, hS⟩ : ∃ S, S = st [48 + n] := ⟨_, rfl⟩
  have hsub : sub [48, 49, 50, 51, 52, 53, 54, 55, 56, 57] n (n + 1) = [48 + n] := by
    obtain rfl | rfl | rfl | rfl | rfl | rfl | rfl | rfl | rfl | rfl : n = 0 ∨ n = 1 ∨ n = 2 ∨ n = 3 ∨ n = 4 ∨ n = 5 ∨ n = 6 ∨ n = 7 ∨ n = 8 ∨ n = 9 := by omega
    all_goals rfl
  have hcut : ∀ w, (Instr.slice 9 (.string ⟨#[48, 49, 50, 51, 52, 53, 54, 55, 56, 57]⟩) (some (.int .i64 (n : Int))) (some (.int .i64 ((n : Int) + 1))) none).run Try.prog w = .ok (.string S) w := fun w => by
    rw [hS, ← hsub]
    exact cut (l := [48, 49, 50, 51, 52, 53, 54, 55, 56, 57]) (i := n) (j := n + 1) (by omega) (by simp; omega) w
  have hi : (n : Int) < 10 := by omega
  rw [← hS]
  clear hS h hsub
  go_enter Try.func33, Try.ntmps33
  go_wp2_with fail
  go_ret
  exact ⟨rfl, rfl⟩
set_option maxRecDepth 100000 in
set_option maxHeartbeats 1000000 in
theorem Digits_c : ∀ (k n : Nat), n < 10 ^ (k + 1) → k ≤ 16 → ∀ w : World, Calls Try.prog 33 #[.int .i64 (n : Nat)] w fun e w' => e = .returned (.string (st (digC k n))) ∧ w = w'
  | 0, n, hn, hk, w => Digit_c n (by simpa using hn) w
  | k + 1, n, hn, hk, w => by
    by_cases h : n < 10
    · have e : digC (k + 1) n = [48 + n] := by rw [digC, if_pos h]
      rw [e]; exact Digit_c n h w
    · obtain ⟨m1, hm1⟩ : ∃ m, m = n / 10 := ⟨_, rfl⟩
      obtain ⟨m2, hm2⟩ : ∃ m, m = n % 10 := ⟨_, rfl⟩
      have e1 : (n : Int) / 10 = (m1 : Int) := by omega
      have e2 : (n : Int) % 10 = (m2 : Int) := by omega
      have hi : (10 : Int) ≤ (n : Int) := by omega
      have hp : 10 ^ (k + 1 + 1) = 10 ^ (k + 1) * 10 := Nat.pow_succ _ _
      have H1 := Lib.hid (Digits_c k m1 (by rw [hp] at hn; omega) (by omega))
      have H2 := Lib.hid (Digit_c m2 (by omega))
      have hnb : (n : Int) ≤ 9223372036854775807 := by
        have : 10 ^ (k + 1 + 1) ≤ 10 ^ 18 := Nat.pow_le_pow_right (by omega) (by omega)
        have h18 : (10 : Nat) ^ 18 = 1000000000000000000 := by decide
        omega
      have e : digC (k + 1) n = digC k m1 ++ [48 + m2] := by rw [digC, if_neg h, hm1, hm2]
      have hl := (digC_len k m1).2
      obtain ⟨S, hS⟩ : ∃ S, S = st (digC (k + 1) n) := ⟨_, rfl⟩
      have hadd : ∀ w, (Op.stringOp .add (st (digC k m1)) (st [48 + m2])).run Try.prog w = .ok (.string S) w := fun w => by
        rw [hS, e]; exact add_stc (by simp; omega) w
      obtain ⟨S1, hS1⟩ : ∃ S, S = st (digC k m1) := ⟨_, rfl⟩
      obtain ⟨S2, hS2⟩ : ∃ S, S = st [48 + m2] := ⟨_, rfl⟩
      rw [← hS1] at H1 hadd
      rw [← hS2] at H2 hadd
      rw [← hS]
      clear hm1 hm2 hn hk h hp e hl hS hS1 hS2
      go_enter Try.func33, Try.ntmps33
      go_wp2_with fail
      refine (H1.out _).mono ?_
      rintro e w' ⟨rfl, rfl⟩
      go_wp2_with fail
      refine (H2.out _).mono ?_
      rintro e w' ⟨rfl, rfl⟩
      go_wp2_with fail
      go_ret
      exact ⟨rfl, rfl⟩
end By
end Go.Proofs.Ytlfoikjbbbhbdaa
