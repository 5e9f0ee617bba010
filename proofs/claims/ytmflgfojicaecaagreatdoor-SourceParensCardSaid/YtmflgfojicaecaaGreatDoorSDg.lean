/- The maker's Digits: the digits of a number. Condition: it has at most 17 of them. -/
import Derived.Test.YtmflgfojicaecaaGreatDoorMVa
import Derived.Test.YtmflgfojicaecaaGreatDoorMLa
import Derived.Test.YtmflgfojicaecaaGreatDoorSPn
namespace SrcN
open LexN
/-- The digits of a number of at most k + 1 of them. -/
def digF : Nat → Nat → List Nat
  | 0, n => [48 + n]
  | k + 1, n => if n < 10 then [48 + n] else digF k (n / 10) ++ [48 + n % 10]
theorem digF_itoa : ∀ (k n : Nat), n < 10 ^ (k + 1) → (Go.Lib.decDigits n).map UInt8.toNat = digF k n
  | 0, n, h => by
    have h' : n < 10 := by simpa using h
    rw [Go.Lib.decDigits, dif_pos h']
    simp only [digF, List.map_cons, List.map_nil, List.cons.injEq, and_true]
    simp; omega
  | k + 1, n, h => by
    by_cases h' : n < 10
    · rw [Go.Lib.decDigits, dif_pos h', digF, if_pos h']
      simp only [List.map_cons, List.map_nil, List.cons.injEq, and_true]
      simp; omega
    · rw [Go.Lib.decDigits, dif_neg h', digF, if_neg h', List.map_append, digF_itoa k (n / 10) (by rw [Nat.pow_succ] at h; omega)]
      congr 1
      simp only [List.map_cons, List.map_nil, List.cons.injEq, and_true]
      simp; omega
theorem itoaN_dig {k n : Nat} (h : n < 10 ^ (k + 1)) : itoaN (n : Int) = digF k n := by
  unfold itoaN Go.Lib.itoa
  rw [if_neg (by omega), Int.toNat_natCast, digF_itoa k n h]
theorem digF_len : ∀ (k n : Nat), 0 < (digF k n).length ∧ (digF k n).length ≤ k + 1
  | 0, n => by simp [digF]
  | k + 1, n => by
    have := digF_len k (n / 10)
    unfold digF
    split
    · simp
    · simp only [List.length_append, List.length_cons, List.length_nil]; omega
theorem digF_all : ∀ (k n : Nat), n < 10 ^ (k + 1) → ∀ c ∈ digF k n, digit c = true
  | 0, n, h, c, hc => by
    have h' : n < 10 := by simpa using h
    obtain rfl : c = 48 + n := by simpa [digF] using hc
    unfold digit; simp; omega
  | k + 1, n, h, c, hc => by
    unfold digF at hc
    split at hc
    · obtain rfl : c = 48 + n := by simpa using hc
      unfold digit; simp; omega
    · rcases List.mem_append.1 hc with hc | hc
      · exact digF_all k (n / 10) (by rw [Nat.pow_succ] at h; omega) c hc
      · obtain rfl : c = 48 + n % 10 := by simpa using hc
        unfold digit; simp; omega
theorem digF_val : ∀ (k n : Nat), n < 10 ^ (k + 1) → digits (digF k n) = n
  | 0, n, h => by simp [digF, digits]
  | k + 1, n, h => by
    unfold digF
    split
    · simp [digits]
    · rw [digits_snoc, digF_val k (n / 10) (by rw [Nat.pow_succ] at h; omega)]; omega
theorem digL {n : Nat} (h : n < 65536) : DigL (digF 4 n) n where
  pos := (digF_len 4 n).1
  len := (digF_len 4 n).2
  all := digF_all 4 n (by omega)
  val := digF_val 4 n (by omega)
  small := by omega
end SrcN
namespace Go.Proofs.YtmflgfojicaecaaGreatDoor
namespace By
open Go.RowKit WireN LexN SrcN
set_option linter.unusedVariables false
set_option linter.unusedSimpArgs false

theorem st_app6 (a b : List Nat) : st a ++ st b = st (a ++ b) := by
  apply ByteArray.ext
  apply Array.ext'
  simp [st]
theorem add_st6 {a b : List Nat} (h : a.length + b.length ≤ 1000000) (w : World) : (Op.stringOp .add (st a) (st b)).run Tryz.prog w = .ok (.string (st (a ++ b))) w := by
  rw [run_string_add_sum w (st a) (st b) (by rw [st_size, st_size]; omega), st_app6]
set_option maxRecDepth 100000 in
set_option maxHeartbeats 1000000 in
theorem Digit_x (n : Nat) (h : n < 10) (w : World) : Calls Tryz.prog 20 #[.int .i64 (n : Nat)] w fun e w' => e = .returned (.string (st [48 + n])) ∧ w = w' := by
  obtain ⟨S, hS⟩ : ∃ S, S = st [48 + n] := ⟨_, rfl⟩
  have hsub : sub [48, 49, 50, 51, 52, 53, 54, 55, 56, 57] n (n + 1) = [48 + n] := by
    obtain rfl | rfl | rfl | rfl | rfl | rfl | rfl | rfl | rfl | rfl : n = 0 ∨ n = 1 ∨ n = 2 ∨ n = 3 ∨ n = 4 ∨ n = 5 ∨ n = 6 ∨ n = 7 ∨ n = 8 ∨ n = 9 := by omega
    all_goals rfl
  have hcut : ∀ w, (Instr.slice 9 (.string ⟨#[48, 49, 50, 51, 52, 53, 54, 55, 56, 57]⟩) (some (.int .i64 (n : Int))) (some (.int .i64 ((n : Int) + 1))) none).run Tryz.prog w = .ok (.string S) w := fun w => by
    rw [hS, ← hsub]
    exact cut (l := [48, 49, 50, 51, 52, 53, 54, 55, 56, 57]) (i := n) (j := n + 1) (by omega) (by simp; omega) w
  have hi : (n : Int) < 10 := by omega
  rw [← hS]
  clear hS h hsub
  go_enter Tryz.func20, Tryz.ntmps20
  go_wp2_with fail
  go_ret
  exact ⟨rfl, rfl⟩
set_option maxRecDepth 100000 in
set_option maxHeartbeats 1000000 in
theorem Digits_x : ∀ (k n : Nat), n < 10 ^ (k + 1) → k ≤ 16 → ∀ w : World, Calls Tryz.prog 20 #[.int .i64 (n : Nat)] w fun e w' => e = .returned (.string (st (digF k n))) ∧ w = w'
  | 0, n, hn, hk, w => Digit_x n (by simpa using hn) w
  | k + 1, n, hn, hk, w => by
    by_cases h : n < 10
    · have e : digF (k + 1) n = [48 + n] := by rw [digF, if_pos h]
      rw [e]; exact Digit_x n h w
    · obtain ⟨m1, hm1⟩ : ∃ m, m = n / 10 := ⟨_, rfl⟩
      obtain ⟨m2, hm2⟩ : ∃ m, m = n % 10 := ⟨_, rfl⟩
      have e1 : (n : Int) / 10 = (m1 : Int) := by omega
      have e2 : (n : Int) % 10 = (m2 : Int) := by omega
      have hi : (10 : Int) ≤ (n : Int) := by omega
      have hp : 10 ^ (k + 1 + 1) = 10 ^ (k + 1) * 10 := Nat.pow_succ _ _
      have H1 := Lib.hid (Digits_x k m1 (by rw [hp] at hn; omega) (by omega))
      have H2 := Lib.hid (Digit_x m2 (by omega))
      have hnb : (n : Int) ≤ 9223372036854775807 := by
        have : 10 ^ (k + 1 + 1) ≤ 10 ^ 18 := Nat.pow_le_pow_right (by omega) (by omega)
        have h18 : (10 : Nat) ^ 18 = 1000000000000000000 := by decide
        omega
      have e : digF (k + 1) n = digF k m1 ++ [48 + m2] := by rw [digF, if_neg h, hm1, hm2]
      have hl := (digF_len k m1).2
      obtain ⟨S, hS⟩ : ∃ S, S = st (digF (k + 1) n) := ⟨_, rfl⟩
      have hadd : ∀ w, (Op.stringOp .add (st (digF k m1)) (st [48 + m2])).run Tryz.prog w = .ok (.string S) w := fun w => by
        rw [hS, e]; exact add_st6 (by simp; omega) w
      obtain ⟨S1, hS1⟩ : ∃ S, S = st (digF k m1) := ⟨_, rfl⟩
      obtain ⟨S2, hS2⟩ : ∃ S, S = st [48 + m2] := ⟨_, rfl⟩
      rw [← hS1] at H1 hadd
      rw [← hS2] at H2 hadd
      rw [← hS]
      clear hm1 hm2 hn hk h hp e hl hS hS1 hS2
      go_enter Tryz.func20, Tryz.ntmps20
      go_wp2_with fail
      refine (H1.out _).mono ?_
      rintro e w' ⟨rfl, rfl⟩
      go_wp2_with fail
      refine (H2.out _).mono ?_
      rintro e w' ⟨rfl, rfl⟩
      go_wp2_with fail
      go_ret
      exact ⟨rfl, rfl⟩
end By
end Go.Proofs.YtmflgfojicaecaaGreatDoor
