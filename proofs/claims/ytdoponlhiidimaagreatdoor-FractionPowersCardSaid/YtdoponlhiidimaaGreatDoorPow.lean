/- The program's Pow: a power by squaring, or the error. Condition: the slice holds the digits that are named, the exponent is a 64-bit integer. -/
import Derived.Test.YtdoponlhiidimaaGreatDoorMNp
import Derived.Test.YtdoponlhiidimaaGreatDoorBits
namespace Go.Proofs.YtdoponlhiidimaaGreatDoor
open Go.RowKit LimbN

theorem ofInt_i64 (a : Nat) (ha : a < 9223372036854775808) : (BitVec.ofInt 64 (a : Int)).toNat = a := by
  rw [BitVec.ofInt_natCast, BitVec.toNat_ofNat]; exact Nat.mod_eq_of_lt (by omega)
theorem i64_and_one (a : Nat) (ha : a < 9223372036854775808) : bits .and .i64 (a : Int) 1 = ((a % 2 : Nat) : Int) := by
  have h1 : bits .and .i64 (a : Int) ((1 : Nat) : Int) = ((a &&& 1 : Nat) : Int) := by
    have hx : a &&& 1 < 2 ^ 63 := Nat.and_lt_two_pow _ (by omega)
    show IntKind.i64.wrap ((BitVec.ofInt 64 (a : Int) &&& BitVec.ofInt 64 ((1 : Nat) : Int)).toNat : Int) = _
    rw [BitVec.toNat_and, ofInt_i64 a ha, ofInt_i64 1 (by omega), IntKind.wrap_i64]
    omega
  rw [Nat.and_one_is_mod] at h1
  exact h1
theorem pow_over {x m n : Nat} (hm : m ≤ n) (h : 128 < (limbs (x ^ m)).length) : 128 < (limbs (x ^ n)).length := by
  rcases Nat.eq_zero_or_pos x with rfl | hx
  · exfalso
    have h1 : (0 : Nat) ^ m ≤ 1 := by
      rcases Nat.eq_zero_or_pos m with rfl | h
      · simp
      · rw [Nat.zero_pow h]; omega
    have h2 : (limbs (0 ^ m)).length ≤ 1 := limbs_len_le.2 (by omega)
    omega
  · have := limbs_mono (Nat.pow_le_pow_right hx hm)
    omega

/-- How the loop stands: the power of the leading binary digits, or the error. -/
def PowSt (x n j : Nat) (w wr : World) (p e : Value) : Prop :=
  (e = .int .i64 0 ∧ Sl wr p (limbs (x ^ (n / 2 ^ j))) ∧ (limbs (x ^ (n / 2 ^ j))).length ≤ 128 ∧ New w.heap.size p ∧ Kp w wr) ∨
  (e = .int .i64 2 ∧ p = .slice none 0 0 ∧ 128 < (limbs (x ^ n)).length ∧ Kp w wr)
theorem PowSt.got {x n : Nat} {w wr : World} {p e : Value} (h : PowSt x n 0 w wr p e) : Got (x ^ n) w (.returned (.tuple #[p, e])) wr := by
  rcases h with ⟨rfl, hs, hl, hn, hk⟩ | ⟨rfl, rfl, ho, hk⟩
  · simp only [Nat.pow_zero, Nat.div_one] at hs hl
    exact Got.yes hk hl hs hn
  · exact Got.no hk ho

set_option maxRecDepth 100000 in
set_option maxHeartbeats 2000000 in
theorem Pow_ok {xs : List Nat} {va : Value} {w : World} (ha : Sl w va xs) (hx : wf xs = true) (n : Nat) (hn : n ≤ 65536) :
    Calls Tryz.prog 19 #[va, .int .i64 n] w (Got (val xs ^ n) w) := by
  have hca := wf_canon ha.lt hx
  have HA := Lib.hid ha; have HX := Lib.hid hx; have HCA := Lib.hid hca
  clear ha hx hca
  go_enter Tryz.func19, Tryz.ntmps19
  go_wp2_with fail
  refine (check_any HA.out).mono ?_
  rintro e w1 ⟨rfl, rfl⟩
  rw [HX.out]
  go_wp2_with fail
  all_goals (try go_quiet (fail))
  all_goals (try go_wp2_with fail)
  refine (of_any 1 w (by omega)).mono ?_
  rintro e w2 ⟨v2, rfl, hs2, hn2, hk2⟩
  have HS2 := Lib.hid hs2; have HN2 := Lib.hid hn2; have HK2 := Lib.hid hk2; clear hs2 hn2 hk2
  go_wp2_with fail
  refine (Tryz.bits_Len n w2 (by omega) (by omega)).mono ?_
  rintro e w3 ⟨rfl, rfl⟩
  rw [Int.toNat_natCast]
  obtain ⟨L, hL⟩ : ∃ L, L = Lib.bitLen n := ⟨_, rfl⟩
  have hL17 : L ≤ 17 := by rw [hL]; exact Lib.bitLen_le n 17 (by omega) (by omega)
  have hLn : n / 2 ^ L = 0 := by
    by_cases h0 : n = 0
    · subst h0; simp
    · rw [hL]; exact Nat.div_eq_of_lt (Lib.bitLenAux_bounds 64 n (by omega) h0).2.2
  rw [← hL]
  have HLN := Lib.hid hLn; clear hL hLn
  go_wp2_with fail
  go_loopw [8, 6, 7] (fun i p e wy => ∃ j : Nat, j ≤ L ∧ i = .int .i64 ((j : Int) - 1) ∧ PowSt (val xs) n j w wy p e) (fun i _ _ _ => (intOf i + 1).toNat)
  case atStart =>
    refine ⟨L, Nat.le_refl _, rfl, .inl ⟨rfl, ?_, ?_, HN2.out, HK2.out⟩⟩
    · rw [HLN.out, Nat.pow_zero]; exact HS2.out
    · rw [HLN.out, Nat.pow_zero]; decide +kernel
  case round =>
    obtain ⟨j, hj, rfl, hst⟩ := hrel
    rename World => wr
    rcases hst with ⟨rfl, hs, hl, hnw, hk⟩ | ⟨rfl, rfl, ho, hk⟩
    · by_cases hj0 : j = 0
      · subst hj0
        have FIN := Lib.hid (PowSt.got (.inl ⟨rfl, hs, hl, hnw, hk⟩))
        clear hs hl hnw hk
        go_wp2_with fail
        all_goals (try go_quiet (fail))
        all_goals (try go_wp2)
        go_ret2
        exact FIN.out
      · obtain ⟨k, rfl⟩ : ∃ k, j = k + 1 := ⟨j - 1, by omega⟩
        rw [show ((k + 1 : Nat) : Int) - 1 = (k : Int) by omega]
        have HP := Lib.hid hs; have HN := Lib.hid hnw; have HK := Lib.hid hk; have HPL := Lib.hid hl
        clear hs hnw hk hl hj0
        obtain ⟨m, hm⟩ : ∃ m, m = n / 2 ^ (k + 1) := ⟨_, rfl⟩
        rw [← hm] at HP HPL
        have hm2 : n / 2 ^ k = 2 * m + n / 2 ^ k % 2 := by
          rw [hm, Nat.pow_succ, ← Nat.div_div_eq_div_mul]; omega
        obtain ⟨b, hb⟩ : ∃ b, b = n / 2 ^ k := ⟨_, rfl⟩
        have hbn : b ≤ n := by rw [hb]; exact Nat.div_le_self _ _
        rw [← hb] at hm2
        have HB := Lib.hid hb; have HM2 := Lib.hid hm2
        clear hm hb
        go_wp2_with fail
        all_goals (try go_quiet (fail))
        all_goals (try go_wp2_with fail)
        refine (multiply_ok HP.out HP.out HPL.out HPL.out).mono ?_
        rintro e w2 ⟨⟨v2, rfl, hs2, hn2⟩, hk2⟩
        rw [val_limbs, ← Nat.pow_add] at hs2 ⊢
        have HK2 := Lib.hid (Kp.trans HK.out hk2); have HS2 := Lib.hid hs2; have HN2 := Lib.hid (hn2.mono HK.out.size); have HA2 := Lib.hid (HA.out.keep (Kp.trans HK.out hk2))
        clear hs2 hn2 hk2
        by_cases h2 : (limbs (val xs ^ (m + m))).length ≤ 128
        · rw [if_pos h2]
          have H2 := Lib.hid h2; clear h2
          have hband : bits .and .i64 ((n : Int) / 2 ^ k) 1 = ((b % 2 : Nat) : Int) := by
            rw [← i64_and_one b (by omega), HB.out]
            rfl
          by_cases hb1 : b % 2 = 1
          · have hbt : (bits .and .i64 ((n : Int) / 2 ^ k) 1 == 1) = true := by rw [hband, hb1]; rfl
            have HE : Hid (m + m + 1 = n / 2 ^ k) := by have := HB.out; have := HM2.out; show _ = _; omega
            clear hband hb1
            go_wp2_with fail
            refine (multiply_ok HS2.out HA2.out H2.out HCA.out.2).mono ?_
            rintro e w4 ⟨⟨v4, rfl, hs4, hn4⟩, hk4⟩
            rw [val_limbs, ← Nat.pow_succ] at hs4 ⊢
            have HK4 := Lib.hid (Kp.trans HK2.out hk4); have HS4 := Lib.hid hs4; have HN4 := Lib.hid (hn4.mono HK2.out.size)
            clear hs4 hn4 hk4
            by_cases h4 : (limbs (val xs ^ (m + m + 1))).length ≤ 128
            · have ST : Hid (PowSt (val xs) n k w w4 v4 (.int .i64 0)) := .inl ⟨rfl, by rw [← HE.out]; exact HS4.out, by rw [← HE.out]; exact h4, HN4.out, HK4.out⟩
              rw [if_pos h4]
              clear h4
              go_wp2
              go_roundw
              case rel => exact ⟨k, by omega, rfl, ST.out⟩
              case measure => simp [intOf] <;> omega
            · have OV : Hid (128 < (limbs (val xs ^ n)).length) := pow_over (m := m + m + 1) (by have := HE.out; have := HB.out; omega) (by omega)
              have ST : Hid (PowSt (val xs) n k w w4 (.slice none 0 0) (.int .i64 2)) := .inr ⟨rfl, rfl, OV.out, HK4.out⟩
              rw [if_neg h4]
              clear h4
              go_wp2
              go_roundw
              case rel => exact ⟨k, by omega, rfl, ST.out⟩
              case measure => simp [intOf] <;> omega
          · have hbt : (bits .and .i64 ((n : Int) / 2 ^ k) 1 == 1) = false := by rw [hband]; exact beq_eq_false_iff_ne.2 (by omega)
            have HE : Hid (m + m = n / 2 ^ k) := by have := HB.out; have := HM2.out; show _ = _; omega
            have ST : Hid (PowSt (val xs) n k w w2 v2 (.int .i64 0)) := .inl ⟨rfl, by rw [← HE.out]; exact HS2.out, by rw [← HE.out]; exact H2.out, HN2.out, HK2.out⟩
            clear hband hb1
            go_wp2
            go_roundw
            case rel => exact ⟨k, by omega, rfl, ST.out⟩
            case measure => simp [intOf] <;> omega
        · rw [if_neg h2]
          have OV : Hid (128 < (limbs (val xs ^ n)).length) := pow_over (m := m + m) (by omega) (by omega)
          clear h2
          go_wp2_with fail
          all_goals (try go_quiet (fail))
          all_goals (try go_wp2)
          go_roundw
          case rel => exact ⟨k, by omega, vint (by omega), .inr ⟨rfl, rfl, OV.out, HK2.out⟩⟩
          case measure => simp [intOf] <;> omega
    · have FIN := Lib.hid (Got.no hk ho)
      clear ho hk
      go_wp2_with fail
      all_goals (try go_quiet (fail))
      all_goals (try go_wp2)
      all_goals (go_ret2; exact FIN.out)
end Go.Proofs.YtdoponlhiidimaaGreatDoor
