/- The fractions' Format of a well-formed fraction. Conditions: the slices hold the numbers that are named, in lowest terms; the library's table of powers of ten holds what its text lays. -/
import Derived.Test.YtdoponlhiidimaaGreatDoorMCa
import Derived.Test.YtdoponlhiidimaaGreatDoorBack
namespace Go.Proofs.YtdoponlhiidimaaGreatDoor
open Go.RowKit LimbN

theorem format_n {n : Nat} {va : Value} {w : World} (ha : Sl w va (limbs n)) (hl : (limbs n).length ≤ 128) (htab : Tab w) :
    Calls Tryz.prog 56 #[va] w fun e w' => e = .returned (.tuple #[.string (decS n), .int .i64 0]) ∧ Kp w w' := by
  by_cases h0 : n = 0
  · subst h0
    exact (Format_zero ha).mono fun e w' h => ⟨h.1, Kp.of_eq h.2⟩
  · have := Format_pos ha (wf_limbs hl) (by rw [limbs_pos h0]; exact List.cons_ne_nil _ _) htab
    rwa [val_limbs] at this
theorem dec_size (n k : Nat) (hk : 1 ≤ k) (h : n < 4294967296 ^ k) : (decS n).size ≤ 10 * k := by
  rw [decS_size]
  refine nDigits_le _ _ (by omega) (Nat.lt_of_lt_of_le h ?_)
  rw [Nat.pow_mul]
  exact Nat.pow_le_pow_left (by decide) k
/-- a fraction's text. -/
def fracS (a b : Nat) : ByteArray := if b = 1 then decS a else decS a ++ ⟨#[47]⟩ ++ decS b
set_option maxRecDepth 100000 in
set_option maxHeartbeats 1600000 in
theorem FFormat_n {a b : Nat} {va vb : Value} {w : World} (h1 : (limbs a).length ≤ 128) (h2 : (limbs b).length ≤ 128) (h0 : b ≠ 0) (hab : Nat.gcd a b = 1) (ha : Sl w va (limbs a)) (hb : Sl w vb (limbs b)) (htab : Tab w) :
    Calls Tryz.prog 37 #[.agg #[va, vb]] w fun e w' => e = .returned (.tuple #[.string (fracS a b), .int .i64 0]) ∧ Kp w w' := by
  obtain ⟨ao, al, ac, rfl⟩ := ha.open3
  obtain ⟨bo, bl, bc, rfl⟩ := hb.open3
  obtain ⟨w1, hw1, HK1, HB1, hz1⟩ := box2 w 26 (.slice ao al ac) (.slice bo bl bc)
  have HA := Lib.hid (ha.keep HK1.out); have HB := Lib.hid (hb.keep HK1.out); have HT := Lib.hid (htab.keep HK1.out)
  have c10 := HB1.out.c0; have c11 := HB1.out.c1
  rw [hw1] at c10 c11
  have HW := Lib.hid hw1
  have HOK := Lib.hid (frOk_n h1 h2 h0 hab)
  have H1 := Lib.hid h1; have H2 := Lib.hid h2
  obtain ⟨S, hS⟩ : ∃ S, S = fracS a b := ⟨_, rfl⟩
  rw [← hS]
  have HS := Lib.hid hS
  obtain ⟨sa, hsa⟩ : ∃ sa, sa = decS a := ⟨_, rfl⟩
  obtain ⟨sb', hsb⟩ : ∃ sb', sb' = decS b := ⟨_, rfl⟩
  have HSA := Lib.hid hsa; have HSB := Lib.hid hsb
  have hza := dec_size a 128 (by decide) (limbs_len_le.1 h1)
  have hzb := dec_size b 128 (by decide) (limbs_len_le.1 h2)
  rw [← hsa] at hza
  rw [← hsb] at hzb
  have hn1 : ¬ (9223372036854775807 < sa.size + 1) := by omega
  have hn2 : ¬ (9223372036854775807 < sa.size + 1 + sb'.size) := by omega
  clear hza hzb
  clear hw1 ha hb htab h1 h2 h0 hab hz1 hS hsa hsb
  go_enter Tryz.func37, Tryz.ntmps37
  go_wp2_with fail
  rw [← HW.out]
  refine (Check_any HA.out HB.out).mono ?_
  rintro e w2 ⟨rfl, hk⟩
  rw [HOK.out]
  have HK2 := Lib.hid hk
  clear hk c10 c11
  have c10 := (HB1.out.keep HK2.out).c0
  go_wp2_with fail
  refine (format_n (HA.out.keep HK2.out) H1.out (HT.out.keep HK2.out)).mono ?_
  rintro e w3 ⟨rfl, hk⟩
  rw [← HSA.out]
  have HK3 := Lib.hid (Kp.trans HK2.out hk)
  clear hk c10
  have c11 := (HB1.out.keep HK3.out).c1
  go_wp2_with fail
  refine (isOne_n (HB.out.keep HK3.out)).mono ?_
  rintro e w4 ⟨rfl, rfl⟩
  by_cases hb1 : b = 1
  · rw [decide_eq_true hb1]
    have hSS : S = sa := by rw [HS.out, HSA.out]; unfold fracS; rw [if_pos hb1]
    have FIN2 : Hid ((.returned (.tuple #[.string sa, .int .i64 0]) : Ending) = .returned (.tuple #[.string S, .int .i64 0]) ∧ Kp w w3) := ⟨by rw [hSS], Kp.trans HK1.out HK3.out⟩
    clear hb1 hSS
    go_wp2_with fail
    go_ret2
    exact FIN2.out
  · rw [decide_eq_false hb1]
    have hSS : S = sa ++ ⟨#[47]⟩ ++ sb' := by rw [HS.out, HSA.out, HSB.out]; unfold fracS; rw [if_neg hb1]
    have HSS := Lib.hid hSS
    clear hb1 hSS
    go_wp2_with fail
    refine (format_n (HB.out.keep HK3.out) H2.out (HT.out.keep HK3.out)).mono ?_
    rintro e w5 ⟨rfl, hk⟩
    rw [← HSB.out]
    have FIN2 : Hid ((.returned (.tuple #[.string (sa ++ ⟨#[47]⟩ ++ sb'), .int .i64 0]) : Ending) = .returned (.tuple #[.string S, .int .i64 0]) ∧ Kp w w5) := ⟨by rw [HSS.out], Kp.trans HK1.out (Kp.trans HK3.out hk)⟩
    clear hk
    go_wp2_with fail
    go_ret2
    exact FIN2.out
end Go.Proofs.YtdoponlhiidimaaGreatDoor
