/- The law on powers: it returns true for every list of digits and every exponent. Condition: the library's table of powers of ten holds what its text lays. -/
import Derived.Test.YtabaocikjjfheaaDoorRPow
import Derived.Test.YtabaocikjjfheaaDoorReads
namespace Go.Proofs.YtabaocikjjfheaaDoor
open Go.RowKit LimbN

open Classical in
/-- the error of a power. -/
noncomputable def powE (xs : List Nat) (n : Int) : Int := if wf xs = false then 1 else if n < 0 ∨ 65536 < n then 3 else if (limbs (val xs ^ n.toNat)).length ≤ 128 then 0 else 2
open Classical in
/-- the power, nothing if there is an error. -/
noncomputable def powV (xs : List Nat) (n : Int) : List Nat := if powE xs n = 0 then limbs (val xs ^ n.toNat) else []
/-- what both Pows answer. -/
def PowR (xs : List Nat) (n : Int) (w : World) (e : Ending) (w' : World) : Prop :=
  ∃ v, e = .returned (.tuple #[v, .int .i64 (powE xs n)]) ∧ Sl w' v (powV xs n) ∧ Kp w w'
theorem PowR.bad1 {xs : List Nat} {n : Int} {w w' : World} {e : Ending} (hx : wf xs = false) (h : e = Bad1 ∧ w = w') : PowR xs n w e w' := by
  obtain ⟨rfl, rfl⟩ := h
  have e1 : powE xs n = 1 := by unfold powE; rw [if_pos hx]
  have e2 : powV xs n = [] := by unfold powV; rw [if_neg (by rw [e1]; decide)]
  exact ⟨_, by rw [e1]; rfl, by rw [e2]; exact Sl.nil _, Kp.refl _⟩
theorem PowR.bad3 {xs : List Nat} {n : Int} {w w' : World} {e : Ending} (hx : wf xs = true) (hn : n < 0 ∨ 65536 < n) (h : e = Bad3 ∧ w = w') : PowR xs n w e w' := by
  obtain ⟨rfl, rfl⟩ := h
  have e1 : powE xs n = 3 := by unfold powE; rw [if_neg (by rw [hx]; decide), if_pos hn]
  have e2 : powV xs n = [] := by unfold powV; rw [if_neg (by rw [e1]; decide)]
  exact ⟨_, by rw [e1]; rfl, by rw [e2]; exact Sl.nil _, Kp.refl _⟩
theorem PowR.got {xs : List Nat} {n : Int} {w w' : World} {e : Ending} (hx : wf xs = true) (hn : ¬ (n < 0 ∨ 65536 < n)) (h : Got (val xs ^ n.toNat) w e w') : PowR xs n w e w' := by
  by_cases hl : (limbs (val xs ^ n.toNat)).length ≤ 128
  · have e1 : powE xs n = 0 := by unfold powE; rw [if_neg (by rw [hx]; decide), if_neg hn, if_pos hl]
    have e2 : powV xs n = limbs (val xs ^ n.toNat) := by unfold powV; rw [if_pos e1]
    obtain ⟨v, rfl, hs, -⟩ := h.ok hl
    exact ⟨v, by rw [e1], by rw [e2]; exact hs, h.kp⟩
  · have e1 : powE xs n = 2 := by unfold powE; rw [if_neg (by rw [hx]; decide), if_neg hn, if_neg hl]
    have e2 : powV xs n = [] := by unfold powV; rw [if_neg (by rw [e1]; decide)]
    exact ⟨_, by rw [e1]; exact h.over (by omega), by rw [e2]; exact Sl.nil _, h.kp⟩
theorem Pow_any {xs : List Nat} {va : Value} {w : World} (ha : Sl w va xs) (n : Int) : Calls Tryd.prog 34 #[va, .int .i64 n] w (PowR xs n w) := by
  cases hx : wf xs with
  | false => exact (Pow_bad1 ha hx n).mono fun e w' h => PowR.bad1 hx h
  | true =>
    by_cases hn : n < 0 ∨ 65536 < n
    · exact (Pow_bad3 ha hx n hn).mono fun e w' h => PowR.bad3 hx hn h
    · obtain ⟨m, rfl⟩ : ∃ m : Nat, n = m := ⟨n.toNat, by omega⟩
      exact (Pow_ok ha hx m (by omega)).mono fun e w' h => PowR.got hx hn (by rw [Int.toNat_natCast]; exact h)
theorem rPow_any {xs : List Nat} {va : Value} {w : World} (ha : Sl w va xs) (n : Int) : Calls Tryd.prog 35 #[va, .int .i64 n] w (PowR xs n w) := by
  cases hx : wf xs with
  | false => exact (rPow_bad1 ha hx n).mono fun e w' h => PowR.bad1 hx h
  | true =>
    by_cases hn : n < 0 ∨ 65536 < n
    · exact (rPow_bad3 ha hx n hn).mono fun e w' h => PowR.bad3 hx hn h
    · obtain ⟨m, rfl⟩ : ∃ m : Nat, n = m := ⟨n.toNat, by omega⟩
      by_cases hc : (xs = [] ∧ 0 < m) ∨ xs = [1]
      · exact (rPow_early ha hx m (by omega) hc).mono fun e w' h => PowR.got hx hn (by rw [Int.toNat_natCast]; exact h)
      · exact (rPow_loop ha hx m (by omega) hc).mono fun e w' h => PowR.got hx hn (by rw [Int.toNat_natCast]; exact h)

set_option maxHeartbeats 1000000 in
/-- The laws' own comparison, of equal results. -/
theorem lsame_any {xs : List Nat} {va vb : Value} {w : World} (n : Int) (ha : Sl w va xs) (hb : Sl w vb xs) :
    Calls Tryd.prog 24 #[va, .int .i64 n, vb, .int .i64 n] w fun e w' => e = .returned (.bool true) ∧ Kp w w' := by
  have HA := Lib.hid ha; have HB := Lib.hid hb; clear ha hb
  go_enter Tryd.func24, Tryd.ntmps24
  go_wp2_with fail
  refine (same_any HA.out HB.out).mono ?_
  rintro e w2 ⟨rfl, hd⟩
  have HK := Lib.hid hd.kp; clear hd
  rw [decide_eq_true rfl]
  go_wp2
  go_ret
  exact ⟨rfl, HK.out⟩

set_option maxRecDepth 100000 in
set_option maxHeartbeats 2000000 in
theorem powers_any {xs : List Nat} {va : Value} {w : World} (ha : Sl w va xs) (n : Int) (hn : -9223372036854775808 ≤ n ∧ n ≤ 9223372036854775807) (htab : Tab w) :
    Calls Tryd.prog 5 #[va, .int .i64 n] w fun e w' => e = .returned (.bool true) ∧ Kp w w' := by
  have HT := Lib.hid htab; have HA := Lib.hid ha; clear htab ha
  go_enter Tryd.func5, Tryd.ntmps5
  go_wp2_with fail
  refine (bounded_any HA.out).mono ?_
  rintro e w1 ⟨⟨va1, rfl, ha1⟩, rfl⟩
  obtain ⟨x, hx⟩ : ∃ x, x = xs.take 140 := ⟨_, rfl⟩
  rw [← hx] at ha1
  clear hx
  obtain ⟨ao, cap, rfl, hlc, hcm, -, -⟩ := ha1.ex
  unfold maxLen at hcm
  have HA1 := Lib.hid ha1; clear ha1
  obtain ⟨l, hl⟩ : ∃ l, l = x.length := ⟨_, rfl⟩
  rw [← hl] at HA1 hlc ⊢
  clear hl
  by_cases h3 : 3 < l
  · by_cases h200 : 200 < n
    · go_wp2_with fail
      refine (Pow_any HA1.out 200).mono ?_
      rintro e w2 ⟨v2, rfl, hs2, hk2⟩
      have HS2 := Lib.hid hs2; have HK2 := Lib.hid hk2; have HA2 := Lib.hid (HA1.out.keep hk2); clear hs2 hk2
      go_wp2_with fail
      refine (rPow_any HA2.out 200).mono ?_
      rintro e w3 ⟨v3, rfl, hs3, hk3⟩
      have HS3 := Lib.hid hs3; have HK3 := Lib.hid (Kp.trans HK2.out hk3); have HS23 := Lib.hid (HS2.out.keep hk3); clear hs3 hk3
      obtain ⟨er, her⟩ : ∃ er, er = powE x 200 := ⟨_, rfl⟩
      rw [← her]
      clear her
      go_wp2_with fail
      refine (lsame_any er HS23.out HS3.out).mono ?_
      rintro e w4 ⟨rfl, hk4⟩
      have HK4 := Lib.hid (Kp.trans HK3.out hk4); clear hk4
      go_wp2_with fail
      refine (awake_any w4 (HT.out.keep HK4.out)).mono ?_
      rintro e w5 ⟨rfl, hk5⟩
      have HK5 := Lib.hid (Kp.trans HK4.out hk5); clear hk5
      go_wp2
      go_ret
      exact ⟨rfl, HK5.out⟩
    · go_wp2_with fail
      refine (Pow_any HA1.out n).mono ?_
      rintro e w2 ⟨v2, rfl, hs2, hk2⟩
      have HS2 := Lib.hid hs2; have HK2 := Lib.hid hk2; have HA2 := Lib.hid (HA1.out.keep hk2); clear hs2 hk2
      go_wp2_with fail
      refine (rPow_any HA2.out n).mono ?_
      rintro e w3 ⟨v3, rfl, hs3, hk3⟩
      have HS3 := Lib.hid hs3; have HK3 := Lib.hid (Kp.trans HK2.out hk3); have HS23 := Lib.hid (HS2.out.keep hk3); clear hs3 hk3
      obtain ⟨er, her⟩ : ∃ er, er = powE x n := ⟨_, rfl⟩
      rw [← her]
      clear her
      go_wp2_with fail
      refine (lsame_any er HS23.out HS3.out).mono ?_
      rintro e w4 ⟨rfl, hk4⟩
      have HK4 := Lib.hid (Kp.trans HK3.out hk4); clear hk4
      go_wp2_with fail
      refine (awake_any w4 (HT.out.keep HK4.out)).mono ?_
      rintro e w5 ⟨rfl, hk5⟩
      have HK5 := Lib.hid (Kp.trans HK4.out hk5); clear hk5
      go_wp2
      go_ret
      exact ⟨rfl, HK5.out⟩
  · go_wp2_with fail
    refine (Pow_any HA1.out n).mono ?_
    rintro e w2 ⟨v2, rfl, hs2, hk2⟩
    have HS2 := Lib.hid hs2; have HK2 := Lib.hid hk2; have HA2 := Lib.hid (HA1.out.keep hk2); clear hs2 hk2
    go_wp2_with fail
    refine (rPow_any HA2.out n).mono ?_
    rintro e w3 ⟨v3, rfl, hs3, hk3⟩
    have HS3 := Lib.hid hs3; have HK3 := Lib.hid (Kp.trans HK2.out hk3); have HS23 := Lib.hid (HS2.out.keep hk3); clear hs3 hk3
    obtain ⟨er, her⟩ : ∃ er, er = powE x n := ⟨_, rfl⟩
    rw [← her]
    clear her
    go_wp2_with fail
    refine (lsame_any er HS23.out HS3.out).mono ?_
    rintro e w4 ⟨rfl, hk4⟩
    have HK4 := Lib.hid (Kp.trans HK3.out hk4); clear hk4
    go_wp2_with fail
    refine (awake_any w4 (HT.out.keep HK4.out)).mono ?_
    rintro e w5 ⟨rfl, hk5⟩
    have HK5 := Lib.hid (Kp.trans HK4.out hk5); clear hk5
    go_wp2
    go_ret
    exact ⟨rfl, HK5.out⟩
end Go.Proofs.YtabaocikjjfheaaDoor
