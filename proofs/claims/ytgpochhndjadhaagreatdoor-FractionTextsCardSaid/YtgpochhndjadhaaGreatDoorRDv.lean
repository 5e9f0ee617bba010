/- Plain mathematics of the reference's division: an estimate by two limbs is the digit or one more, and the repair of one more; shifts down from the bottom. No condition. -/
import Derived.Test.YtgpochhndjadhaaGreatDoorDv
namespace LimbN

/-- The estimate, made less as long as it is too great by its second limb. -/
structure EstSt (q v1 top d rest : Nat) : Prop where
  ge : q ≤ d
  sum : d * v1 + rest = top
theorem est_start {q v1 top : Nat} (h : q ≤ top / v1) : EstSt q v1 top (top / v1) (top % v1) := ⟨h, by have := Nat.div_add_mod top v1; rw [Nat.mul_comm] at this; exact this⟩
/-- The digits of a window and of a divisor from their second limbs on. -/
structure Two (R D Q u2 top v2 v1 : Nat) : Prop where
  rl : Q * (u2 + 4294967296 * top) ≤ R
  rh : R < Q * (u2 + 4294967296 * top + 1)
  dl : Q * (v2 + 4294967296 * v1) ≤ D
  dh : D < Q * (v2 + 4294967296 * v1 + 1)
  pos : 0 < Q
  lt : R < 4294967296 * D
  hu2 : u2 < 4294967296
  hv2 : v2 < 4294967296
  hv1 : v1 < 4294967296
  nm : 2147483648 ≤ v1
theorem Two.dpos {R D Q u2 top v2 v1 : Nat} (h : Two R D Q u2 top v2 v1) : 0 < D := by
  have h1 := h.dl; have h2 := Nat.mul_pos h.pos (show 0 < v2 + 4294967296 * v1 by have := h.nm; omega); omega
theorem Two.qlt {R D Q u2 top v2 v1 : Nat} (h : Two R D Q u2 top v2 v1) : R / D < 4294967296 := (Nat.div_lt_iff_lt_mul h.dpos).2 h.lt
/-- The top two limbs are less than 2^32 times the divisor's top limb and its second one. -/
theorem Two.top {R D Q u2 top v2 v1 : Nat} (h : Two R D Q u2 top v2 v1) : top ≤ 4294967296 * v1 + v2 := by
  have h1 := h.rl; have h2 := h.dh; have h3 := h.lt; have hp := h.pos
  have h4 : Q * (u2 + 4294967296 * top) < Q * (4294967296 * (v2 + 4294967296 * v1 + 1)) := by
    rw [Nat.mul_left_comm Q 4294967296]
    have := Nat.mul_lt_mul_of_pos_left h2 (show 0 < 4294967296 by omega)
    omega
  have h5 := Nat.lt_of_mul_lt_mul_left h4
  omega
theorem Two.start {R D Q u2 top v2 v1 : Nat} (h : Two R D Q u2 top v2 v1) : R / D ≤ top / v1 := by
  have hv : 0 < v1 := by have := h.nm; omega
  rw [Nat.le_div_iff_mul_le hv]
  have h1 := h.rh; have h2 := h.dl; have h3 := Nat.div_mul_le_self R D
  have h4 : R / D * (Q * (v2 + 4294967296 * v1)) ≤ R / D * D := Nat.mul_le_mul_left _ h2
  have h5 : Q * (R / D * (v2 + 4294967296 * v1)) < Q * (u2 + 4294967296 * top + 1) := by rw [Nat.mul_left_comm]; omega
  have h6 := Nat.lt_of_mul_lt_mul_left h5
  rw [Nat.mul_add, Nat.mul_left_comm] at h6
  have := h.hu2
  omega
theorem Two.step {R D Q u2 top v2 v1 d rest : Nat} (h : Two R D Q u2 top v2 v1) (e : EstSt (R / D) v1 top d rest) (hc : 4294967296 ≤ d ∨ rest * 4294967296 + u2 < d * v2) :
    0 < d ∧ EstSt (R / D) v1 top (d - 1) (rest + v1) := by
  have key : R / D < d := by
    rcases hc with hc | hc
    · have := h.qlt; omega
    · have h1 := e.sum
      have h2 : u2 + 4294967296 * top + 1 ≤ d * (v2 + 4294967296 * v1) := by
        rw [Nat.mul_add, Nat.mul_left_comm, ← h1, Nat.mul_add]; omega
      have h3 : R < d * D := by
        have h4 := h.rh
        have h5 := Nat.mul_le_mul_left Q h2
        rw [Nat.mul_left_comm] at h5
        have h6 := Nat.mul_le_mul_left d h.dl
        omega
      exact (Nat.div_lt_iff_lt_mul h.dpos).2 h3
  have hd0 : 0 < d := Nat.lt_of_le_of_lt (Nat.zero_le _) key
  obtain ⟨k, rfl⟩ : ∃ k, d = k + 1 := ⟨d - 1, by omega⟩
  have h1 := e.sum
  rw [Nat.succ_mul] at h1
  exact ⟨by omega, by omega, by rw [Nat.add_sub_cancel]; omega⟩
theorem Two.fin {R D Q u2 top v2 v1 d rest : Nat} (h : Two R D Q u2 top v2 v1) (e : EstSt (R / D) v1 top d rest) (hc : 4294967296 ≤ rest ∨ (d < 4294967296 ∧ d * v2 ≤ rest * 4294967296 + u2)) :
    d < 4294967296 ∧ R / D ≤ d ∧ d ≤ R / D + 1 := by
  have ht := h.top; have hs := e.sum; have hv := h.nm; have hv2 := h.hv2
  have hd : d < 4294967296 := by
    rcases hc with hc | hc
    · have h1 : d * v1 < 4294967296 * v1 := by omega
      exact Nat.lt_of_mul_lt_mul_right h1
    · exact hc.1
  refine ⟨hd, e.ge, ?_⟩
  rcases Nat.eq_zero_or_pos d with h0 | h0
  · rw [h0]; exact Nat.zero_le _
  obtain ⟨k, rfl⟩ : ∃ k, d = k + 1 := ⟨d - 1, by omega⟩
  suffices k ≤ R / D by omega
  rw [Nat.le_div_iff_mul_le h.dpos]
  have hk : k * (v2 + 4294967296 * v1 + 1) ≤ u2 + 4294967296 * top := by
    rw [Nat.succ_mul] at hs
    rw [Nat.mul_add, Nat.mul_add, Nat.mul_left_comm, Nat.mul_one]
    rcases hc with hc | hc
    · have hkv : k * v2 ≤ k * 4294967296 := Nat.mul_le_mul_left _ (by omega)
      have := h.hu2
      omega
    · have h2 := hc.2
      rw [Nat.succ_mul] at h2
      omega
  have h3 := Nat.mul_le_mul_left Q hk
  have h4 := h.rl
  have h5 := Nat.mul_le_mul_left k (Nat.le_of_lt h.dh)
  rw [Nat.mul_left_comm] at h5
  omega
theorem place_end {R D P S d c : Nat} (h : S + d * D = R + P * c) (hS : S < P) (hD : 0 < D) (h1 : R / D ≤ d) (h2 : d ≤ R / D + 1) (hdp : d * D ≤ R + P) :
    c ≤ 1 ∧ (c = 0 → d = R / D ∧ S = R % D) ∧ (c = 1 → d = R / D + 1 ∧ S + D = R % D + P) := by
  have h3 := Nat.div_add_mod R D
  have h4 := Nat.mod_lt R hD
  have hc : c ≤ 1 := by
    rcases Nat.lt_or_ge c 2 with h5 | h5
    · omega
    · have := Nat.mul_le_mul_left P h5; omega
  rw [Nat.mul_comm D] at h3
  have hd : d = R / D ∨ d = R / D + 1 := by omega
  refine ⟨hc, fun h0 => ?_, fun h0 => ?_⟩
  · subst h0
    rcases hd with hd | hd
    · rw [hd] at h; exact ⟨hd, by omega⟩
    · rw [hd, Nat.succ_mul] at h; omega
  · subst h0
    rcases hd with hd | hd
    · rw [hd] at h; omega
    · rw [hd, Nat.succ_mul] at h; exact ⟨hd, by omega⟩
/-- The row after the digits below k have been shifted down, from the bottom on. -/
structure LowRel (xs : List Nat) (s k : Nat) (zr : List Nat) : Prop where
  len : zr.length = xs.length
  lt : Lt zr
  high : ∀ i : Nat, k ≤ i → zr[i]?.getD 0 = xs[i]?.getD 0
  quo : val (zr.take k) + 4294967296 ^ k * (val (xs.drop k) / 2 ^ s) = val xs / 2 ^ s
theorem LowRel.start {xs : List Nat} (s : Nat) (hx : Lt xs) : LowRel xs s 0 xs := ⟨rfl, hx, fun _ _ => rfl, by simp [val]⟩
theorem LowRel.step {xs zr : List Nat} {s k t : Nat} (h : LowRel xs s k zr) (hs : s < 32) (hm : k < xs.length) (hx : Lt xs) (ht : t = xs[k]?.getD 0 + 4294967296 * xs[k + 1]?.getD 0) :
    t / 2 ^ s % 4294967296 < 4294967296 ∧ LowRel xs s (k + 1) (zr.set k (t / 2 ^ s % 4294967296)) := by
  have hb : t / 2 ^ s % 4294967296 < 4294967296 := Nat.mod_lt _ (by omega)
  refine ⟨hb, by simpa using h.len, h.lt.set _ _ hb, fun i hi => ?_, ?_⟩
  · rw [getD_set _ _ _ _ (by rw [h.len]; exact hm), if_neg (by omega)]; exact h.high i (by omega)
  · have hk := (pow_lt32 hs).1
    have e32 := pow32 hs
    have hy : xs[k + 1]?.getD 0 % 2 ^ s = val (xs.drop (k + 1)) % 2 ^ s := by
      by_cases hm1 : k + 1 < xs.length
      · rw [val_drop hm1, ← e32, Nat.mul_assoc, Nat.add_mul_mod_self_left]
      · rw [List.getElem?_eq_none (by omega), List.drop_of_length_le (by omega)]; rfl
    obtain ⟨d1, -⟩ := div_step (d := 2 ^ s) (V := val (xs.drop (k + 1))) (x := xs[k]?.getD 0) rfl rfl rfl
    obtain ⟨d3, -⟩ := div_step (d := 2 ^ s) (V := xs[k + 1]?.getD 0) (x := xs[k]?.getD 0) rfl rfl rfl
    have hr : (xs[k]?.getD 0 + 4294967296 * (val (xs.drop (k + 1)) % 2 ^ s)) / 2 ^ s < 4294967296 := by
      rw [Nat.div_lt_iff_lt_mul hk]
      have h1 := hx k
      have h2 := Nat.mul_le_mul_left 4294967296 (Nat.mod_lt (val (xs.drop (k + 1))) hk)
      rw [Nat.mul_succ] at h2
      omega
    have ed : t / 2 ^ s % 4294967296 = (xs[k]?.getD 0 + 4294967296 * (val (xs.drop (k + 1)) % 2 ^ s)) / 2 ^ s := by
      rw [ht, d3, hy, Nat.add_mul_mod_self_left, Nat.mod_eq_of_lt hr]
    have e1 : val ((zr.set k (t / 2 ^ s % 4294967296)).take k) = val (zr.take k) := by
      rw [List.take_set_of_le (Nat.le_refl k)]
    have hq := h.quo
    rw [val_drop hm, d1, Nat.mul_add, ← ed] at hq
    rw [val_take_succ, e1, getD_set _ _ _ _ (by rw [h.len]; exact hm), if_pos rfl, Nat.pow_succ, Nat.mul_assoc]
    omega
theorem LowRel.fin {xs zr : List Nat} {s : Nat} (h : LowRel xs s xs.length zr) : val zr = val xs / 2 ^ s := by
  have := h.quo
  rwa [List.take_of_length_le (by rw [h.len]; exact Nat.le_refl _), List.drop_of_length_le (Nat.le_refl _), show val [] = 0 from rfl, Nat.zero_div, Nat.mul_zero, Nat.add_zero] at this
/-- Greatest common divisors, by shifting and subtracting. -/
theorem gcd_odd_two {y : Nat} (hy : y % 2 = 1) (z : Nat) : Nat.gcd (2 ^ z) y = 1 := by
  have h2 : Nat.Coprime 2 y := by
    unfold Nat.Coprime
    rw [Nat.gcd_comm, Nat.gcd_rec, Nat.gcd_comm] 
    have : 2 % y = 0 ∨ 2 % y = 1 ∨ 2 % y = 2 := by have := Nat.mod_le 2 y; omega
    rw [Nat.gcd_comm, ← Nat.gcd_rec, Nat.gcd_comm, Nat.gcd_rec, hy]; rfl
  exact Nat.Coprime.pow_left z h2
theorem gcd_shift {x y z : Nat} (hy : y % 2 = 1) (hd : 2 ^ z ∣ x) : Nat.gcd (x / 2 ^ z) y = Nat.gcd x y := by
  obtain ⟨m, rfl⟩ := hd
  rw [Nat.mul_div_cancel_left _ (Nat.pow_pos (by omega))]
  exact (Nat.Coprime.gcd_mul_left_cancel m (gcd_odd_two hy z)).symm
theorem gcd_sub_le {x y : Nat} (h : y ≤ x) : Nat.gcd (x - y) y = Nat.gcd x y := Nat.gcd_sub_self_left h
/-- The two's parts taken out of two numbers. -/
theorem gcd_twos {a b i k : Nat} (hi : 2 ^ i ∣ a) (hk : 2 ^ k ∣ b) (oa : a / 2 ^ i % 2 = 1) (ob : b / 2 ^ k % 2 = 1) : Nat.gcd (a / 2 ^ i) (b / 2 ^ k) * 2 ^ min i k = Nat.gcd a b := by
  obtain ⟨m, rfl⟩ := hi
  obtain ⟨n, rfl⟩ := hk
  rw [Nat.mul_div_cancel_left _ (Nat.pow_pos (by omega))] at oa ⊢
  rw [Nat.mul_div_cancel_left _ (Nat.pow_pos (by omega))] at ob ⊢
  rcases Nat.le_total i k with h | h
  · obtain ⟨d, rfl⟩ : ∃ d, k = i + d := ⟨k - i, by omega⟩
    rw [Nat.min_eq_left h, Nat.pow_add, Nat.mul_assoc, Nat.gcd_mul_left, Nat.mul_comm]
    congr 1
    rw [Nat.gcd_comm m, Nat.gcd_comm m]
    exact (Nat.Coprime.gcd_mul_left_cancel n (gcd_odd_two oa d)).symm
  · obtain ⟨d, rfl⟩ : ∃ d, i = k + d := ⟨i - k, by omega⟩
    rw [Nat.min_eq_right h, Nat.pow_add, Nat.mul_assoc, Nat.gcd_mul_left, Nat.mul_comm]
    congr 1
    exact (Nat.Coprime.gcd_mul_left_cancel m (gcd_odd_two ob d)).symm
end LimbN
