/- Plain mathematics of long division: a guessed digit and its repair, the digits from the top on, shifts by fewer than 32 bits. No condition. -/
import Derived.Test.YtgpochhndjadhaaGreatDoorNm
namespace LimbN

theorem seg_lt {zs : List Nat} (h : Lt zs) (o k : Nat) : seg zs o k < 4294967296 ^ k := by
  unfold seg
  have h1 := val_lt ((h.drop o).take k)
  refine Nat.lt_of_lt_of_le h1 (Nat.pow_le_pow_right (by omega) ?_)
  rw [List.length_take]; omega
/-- The guess by the top limbs is not too small. -/
theorem guess_ge {R D B lo P top dlo dt : Nat} (hR : R < B * D) (e1 : R = lo + P * top) (h1 : lo < P) (e2 : D = dlo + P * dt) (h2 : 0 < dt) : R / D ≤ top / dt ∧ R / D ≤ B - 1 := by
  have hP : 0 < P := by omega
  have hD : 0 < D := by have := Nat.mul_pos hP h2; omega
  constructor
  · rw [Nat.le_div_iff_mul_le h2]
    have h3 : R / D * D ≤ R := Nat.div_mul_le_self R D
    have h4 : R / D * (P * dt) ≤ R / D * D := Nat.mul_le_mul_left _ (by omega)
    have h5 : P * (R / D * dt) < P * (top + 1) := by
      rw [Nat.mul_left_comm, Nat.mul_add]; omega
    have := Nat.lt_of_mul_lt_mul_left h5
    omega
  · have := (Nat.div_lt_iff_lt_mul hD).2 hR
    omega
/-- How a digit stands while it is being found: S is what is left, P the size of the row. -/
def DigSt (R D P g S : Nat) (neg : Bool) : Prop := if neg then S + g * D = R + P ∧ S < P else S + g * D = R ∧ S < D
theorem dig_start {R D P g S c : Nat} (h : S + g * D = R + P * c) (hS : S < P) (hg : g * D < P) (hge : R / D ≤ g) (hD : 0 < D) : DigSt R D P g S (!(decide (c = 0))) := by
  have hc : c < 2 := by
    rcases Nat.lt_or_ge c 2 with h2 | h2
    · exact h2
    · have := Nat.mul_le_mul_left P h2; omega
  by_cases h0 : c = 0
  · subst h0
    simp only [DigSt, decide_true, Bool.not_true, Bool.false_eq_true, if_false]
    refine ⟨by simpa using h, ?_⟩
    have h3 := Nat.div_add_mod R D
    have h4 := Nat.mod_lt R hD
    have h5 := Nat.mul_le_mul_left D hge
    rw [Nat.mul_comm g D] at h
    omega
  · have h1 : c = 1 := by omega
    subst h1
    simp only [DigSt, decide_false, Nat.one_ne_zero, Bool.not_false, if_true]
    exact ⟨by omega, hS⟩
theorem dig_step {R D P g S S' c : Nat} (h : DigSt R D P g S true) (ha : S' + P * c = S + D) (hS : S' < P) (hc : c ≤ 1) : 0 < g ∧ DigSt R D P (g - 1) S' (!(!(decide (c = 0)))) := by
  simp only [DigSt, if_true] at h
  obtain ⟨h, hs⟩ := h
  have hg : 0 < g := by
    rcases Nat.eq_zero_or_pos g with h0 | h0
    · subst h0; omega
    · exact h0
  obtain ⟨k, rfl⟩ : ∃ k, g = k + 1 := ⟨g - 1, by omega⟩
  rw [Nat.succ_mul] at h
  refine ⟨hg, ?_⟩
  rw [Nat.add_sub_cancel, Bool.not_not]
  by_cases h0 : c = 0
  · subst h0
    simp only [DigSt, decide_true, if_true]
    exact ⟨by omega, hS⟩
  · have h1 : c = 1 := by omega
    subst h1
    simp only [DigSt, decide_false, Nat.one_ne_zero, Bool.false_eq_true, if_false]
    exact ⟨by omega, by omega⟩
theorem dig_end {R D P g S : Nat} (h : DigSt R D P g S false) : g = R / D ∧ S = R % D := by
  simp only [DigSt, Bool.false_eq_true, if_false] at h
  obtain ⟨h1, h2⟩ := h
  have hD : 0 < D := by omega
  have e : R = S + D * g := by rw [Nat.mul_comm D g]; omega
  constructor
  · rw [e, Nat.add_mul_div_left _ _ hD, Nat.div_eq_of_lt h2, Nat.zero_add]
  · rw [e, Nat.add_mul_mod_self_left, Nat.mod_eq_of_lt h2]
/-- A row of digits of which only those from o on, k of them, have changed. -/
structure DigRel (zs : List Nat) (o k D q : Nat) (zr : List Nat) : Prop where
  len : zr.length = zs.length
  lt : Lt zr
  other : ∀ i : Nat, i < o ∨ o + k ≤ i → zr[i]?.getD 0 = zs[i]?.getD 0
  quo : q = seg zs o k / D
  rem : seg zr o k = seg zs o k % D
/-- The rows of a division after the digits from m on have been found. -/
structure LongRel (xs : List Nat) (D m : Nat) (zr ds : List Nat) : Prop where
  len : zr.length = xs.length
  lt : Lt zr
  low : ∀ i : Nat, i < m → zr[i]?.getD 0 = xs[i]?.getD 0
  rem : val (zr.drop m) = val (xs.drop m) % D
  ltq : Lt ds
  quo : val (ds.drop m) = val (xs.drop m) / D
theorem LongRel.start {xs : List Nat} {D : Nat} (m : Nat) (hx : Lt xs) (h : val (xs.drop m) < D) : LongRel xs D m xs (List.replicate m 0) :=
  ⟨rfl, hx, fun _ _ => rfl, (Nat.mod_eq_of_lt h).symm, Lt.replicate _, by rw [Nat.div_eq_of_lt h, List.drop_of_length_le (by simp)]; rfl⟩
theorem seg_drop_zero {zs : List Nat} {o k : Nat} (h : ∀ i : Nat, o + k ≤ i → zs[i]?.getD 0 = 0) : seg zs o k = val (zs.drop o) := by
  unfold seg
  exact val_take k (fun i hi => by rw [List.getElem?_drop]; exact h _ (by omega))
/-- A value below 2^(32 n) has no digit from n on. -/
theorem high_zero {zs : List Nat} {n : Nat} (h : val zs < 4294967296 ^ n) : ∀ i : Nat, n ≤ i → zs[i]?.getD 0 = 0 := by
  intro i hi
  by_cases hl : n ≤ zs.length
  · have e : val zs = val (zs.take n) + 4294967296 ^ n * val (zs.drop n) := by
      have := val_append (zs.take n) (zs.drop n)
      rwa [List.take_append_drop, List.length_take, Nat.min_eq_left hl] at this
    have h0 : val (zs.drop n) = 0 := by
      rcases Nat.eq_zero_or_pos (val (zs.drop n)) with h1 | h1
      · exact h1
      · have := Nat.le_mul_of_pos_right (4294967296 ^ n) h1; omega
    have := val_eq_zero.1 h0 (i - n)
    rwa [List.getElem?_drop, show n + (i - n) = i by omega] at this
  · rw [List.getElem?_eq_none (by omega)]; rfl
theorem LongRel.window {xs zr ds : List Nat} {D m n : Nat} (h : LongRel xs D (m + 1) zr ds) (hm : m < xs.length) (hD : 0 < D) (hn : D ≤ 4294967296 ^ n) :
    seg zr m (n + 1) = xs[m]?.getD 0 + 4294967296 * (val (xs.drop (m + 1)) % D) ∧ seg zr m (n + 1) = val (zr.drop m) ∧ (∀ i : Nat, m + (n + 1) ≤ i → zr[i]?.getD 0 = 0) := by
  have hr : val (zr.drop (m + 1)) < 4294967296 ^ n := by rw [h.rem]; exact Nat.lt_of_lt_of_le (Nat.mod_lt _ hD) hn
  have hz : ∀ i : Nat, m + (n + 1) ≤ i → zr[i]?.getD 0 = 0 := by
    intro i hi
    have := high_zero hr (i - (m + 1)) (by omega)
    rwa [List.getElem?_drop, show m + 1 + (i - (m + 1)) = i by omega] at this
  have e := seg_drop_zero hz
  refine ⟨?_, e, hz⟩
  rw [e, val_drop (by rw [h.len]; exact hm), h.rem, h.low m (by omega)]
theorem LongRel.step {xs zr ds zr' : List Nat} {D m n q : Nat} (h : LongRel xs D (m + 1) zr ds) (hm : m < xs.length) (hd : m < ds.length) (hD : 0 < D) (hn : D ≤ 4294967296 ^ n) (hq : q < 4294967296) (hr : DigRel zr m (n + 1) D q zr') :
    LongRel xs D m zr' (ds.set m q) := by
  obtain ⟨e1, e2, hz⟩ := h.window hm hD hn
  obtain ⟨d1, d2⟩ := div_step (d := D) (V := val (xs.drop (m + 1))) (x := xs[m]?.getD 0) rfl rfl e1
  have hz' : ∀ i : Nat, m + (n + 1) ≤ i → zr'[i]?.getD 0 = 0 := fun i hi => by rw [hr.other i (.inr hi)]; exact hz i hi
  have e3 := seg_drop_zero hz'
  refine ⟨hr.len.trans h.len, hr.lt, fun i hi => by rw [hr.other i (.inl hi)]; exact h.low i (by omega), ?_, h.ltq.set _ _ hq, ?_⟩
  · rw [← e3, hr.rem, val_drop hm, d2]
  · rw [drop_set hd, val_drop hm, d1, h.quo, ← hr.quo]
theorem pow32 {s : Nat} (h : s < 32) : 2 ^ s * 2 ^ (32 - s) = 4294967296 := by
  rw [← Nat.pow_add, show s + (32 - s) = 32 by omega]
theorem pow_lt32 {s : Nat} (h : s < 32) : 0 < 2 ^ s ∧ 2 ^ s ≤ 2147483648 := by
  refine ⟨Nat.pow_pos (by omega), ?_⟩
  have := Nat.pow_le_pow_right (n := 2) (by omega) (show s ≤ 31 by omega)
  omega
/-- The row after the digits from m on have been shifted down; c holds the digit above them as it was. -/
structure DownRel (xs : List Nat) (s m c : Nat) (zr : List Nat) : Prop where
  len : zr.length = xs.length
  lt : Lt zr
  low : ∀ i : Nat, i < m → zr[i]?.getD 0 = xs[i]?.getD 0
  car : c % 4294967296 = xs[m]?.getD 0
  quo : val (zr.drop m) = val (xs.drop m) / 2 ^ s
theorem DownRel.start {xs : List Nat} (s : Nat) (hx : Lt xs) : DownRel xs s xs.length 0 xs := ⟨rfl, hx, fun _ _ => rfl, by simp, by simp [val]⟩
theorem DownRel.step {xs zr : List Nat} {s m c t : Nat} (h : DownRel xs s (m + 1) c zr) (hs : s < 32) (hm : m < xs.length) (hx : Lt xs) (ht : t = xs[m]?.getD 0 + 4294967296 * (c % 4294967296)) :
    t / 2 ^ s % 4294967296 < 4294967296 ∧ DownRel xs s m t (zr.set m (t / 2 ^ s % 4294967296)) := by
  have hb : t / 2 ^ s % 4294967296 < 4294967296 := Nat.mod_lt _ (by omega)
  refine ⟨hb, by simpa using h.len, h.lt.set _ _ hb, fun i hi => ?_, ?_, ?_⟩
  · rw [getD_set _ _ _ _ (by rw [h.len]; exact hm), if_neg (by omega)]; exact h.low i (by omega)
  · have := hx m; omega
  · have hk := (pow_lt32 hs).1
    have e32 := pow32 hs
    have hy : xs[m + 1]?.getD 0 % 2 ^ s = val (xs.drop (m + 1)) % 2 ^ s := by
      by_cases hm1 : m + 1 < xs.length
      · rw [val_drop hm1, ← e32, Nat.mul_assoc, Nat.add_mul_mod_self_left]
      · rw [List.getElem?_eq_none (by omega), List.drop_of_length_le (by omega)]; rfl
    obtain ⟨d1, -⟩ := div_step (d := 2 ^ s) (V := val (xs.drop (m + 1))) (x := xs[m]?.getD 0) rfl rfl rfl
    obtain ⟨d3, -⟩ := div_step (d := 2 ^ s) (V := xs[m + 1]?.getD 0) (x := xs[m]?.getD 0) rfl rfl rfl
    rw [drop_set (by rw [h.len]; exact hm), val_drop hm, d1, h.quo, ht, h.car, d3, hy]
    have hr : (xs[m]?.getD 0 + 4294967296 * (val (xs.drop (m + 1)) % 2 ^ s)) / 2 ^ s < 4294967296 := by
      rw [Nat.div_lt_iff_lt_mul hk]
      have h1 := hx m
      have h2 := Nat.mul_le_mul_left 4294967296 (Nat.mod_lt (val (xs.drop (m + 1))) hk)
      rw [Nat.mul_succ] at h2
      omega
    rw [Nat.add_mul_mod_self_left, Nat.mod_eq_of_lt hr]
/-- A division undone by a shift. -/
theorem unshift (a b s : Nat) : (a * 2 ^ s) / (b * 2 ^ s) = a / b ∧ (a * 2 ^ s) % (b * 2 ^ s) / 2 ^ s = a % b := by
  have hk : 0 < 2 ^ s := Nat.pow_pos (by omega)
  exact ⟨Nat.mul_div_mul_right _ _ hk, by rw [Nat.mul_mod_mul_right, Nat.mul_div_cancel _ hk]⟩
end LimbN
