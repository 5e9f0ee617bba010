/- Plain mathematics of long division: a guessed digit and its repair, the digits from the top on, shifts by fewer than 32 bits. No condition. -/
import Derived.Test.YtdoponlhiidimaaGreatDoorNm
import Derived.Test.YtdoponlhiidimaaGreatDoorDigit
namespace LimbN

theorem seg_lt {zs : List Nat} (h : Lt zs) (o k : Nat) : seg zs o k < 4294967296 ^ k := by
  unfold seg
  have h1 := val_lt ((h.drop o).take k)
  refine Nat.lt_of_lt_of_le h1 (Nat.pow_le_pow_right (by omega) ?_)
  rw [List.length_take]; omega
/-- The guess by the top limbs is not too small. -/
theorem guess_ge {R D B lo P top dlo dt : Nat} (hR : R < B * D) (e1 : R = lo + P * top) (h1 : lo < P) (e2 : D = dlo + P * dt) (h2 : 0 < dt) : R / D ≤ top / dt ∧ R / D ≤ B - 1 := by
  have hP : 0 < P := by omega
  have hD : 0 < D := by have := Nat.mul_pos hP h2; omega
  constructor
  · rw [Nat.le_div_iff_mul_le h2]
    have h3 : R / D * D ≤ R := Nat.div_mul_le_self R D
    have h4 : R / D * (P * dt) ≤ R / D * D := Nat.mul_le_mul_left _ (by omega)
    have h5 : P * (R / D * dt) < P * (top + 1) := by
      rw [Nat.mul_left_comm, Nat.mul_add]; omega
    have := Nat.lt_of_mul_lt_mul_left h5
    omega
  · have := (Nat.div_lt_iff_lt_mul hD).2 hR
    omega
/-- How a digit stands while it is being found: S is what is left, P the size of the row. -/
def DigSt (R D P g S : Nat) (neg : Bool) : Prop := if neg then S + g * D = R + P ∧ S < P else S + g * D = R ∧ S < D
theorem dig_start {R D P g S c : Nat} (h : S + g * D = R + P * c) (hS : S < P) (hg : g * D < P) (hge : R / D ≤ g) (hD : 0 < D) : DigSt R D P g S (!(decide (c = 0))) := by
  have hc : c < 2 := by
    rcases Nat.lt_or_ge c 2 with h2 | h2
    · exact h2
    · have := Nat.mul_le_mul_left P h2; omega
  by_cases h0 : c = 0
  · subst h0
    simp only [DigSt, decide_true, Bool.not_true, Bool.false_eq_true, if_false]
    refine ⟨by simpa using h, ?_⟩
    have h3 := Nat.div_add_mod R D
    have h4 := Nat.mod_lt R hD
    have h5 := Nat.mul_le_mul_left D hge
    rw [Nat.mul_comm g D] at h
    omega
  · have h1 : c = 1 := by omega
    subst h1
    simp only [DigSt, decide_false, Nat.one_ne_zero, Bool.not_false, if_true]
    exact ⟨by omega, hS⟩
theorem dig_step {R D P g S S' c : Nat} (h : DigSt R D P g S true) (ha : S' + P * c = S + D) (hS : S' < P) (hc : c ≤ 1) : 0 < g ∧ DigSt R D P (g - 1) S' (!(!(decide (c = 0)))) := by
  simp only [DigSt, if_true] at h
  obtain ⟨h, hs⟩ := h
  have hg : 0 < g := by
    rcases Nat.eq_zero_or_pos g with h0 | h0
    · subst h0; omega
    · exact h0
  obtain ⟨k, rfl⟩ : ∃ k, g = k + 1 := ⟨g - 1, by omega⟩
  rw [Nat.succ_mul] at h
  refine ⟨hg, ?_⟩
  rw [Nat.add_sub_cancel, Bool.not_not]
  by_cases h0 : c = 0
  · subst h0
    simp only [DigSt, decide_true, if_true]
    exact ⟨by omega, hS⟩
  · have h1 : c = 1 := by omega
    subst h1
    simp only [DigSt, decide_false, Nat.one_ne_zero, Bool.false_eq_true, if_false]
    exact ⟨by omega, by omega⟩
theorem dig_end {R D P g S : Nat} (h : DigSt R D P g S false) : g = R / D ∧ S = R % D := by
  simp only [DigSt, Bool.false_eq_true, if_false] at h
  obtain ⟨h1, h2⟩ := h
  have hD : 0 < D := by omega
  have e : R = S + D * g := by rw [Nat.mul_comm D g]; omega
  constructor
  · rw [e, Nat.add_mul_div_left _ _ hD, Nat.div_eq_of_lt h2, Nat.zero_add]
  · rw [e, Nat.add_mul_mod_self_left, Nat.mod_eq_of_lt h2]
/-- A row of digits of which only those from o on, k of them, have changed. -/
structure DigRel (zs : List Nat) (o k D q : Nat) (zr : List Nat) : Prop where
  len : zr.length = zs.length
  lt : Lt zr
  other : ∀ i : Nat, i < o ∨ o + k ≤ i → zr[i]?.getD 0 = zs[i]?.getD 0
  quo : q = seg zs o k / D
  rem : seg zr o k = seg zs o k % D
/-- The rows of a division after the digits from m on have been found. -/
structure LongRel (xs : List Nat) (D m : Nat) (zr ds : List Nat) : Prop where
  len : zr.length = xs.length
  lt : Lt zr
  low : ∀ i : Nat, i < m → zr[i]?.getD 0 = xs[i]?.getD 0
  rem : val (zr.drop m) = val (xs.drop m) % D
  ltq : Lt ds
  quo : val (ds.drop m) = val (xs.drop m) / D
theorem LongRel.start {xs : List Nat} {D : Nat} (m : Nat) (hx : Lt xs) (h : val (xs.drop m) < D) : LongRel xs D m xs (List.replicate m 0) :=
  ⟨rfl, hx, fun _ _ => rfl, (Nat.mod_eq_of_lt h).symm, Lt.replicate _, by rw [Nat.div_eq_of_lt h, List.drop_of_length_le (by simp)]; rfl⟩
theorem seg_drop_zero {zs : List Nat} {o k : Nat} (h : ∀ i : Nat, o + k ≤ i → zs[i]?.getD 0 = 0) : seg zs o k = val (zs.drop o) := by
  unfold seg
  exact val_take k (fun i hi => by rw [List.getElem?_drop]; exact h _ (by omega))
/-- A value below 2^(32 n) has no digit from n on. -/
theorem high_zero {zs : List Nat} {n : Nat} (h : val zs < 4294967296 ^ n) : ∀ i : Nat, n ≤ i → zs[i]?.getD 0 = 0 := by
  intro i hi
  by_cases hl : n ≤ zs.length
  · have e : val zs = val (zs.take n) + 4294967296 ^ n * val (zs.drop n) := by
      have := val_append (zs.take n) (zs.drop n)
      rwa [List.take_append_drop, List.length_take, Nat.min_eq_left hl] at this
    have h0 : val (zs.drop n) = 0 := by
      rcases Nat.eq_zero_or_pos (val (zs.drop n)) with h1 | h1
      · exact h1
      · have := Nat.le_mul_of_pos_right (4294967296 ^ n) h1; omega
    have := val_eq_zero.1 h0 (i - n)
    rwa [List.getElem?_drop, show n + (i - n) = i by omega] at this
  · rw [List.getElem?_eq_none (by omega)]; rfl
theorem LongRel.window {xs zr ds : List Nat} {D m n : Nat} (h : LongRel xs D (m + 1) zr ds) (hm : m < xs.length) (hD : 0 < D) (hn : D ≤ 4294967296 ^ n) :
    seg zr m (n + 1) = xs[m]?.getD 0 + 4294967296 * (val (xs.drop (m + 1)) % D) ∧ seg zr m (n + 1) = val (zr.drop m) ∧ (∀ i : Nat, m + (n + 1) ≤ i → zr[i]?.getD 0 = 0) := by
  have hr : val (zr.drop (m + 1)) < 4294967296 ^ n := by rw [h.rem]; exact Nat.lt_of_lt_of_le (Nat.mod_lt _ hD) hn
  have hz : ∀ i : Nat, m + (n + 1) ≤ i → zr[i]?.getD 0 = 0 := by
    intro i hi
    have := high_zero hr (i - (m + 1)) (by omega)
    rwa [List.getElem?_drop, show m + 1 + (i - (m + 1)) = i by omega] at this
  have e := seg_drop_zero hz
  refine ⟨?_, e, hz⟩
  rw [e, val_drop (by rw [h.len]; exact hm), h.rem, h.low m (by omega)]
theorem LongRel.step {xs zr ds zr' : List Nat} {D m n q : Nat} (h : LongRel xs D (m + 1) zr ds) (hm : m < xs.length) (hd : m < ds.length) (hD : 0 < D) (hn : D ≤ 4294967296 ^ n) (hq : q < 4294967296) (hr : DigRel zr m (n + 1) D q zr') :
    LongRel xs D m zr' (ds.set m q) := by
  obtain ⟨e1, e2, hz⟩ := h.window hm hD hn
  obtain ⟨d1, d2⟩ := div_step (d := D) (V := val (xs.drop (m + 1))) (x := xs[m]?.getD 0) rfl rfl e1
  have hz' : ∀ i : Nat, m + (n + 1) ≤ i → zr'[i]?.getD 0 = 0 := fun i hi => by rw [hr.other i (.inr hi)]; exact hz i hi
  have e3 := seg_drop_zero hz'
  refine ⟨hr.len.trans h.len, hr.lt, fun i hi => by rw [hr.other i (.inl hi)]; exact h.low i (by omega), ?_, h.ltq.set _ _ hq, ?_⟩
  · rw [← e3, hr.rem, val_drop hm, d2]
  · rw [drop_set hd, val_drop hm, d1, h.quo, ← hr.quo]
theorem pow32 {s : Nat} (h : s < 32) : 2 ^ s * 2 ^ (32 - s) = 4294967296 := by
  rw [← Nat.pow_add, show s + (32 - s) = 32 by omega]
theorem pow_lt32 {s : Nat} (h : s < 32) : 0 < 2 ^ s ∧ 2 ^ s ≤ 2147483648 := by
  refine ⟨Nat.pow_pos (by omega), ?_⟩
  have := Nat.pow_le_pow_right (n := 2) (by omega) (show s ≤ 31 by omega)
  omega
/-- The row after the digits from m on have been shifted down; c holds the digit above them as it was. -/
structure DownRel (xs : List Nat) (s m c : Nat) (zr : List Nat) : Prop where
  len : zr.length = xs.length
  lt : Lt zr
  low : ∀ i : Nat, i < m → zr[i]?.getD 0 = xs[i]?.getD 0
  car : c % 4294967296 = xs[m]?.getD 0
  quo : val (zr.drop m) = val (xs.drop m) / 2 ^ s
theorem DownRel.start {xs : List Nat} (s : Nat) (hx : Lt xs) : DownRel xs s xs.length 0 xs := ⟨rfl, hx, fun _ _ => rfl, by simp, by simp [val]⟩
theorem DownRel.step {xs zr : List Nat} {s m c t : Nat} (h : DownRel xs s (m + 1) c zr) (hs : s < 32) (hm : m < xs.length) (hx : Lt xs) (ht : t = xs[m]?.getD 0 + 4294967296 * (c % 4294967296)) :
    t / 2 ^ s % 4294967296 < 4294967296 ∧ DownRel xs s m t (zr.set m (t / 2 ^ s % 4294967296)) := by
  have hb : t / 2 ^ s % 4294967296 < 4294967296 := Nat.mod_lt _ (by omega)
  refine ⟨hb, by simpa using h.len, h.lt.set _ _ hb, fun i hi => ?_, ?_, ?_⟩
  · rw [getD_set _ _ _ _ (by rw [h.len]; exact hm), if_neg (by omega)]; exact h.low i (by omega)
  · have := hx m; omega
  · have hk := (pow_lt32 hs).1
    have e32 := pow32 hs
    have hy : xs[m + 1]?.getD 0 % 2 ^ s = val (xs.drop (m + 1)) % 2 ^ s := by
      by_cases hm1 : m + 1 < xs.length
      · rw [val_drop hm1, ← e32, Nat.mul_assoc, Nat.add_mul_mod_self_left]
      · rw [List.getElem?_eq_none (by omega), List.drop_of_length_le (by omega)]; rfl
    obtain ⟨d1, -⟩ := div_step (d := 2 ^ s) (V := val (xs.drop (m + 1))) (x := xs[m]?.getD 0) rfl rfl rfl
    obtain ⟨d3, -⟩ := div_step (d := 2 ^ s) (V := xs[m + 1]?.getD 0) (x := xs[m]?.getD 0) rfl rfl rfl
    rw [drop_set (by rw [h.len]; exact hm), val_drop hm, d1, h.quo, ht, h.car, d3, hy]
    have hr : (xs[m]?.getD 0 + 4294967296 * (val (xs.drop (m + 1)) % 2 ^ s)) / 2 ^ s < 4294967296 := by
      rw [Nat.div_lt_iff_lt_mul hk]
      have h1 := hx m
      have h2 := Nat.mul_le_mul_left 4294967296 (Nat.mod_lt (val (xs.drop (m + 1))) hk)
      rw [Nat.mul_succ] at h2
      omega
    rw [Nat.add_mul_mod_self_left, Nat.mod_eq_of_lt hr]
/-- A division undone by a shift. -/
theorem unshift (a b s : Nat) : (a * 2 ^ s) / (b * 2 ^ s) = a / b ∧ (a * 2 ^ s) % (b * 2 ^ s) / 2 ^ s = a % b := by
  have hk : 0 < 2 ^ s := Nat.pow_pos (by omega)
  exact ⟨Nat.mul_div_mul_right _ _ hk, by rw [Nat.mul_mod_mul_right, Nat.mul_div_cancel _ hk]⟩
end LimbN

/- Plain mathematics of the reference's division: an estimate by two limbs is the digit or one more, and the repair of one more; shifts down from the bottom. No condition. -/
namespace LimbN

/-- The estimate, made less as long as it is too great by its second limb. -/
structure EstSt (q v1 top d rest : Nat) : Prop where
  ge : q ≤ d
  sum : d * v1 + rest = top
theorem est_start {q v1 top : Nat} (h : q ≤ top / v1) : EstSt q v1 top (top / v1) (top % v1) := ⟨h, by have := Nat.div_add_mod top v1; rw [Nat.mul_comm] at this; exact this⟩
/-- The digits of a window and of a divisor from their second limbs on. -/
structure Two (R D Q u2 top v2 v1 : Nat) : Prop where
  rl : Q * (u2 + 4294967296 * top) ≤ R
  rh : R < Q * (u2 + 4294967296 * top + 1)
  dl : Q * (v2 + 4294967296 * v1) ≤ D
  dh : D < Q * (v2 + 4294967296 * v1 + 1)
  pos : 0 < Q
  lt : R < 4294967296 * D
  hu2 : u2 < 4294967296
  hv2 : v2 < 4294967296
  hv1 : v1 < 4294967296
  nm : 2147483648 ≤ v1
theorem Two.dpos {R D Q u2 top v2 v1 : Nat} (h : Two R D Q u2 top v2 v1) : 0 < D := by
  have h1 := h.dl; have h2 := Nat.mul_pos h.pos (show 0 < v2 + 4294967296 * v1 by have := h.nm; omega); omega
theorem Two.qlt {R D Q u2 top v2 v1 : Nat} (h : Two R D Q u2 top v2 v1) : R / D < 4294967296 := (Nat.div_lt_iff_lt_mul h.dpos).2 h.lt
/-- The top two limbs are less than 2^32 times the divisor's top limb and its second one. -/
theorem Two.top {R D Q u2 top v2 v1 : Nat} (h : Two R D Q u2 top v2 v1) : top ≤ 4294967296 * v1 + v2 := by
  have h1 := h.rl; have h2 := h.dh; have h3 := h.lt; have hp := h.pos
  have h4 : Q * (u2 + 4294967296 * top) < Q * (4294967296 * (v2 + 4294967296 * v1 + 1)) := by
    rw [Nat.mul_left_comm Q 4294967296]
    have := Nat.mul_lt_mul_of_pos_left h2 (show 0 < 4294967296 by omega)
    omega
  have h5 := Nat.lt_of_mul_lt_mul_left h4
  omega
theorem Two.start {R D Q u2 top v2 v1 : Nat} (h : Two R D Q u2 top v2 v1) : R / D ≤ top / v1 := by
  have hv : 0 < v1 := by have := h.nm; omega
  rw [Nat.le_div_iff_mul_le hv]
  have h1 := h.rh; have h2 := h.dl; have h3 := Nat.div_mul_le_self R D
  have h4 : R / D * (Q * (v2 + 4294967296 * v1)) ≤ R / D * D := Nat.mul_le_mul_left _ h2
  have h5 : Q * (R / D * (v2 + 4294967296 * v1)) < Q * (u2 + 4294967296 * top + 1) := by rw [Nat.mul_left_comm]; omega
  have h6 := Nat.lt_of_mul_lt_mul_left h5
  rw [Nat.mul_add, Nat.mul_left_comm] at h6
  have := h.hu2
  omega
theorem Two.step {R D Q u2 top v2 v1 d rest : Nat} (h : Two R D Q u2 top v2 v1) (e : EstSt (R / D) v1 top d rest) (hc : 4294967296 ≤ d ∨ rest * 4294967296 + u2 < d * v2) :
    0 < d ∧ EstSt (R / D) v1 top (d - 1) (rest + v1) := by
  have key : R / D < d := by
    rcases hc with hc | hc
    · have := h.qlt; omega
    · have h1 := e.sum
      have h2 : u2 + 4294967296 * top + 1 ≤ d * (v2 + 4294967296 * v1) := by
        rw [Nat.mul_add, Nat.mul_left_comm, ← h1, Nat.mul_add]; omega
      have h3 : R < d * D := by
        have h4 := h.rh
        have h5 := Nat.mul_le_mul_left Q h2
        rw [Nat.mul_left_comm] at h5
        have h6 := Nat.mul_le_mul_left d h.dl
        omega
      exact (Nat.div_lt_iff_lt_mul h.dpos).2 h3
  have hd0 : 0 < d := Nat.lt_of_le_of_lt (Nat.zero_le _) key
  obtain ⟨k, rfl⟩ : ∃ k, d = k + 1 := ⟨d - 1, by omega⟩
  have h1 := e.sum
  rw [Nat.succ_mul] at h1
  exact ⟨by omega, by omega, by rw [Nat.add_sub_cancel]; omega⟩
theorem Two.fin {R D Q u2 top v2 v1 d rest : Nat} (h : Two R D Q u2 top v2 v1) (e : EstSt (R / D) v1 top d rest) (hc : 4294967296 ≤ rest ∨ (d < 4294967296 ∧ d * v2 ≤ rest * 4294967296 + u2)) :
    d < 4294967296 ∧ R / D ≤ d ∧ d ≤ R / D + 1 := by
  have ht := h.top; have hs := e.sum; have hv := h.nm; have hv2 := h.hv2
  have hd : d < 4294967296 := by
    rcases hc with hc | hc
    · have h1 : d * v1 < 4294967296 * v1 := by omega
      exact Nat.lt_of_mul_lt_mul_right h1
    · exact hc.1
  refine ⟨hd, e.ge, ?_⟩
  rcases Nat.eq_zero_or_pos d with h0 | h0
  · rw [h0]; exact Nat.zero_le _
  obtain ⟨k, rfl⟩ : ∃ k, d = k + 1 := ⟨d - 1, by omega⟩
  suffices k ≤ R / D by omega
  rw [Nat.le_div_iff_mul_le h.dpos]
  have hk : k * (v2 + 4294967296 * v1 + 1) ≤ u2 + 4294967296 * top := by
    rw [Nat.succ_mul] at hs
    rw [Nat.mul_add, Nat.mul_add, Nat.mul_left_comm, Nat.mul_one]
    rcases hc with hc | hc
    · have hkv : k * v2 ≤ k * 4294967296 := Nat.mul_le_mul_left _ (by omega)
      have := h.hu2
      omega
    · have h2 := hc.2
      rw [Nat.succ_mul] at h2
      omega
  have h3 := Nat.mul_le_mul_left Q hk
  have h4 := h.rl
  have h5 := Nat.mul_le_mul_left k (Nat.le_of_lt h.dh)
  rw [Nat.mul_left_comm] at h5
  omega
theorem place_end {R D P S d c : Nat} (h : S + d * D = R + P * c) (hS : S < P) (hD : 0 < D) (h1 : R / D ≤ d) (h2 : d ≤ R / D + 1) (hdp : d * D ≤ R + P) :
    c ≤ 1 ∧ (c = 0 → d = R / D ∧ S = R % D) ∧ (c = 1 → d = R / D + 1 ∧ S + D = R % D + P) := by
  have h3 := Nat.div_add_mod R D
  have h4 := Nat.mod_lt R hD
  have hc : c ≤ 1 := by
    rcases Nat.lt_or_ge c 2 with h5 | h5
    · omega
    · have := Nat.mul_le_mul_left P h5; omega
  rw [Nat.mul_comm D] at h3
  have hd : d = R / D ∨ d = R / D + 1 := by omega
  refine ⟨hc, fun h0 => ?_, fun h0 => ?_⟩
  · subst h0
    rcases hd with hd | hd
    · rw [hd] at h; exact ⟨hd, by omega⟩
    · rw [hd, Nat.succ_mul] at h; omega
  · subst h0
    rcases hd with hd | hd
    · rw [hd] at h; omega
    · rw [hd, Nat.succ_mul] at h; exact ⟨hd, by omega⟩
/-- The row after the digits below k have been shifted down, from the bottom on. -/
structure LowRel (xs : List Nat) (s k : Nat) (zr : List Nat) : Prop where
  len : zr.length = xs.length
  lt : Lt zr
  high : ∀ i : Nat, k ≤ i → zr[i]?.getD 0 = xs[i]?.getD 0
  quo : val (zr.take k) + 4294967296 ^ k * (val (xs.drop k) / 2 ^ s) = val xs / 2 ^ s
theorem LowRel.start {xs : List Nat} (s : Nat) (hx : Lt xs) : LowRel xs s 0 xs := ⟨rfl, hx, fun _ _ => rfl, by simp [val]⟩
theorem LowRel.step {xs zr : List Nat} {s k t : Nat} (h : LowRel xs s k zr) (hs : s < 32) (hm : k < xs.length) (hx : Lt xs) (ht : t = xs[k]?.getD 0 + 4294967296 * xs[k + 1]?.getD 0) :
    t / 2 ^ s % 4294967296 < 4294967296 ∧ LowRel xs s (k + 1) (zr.set k (t / 2 ^ s % 4294967296)) := by
  have hb : t / 2 ^ s % 4294967296 < 4294967296 := Nat.mod_lt _ (by omega)
  refine ⟨hb, by simpa using h.len, h.lt.set _ _ hb, fun i hi => ?_, ?_⟩
  · rw [getD_set _ _ _ _ (by rw [h.len]; exact hm), if_neg (by omega)]; exact h.high i (by omega)
  · have hk := (pow_lt32 hs).1
    have e32 := pow32 hs
    have hy : xs[k + 1]?.getD 0 % 2 ^ s = val (xs.drop (k + 1)) % 2 ^ s := by
      by_cases hm1 : k + 1 < xs.length
      · rw [val_drop hm1, ← e32, Nat.mul_assoc, Nat.add_mul_mod_self_left]
      · rw [List.getElem?_eq_none (by omega), List.drop_of_length_le (by omega)]; rfl
    obtain ⟨d1, -⟩ := div_step (d := 2 ^ s) (V := val (xs.drop (k + 1))) (x := xs[k]?.getD 0) rfl rfl rfl
    obtain ⟨d3, -⟩ := div_step (d := 2 ^ s) (V := xs[k + 1]?.getD 0) (x := xs[k]?.getD 0) rfl rfl rfl
    have hr : (xs[k]?.getD 0 + 4294967296 * (val (xs.drop (k + 1)) % 2 ^ s)) / 2 ^ s < 4294967296 := by
      rw [Nat.div_lt_iff_lt_mul hk]
      have h1 := hx k
      have h2 := Nat.mul_le_mul_left 4294967296 (Nat.mod_lt (val (xs.drop (k + 1))) hk)
      rw [Nat.mul_succ] at h2
      omega
    have ed : t / 2 ^ s % 4294967296 = (xs[k]?.getD 0 + 4294967296 * (val (xs.drop (k + 1)) % 2 ^ s)) / 2 ^ s := by
      rw [ht, d3, hy, Nat.add_mul_mod_self_left, Nat.mod_eq_of_lt hr]
    have e1 : val ((zr.set k (t / 2 ^ s % 4294967296)).take k) = val (zr.take k) := by
      rw [List.take_set_of_le (Nat.le_refl k)]
    have hq := h.quo
    rw [val_drop hm, d1, Nat.mul_add, ← ed] at hq
    rw [val_take_succ, e1, getD_set _ _ _ _ (by rw [h.len]; exact hm), if_pos rfl, Nat.pow_succ, Nat.mul_assoc]
    omega
theorem LowRel.fin {xs zr : List Nat} {s : Nat} (h : LowRel xs s xs.length zr) : val zr = val xs / 2 ^ s := by
  have := h.quo
  rwa [List.take_of_length_le (by rw [h.len]; exact Nat.le_refl _), List.drop_of_length_le (Nat.le_refl _), show val [] = 0 from rfl, Nat.zero_div, Nat.mul_zero, Nat.add_zero] at this
/-- Greatest common divisors, by shifting and subtracting. -/
theorem gcd_odd_two {y : Nat} (hy : y % 2 = 1) (z : Nat) : Nat.gcd (2 ^ z) y = 1 := by
  have h2 : Nat.Coprime 2 y := by
    unfold Nat.Coprime
    rw [Nat.gcd_comm, Nat.gcd_rec, Nat.gcd_comm] 
    have : 2 % y = 0 ∨ 2 % y = 1 ∨ 2 % y = 2 := by have := Nat.mod_le 2 y; omega
    rw [Nat.gcd_comm, ← Nat.gcd_rec, Nat.gcd_comm, Nat.gcd_rec, hy]; rfl
  exact Nat.Coprime.pow_left z h2
theorem gcd_shift {x y z : Nat} (hy : y % 2 = 1) (hd : 2 ^ z ∣ x) : Nat.gcd (x / 2 ^ z) y = Nat.gcd x y := by
  obtain ⟨m, rfl⟩ := hd
  rw [Nat.mul_div_cancel_left _ (Nat.pow_pos (by omega))]
  exact (Nat.Coprime.gcd_mul_left_cancel m (gcd_odd_two hy z)).symm
theorem gcd_sub_le {x y : Nat} (h : y ≤ x) : Nat.gcd (x - y) y = Nat.gcd x y := Nat.gcd_sub_self_left h
/-- The two's parts taken out of two numbers. -/
theorem gcd_twos {a b i k : Nat} (hi : 2 ^ i ∣ a) (hk : 2 ^ k ∣ b) (oa : a / 2 ^ i % 2 = 1) (ob : b / 2 ^ k % 2 = 1) : Nat.gcd (a / 2 ^ i) (b / 2 ^ k) * 2 ^ min i k = Nat.gcd a b := by
  obtain ⟨m, rfl⟩ := hi
  obtain ⟨n, rfl⟩ := hk
  rw [Nat.mul_div_cancel_left _ (Nat.pow_pos (by omega))] at oa ⊢
  rw [Nat.mul_div_cancel_left _ (Nat.pow_pos (by omega))] at ob ⊢
  rcases Nat.le_total i k with h | h
  · obtain ⟨d, rfl⟩ : ∃ d, k = i + d := ⟨k - i, by omega⟩
    rw [Nat.min_eq_left h, Nat.pow_add, Nat.mul_assoc, Nat.gcd_mul_left, Nat.mul_comm]
    congr 1
    rw [Nat.gcd_comm m, Nat.gcd_comm m]
    exact (Nat.Coprime.gcd_mul_left_cancel n (gcd_odd_two oa d)).symm
  · obtain ⟨d, rfl⟩ : ∃ d, i = k + d := ⟨i - k, by omega⟩
    rw [Nat.min_eq_right h, Nat.pow_add, Nat.mul_assoc, Nat.gcd_mul_left, Nat.mul_comm]
    congr 1
    exact (Nat.Coprime.gcd_mul_left_cancel m (gcd_odd_two ob d)).symm
end LimbN

/- Contracts of the program's shifts: up by fewer than 32 bits into new memory, down in place. Conditions: the slices hold the digits that are named. -/
namespace Go.Proofs.YtdoponlhiidimaaGreatDoor
open Go.RowKit LimbN

theorem or_up {c x s : Nat} (hs : s < 32) (hc : c < 2 ^ s) (hx : x < 4294967296) : bits .or .u64 (c : Int) ((x : Int) * 2 ^ s) = ((c + x * 2 ^ s : Nat) : Int) := by
  have hp := (pow_lt32 hs)
  have hm : x * 2 ^ s ≤ 4294967295 * 2147483648 := Nat.mul_le_mul (by omega) hp.2
  have e : ((x : Int) * 2 ^ s) = ((x * 2 ^ s : Nat) : Int) := by rw [Int.natCast_mul, Int.natCast_pow]; rfl
  rw [e, u64_or_nat _ _ (by omega) (by omega)]
  congr 1
  have := Nat.shiftLeft_add_eq_or_of_lt hc x
  rw [Nat.shiftLeft_eq] at this
  rw [Nat.or_comm, ← this, Nat.add_comm]

/-- A number shifted up, in new memory, with one digit more. -/
structure Shifted (xs : List Nat) (s : Nat) (w : World) (e : Ending) (w' : World) : Prop where
  ex : ∃ zr, e = .returned (.slice (some ⟨w.heap.size, 0, none⟩) (xs.length + 1) (xs.length + 1)) ∧ Row w' w.heap.size 43 zr ∧ Lt zr ∧ zr.length = xs.length + 1 ∧ val zr = val xs * 2 ^ s ∧ zr[xs.length]?.getD 0 < 2 ^ s
  kp : Kp w w'
set_option maxRecDepth 100000 in
set_option maxHeartbeats 1000000 in
theorem shiftedUp_any {xs : List Nat} {va : Value} {w : World} (ha : Sl w va xs) (hlen : xs.length ≤ 1000) (s : Nat) (hs : s < 32) :
    Calls Tryz.prog 87 #[va, .int .i64 s] w (Shifted xs s w) := by
  have HSA := Lib.hid ha
  obtain ⟨⟨ao, ca, rfl, hca, hma, hat, _⟩, hxs, _⟩ := ha
  unfold maxLen at hma
  have FIN : Hid (∀ e w', (∃ zr, e = .returned (.slice (some ⟨w.heap.size, 0, none⟩) (xs.length + 1) (xs.length + 1)) ∧ Row w' w.heap.size 43 zr ∧ Lt zr ∧ zr.length = xs.length + 1 ∧ val zr = val xs * 2 ^ s ∧ zr[xs.length]?.getD 0 < 2 ^ s) → Kp w w' → Shifted xs s w e w') := fun e w' h k => ⟨h, k⟩
  obtain ⟨Q, hQ⟩ : ∃ Q, Q = Shifted xs s w := ⟨_, rfl⟩
  rw [← hQ] at FIN ⊢
  clear hQ
  obtain ⟨la, hla⟩ : ∃ la, la = xs.length := ⟨_, rfl⟩
  rw [← hla] at hca hlen HSA FIN
  rw [← hla]
  have hsp := pow_lt32 hs
  have HLA := Lib.hid hla; have HAT := Lib.hid hat; have HXS := Lib.hid hxs
  clear hla hat hxs
  go_enter Tryz.func87, Tryz.ntmps87
  go_wp2_with (at_make; refine wpList_mk rfl (.tmp 11) (.tmp 11) 22 rfl Tryz.underlying22 _ (la + 1) rfl rfl rfl (by omega) ?_)
  intro w1 hrow hk1
  have HROW := Lib.hid hrow; have HK1 := Lib.hid hk1
  clear hrow hk1
  go_wp2_with fail
  go_loopw [6, 15] (fun c i wr => ∃ (k c' : Nat) (zr : List Nat), k ≤ la ∧ i = .int .i64 k ∧ c = .int .u64 c' ∧ c' < 2 ^ s ∧ AddRel (List.replicate (la + 1) 0) 0 k c' (val (xs.take k) * 2 ^ s) zr ∧ Row wr w.heap.size 43 zr ∧ Only w.heap.size w1 wr) (fun _ i _ => la - (intOf i).toNat)
  case atStart => exact ⟨0, 0, _, by omega, rfl, rfl, by omega, by simpa [val] using AddRel.start _ 0 (Lt.replicate _), HROW.out, Only.refl _ _⟩
  case round =>
    obtain ⟨k, c', zr, hk, rfl, rfl, hc1, hrel', hrow, honly⟩ := hrel
    have HKR : Hid (Kp w wr) := Only.kp HK1.out honly (Nat.le_refl _)
    have hzl : zr.length = la + 1 := by rw [hrel'.len]; simp
    have HREL := Lib.hid hrel'; have HROW2 := Lib.hid hrow; have HON := Lib.hid honly
    clear hrel' hrow honly
    by_cases hlt : k < la
    · obtain ⟨b, off, rfl, hcx⟩ := (HAT.out.keep HKR.out).cells (by have := HLA.out; omega)
      have hcell := hcx k (by have := HLA.out; omega)
      have hxb := HXS.out k
      clear hcx
      obtain ⟨x, ex⟩ : ∃ x, x = xs[k]?.getD 0 := ⟨_, rfl⟩
      rw [← ex] at hcell hxb
      have EX := Lib.hid ex; clear ex
      have hcellz := HROW2.out.cell k (by omega)
      have hfree : wr.frozen? ⟨w.heap.size, k, none⟩ = false := HROW2.out.free _
      obtain ⟨z, ez⟩ : ∃ z, z = zr[k]?.getD 0 := ⟨_, rfl⟩
      rw [← ez] at hcellz
      clear ez
      have hor := or_up hs hc1 hxb
      have hmx : x * 2 ^ s ≤ 4294967295 * 2 ^ s := Nat.mul_le_mul_right _ (by omega)
      have hmi : (0 : Int) ≤ (x : Int) * 2 ^ s := by have : ((x : Int) * 2 ^ s) = ((x * 2 ^ s : Nat) : Int) := by rw [Int.natCast_mul, Int.natCast_pow]; rfl
                                                     rw [this]; exact Int.natCast_nonneg _
      have hmj : (x : Int) * 2 ^ s ≤ 9223372034707292160 := by have : ((x : Int) * 2 ^ s) = ((x * 2 ^ s : Nat) : Int) := by rw [Int.natCast_mul, Int.natCast_pow]; rfl
                                                               rw [this]; omega
      obtain ⟨t, ht⟩ : ∃ t, t = c' + x * 2 ^ s := ⟨_, rfl⟩
      rw [← ht] at hor
      have htb : t < 4294967296 * 2 ^ s := by omega
      have htb2 : t < 9223372036854775808 := by omega
      have HT := Lib.hid ht; have HTB := Lib.hid htb
      clear ht hmx htb
      go_wp2
      go_roundw
      case rel =>
        refine ⟨k + 1, t / 4294967296, _, by omega, vint (by omega), vint (by omega), by have := HTB.out; omega, ?_, HROW2.out.set' _ (t % 4294967296) _ (by omega), HON.out.set _ _⟩
        rw [val_take_succ, ← EX.out, Nat.add_mul, Nat.mul_assoc]
        have h0 : zr[0 + k]?.getD 0 = 0 := by rw [HREL.out.other (0 + k) (by omega), List.getElem?_replicate]; split <;> rfl
        have := HREL.out.step (by simp; omega) (x * 2 ^ s) t (by rw [h0, Nat.zero_add]; exact HT.out)
        rwa [Nat.zero_add] at this
      case measure => simp [intOf]; omega
    · have hkl : k = la := by omega
      subst hkl
      have hcellz := HROW2.out.cell k (by omega)
      have hfree : wr.frozen? ⟨w.heap.size, k, none⟩ = false := HROW2.out.free _
      obtain ⟨z, ez⟩ : ∃ z, z = zr[k]?.getD 0 := ⟨_, rfl⟩
      rw [← ez] at hcellz
      clear ez
      have hc3 : c' < 4294967296 := by omega
      have hm := mul_row HREL.out (by simp) (by rw [List.getElem?_replicate]; split <;> rfl) hc3
      rw [Nat.zero_add, val_zeros, Nat.pow_zero, Nat.one_mul, Nat.zero_add, List.take_of_length_le (by have := HLA.out; omega)] at hm
      have HM := Lib.hid hm; clear hm
      go_wp2_with fail
      refine FIN.out _ _ ⟨zr.set k c', rfl, HROW2.out.set' _ c' _ (by omega), HM.out.1, by simpa using hzl, HM.out.2.2.2.trans (Nat.zero_add _), ?_⟩ (Only.kp HK1.out (HON.out.set _ _) (Nat.le_refl _))
      rw [getD_set _ _ _ _ (by omega), if_pos rfl]; exact hc1

/-- A row shifted down in place. -/
structure Lowered (zs : List Nat) (s : Nat) (g : Nat) (t : TypeId) (w : World) (e : Ending) (w' : World) : Prop where
  e : e = .returned (.tuple #[])
  ex : ∃ zr, Row w' g t zr ∧ Lt zr ∧ zr.length = zs.length ∧ val zr = val zs / 2 ^ s
  only : Only g w w'
theorem shr_id {t s : Nat} : ((t : Int) / 2 ^ s) = ((t / 2 ^ s : Nat) : Int) := by rw [Int.natCast_ediv, Int.natCast_pow]; rfl
set_option maxRecDepth 100000 in
set_option maxHeartbeats 1000000 in
theorem shiftDown_any (g n cap : Nat) (t : TypeId) (zs : List Nat) (w : World) (hrow : Row w g t zs) (hzs : Lt zs) (hn : zs.length = n) (hnb : n ≤ 1000) (s : Nat) (hs : s < 32) :
    Calls Tryz.prog 89 #[.slice (some ⟨g, 0, none⟩) n cap, .int .i64 s] w (Lowered zs s g t w) := by
  have FIN : Hid (∀ w', (∃ zr, Row w' g t zr ∧ Lt zr ∧ zr.length = zs.length ∧ val zr = val zs / 2 ^ s) → Only g w w' → Lowered zs s g t w (.returned (.tuple #[])) w') := fun w' h k => ⟨rfl, h, k⟩
  obtain ⟨Q, hQ⟩ : ∃ Q, Q = Lowered zs s g t w := ⟨_, rfl⟩
  rw [← hQ] at FIN ⊢
  clear hQ
  have hsp := pow_lt32 hs
  have HROW := Lib.hid hrow; have HZS := Lib.hid hzs; have HN := Lib.hid hn
  clear hrow hzs hn
  go_enter Tryz.func89, Tryz.ntmps89
  go_wp2_with fail
  go_loopw [4, 5] (fun c i wr => ∃ (j : Int) (c' : Nat) (zr : List Nat), -1 ≤ j ∧ j < n ∧ i = .int .i64 j ∧ c = .int .u64 c' ∧ c' < 18446744073709551616 ∧ DownRel zs s (j + 1).toNat c' zr ∧ Row wr g t zr ∧ Only g w wr) (fun _ i _ => (intOf i + 1).toNat)
  case atStart => exact ⟨_, 0, _, by omega, by omega, rfl, rfl, by omega, by rw [show ((n : Int) - 1 + 1).toNat = zs.length by have := HN.out; omega]; exact DownRel.start s HZS.out, HROW.out, Only.refl _ _⟩
  case round =>
    obtain ⟨j, c', zr, hj1, hj2, rfl, rfl, hc1, hrel', hrow, honly⟩ := hrel
    have HREL := Lib.hid hrel'; have HROW2 := Lib.hid hrow; have HON := Lib.hid honly
    clear hrel' hrow honly
    by_cases hj : 0 ≤ j
    · obtain ⟨m, rfl⟩ := Int.eq_ofNat_of_zero_le hj
      have hrel2 := HREL.out
      rw [show ((m : Int) + 1).toNat = m + 1 by omega] at hrel2
      have HREL2 := Lib.hid hrel2; clear hrel2
      have hcell := HROW2.out.cell m (by have := HREL2.out.len; have := HN.out; omega)
      have hfree : wr.frozen? ⟨g, m, none⟩ = false := HROW2.out.free _
      rw [HREL2.out.low m (by omega)] at hcell
      have hxb := HZS.out m
      obtain ⟨x, ex⟩ : ∃ x, x = zs[m]?.getD 0 := ⟨_, rfl⟩
      rw [← ex] at hcell hxb
      have EX := Lib.hid ex; clear ex
      obtain ⟨u, hu⟩ : ∃ u, u = x + 4294967296 * (c' % 4294967296) := ⟨_, rfl⟩
      have hub : u < 18446744073709551616 := by omega
      have hsh : IntKind.u64.wrap ((c' : Int) * 4294967296) = ((c' % 4294967296 : Nat) : Int) * 4294967296 := by rw [IntKind.wrap_u64]; omega
      have hor : bits .or .u64 (IntKind.u64.wrap ((c' : Int) * 4294967296)) (x : Int) = (u : Int) := by rw [hsh, or_u64 hxb (by omega), hu]
      clear hsh
      have hst := HREL2.out.step hs (by have := HN.out; omega) HZS.out (t := u) (by rw [← EX.out]; exact hu)
      have hdv := shr_id (t := u) (s := s)
      obtain ⟨q, hq⟩ : ∃ q, q = u / 2 ^ s := ⟨_, rfl⟩
      rw [← hq] at hst hdv
      have hqb : q ≤ u := by rw [hq]; exact Nat.div_le_self _ _
      have HST := Lib.hid hst
      clear hst hq hu
      go_wp2
      go_roundw
      case rel => exact ⟨(m : Int) - 1, u, zr.set m (q % 4294967296), by omega, by omega, by go_num, vint (by omega), hub, by rw [show ((m : Int) - 1 + 1).toNat = m by omega]; exact HST.out.2, HROW2.out.set' _ (q % 4294967296) _ (by omega), HON.out.set _ _⟩
      case measure => simp [intOf]
    · have hj' : j = -1 := by omega
      subst hj'
      have hrel2 := HREL.out
      rw [show ((-1 : Int) + 1).toNat = 0 by omega] at hrel2
      have FIN2 : Hid (Q (.returned (.tuple #[])) wr) := FIN.out _ ⟨zr, HROW2.out, hrel2.lt, hrel2.len, by simpa using hrel2.quo⟩ HON.out
      clear hrel2
      go_wp2
      go_end0
      exact FIN2.out
end Go.Proofs.YtdoponlhiidimaaGreatDoor

/- The program's digit of a quotient: a guess by the top limbs, repaired. Conditions: the slices hold the digits that are named; the window is below 2^32 times the divisor. -/
namespace Go.Proofs.YtdoponlhiidimaaGreatDoor
open Go.RowKit LimbN

/-- A digit of a quotient; the remainder stays in the window. -/
structure Taken (zs : List Nat) (o k D g : Nat) (t : TypeId) (w : World) (e : Ending) (w' : World) : Prop where
  ex : ∃ (q : Nat) (zr : List Nat), e = .returned (.int .u32 q) ∧ q < 4294967296 ∧ DigRel zs o k D q zr ∧ Row w' g t zr
  only : Only g w w'
/-- How the loop of the repair stands. -/
structure DigLoop (zs : List Nat) (o k D g : Nat) (t : TypeId) (w wr : World) (b : Bool) (G : Nat) (zr : List Nat) : Prop where
  st : DigSt (seg zs o k) D (4294967296 ^ k) G (seg zr o k) b
  len : zr.length = zs.length
  lt : Lt zr
  other : ∀ i : Nat, i < o ∨ o + k ≤ i → zr[i]?.getD 0 = zs[i]?.getD 0
  row : Row wr g t zr
  only : Only g w wr
theorem top_two {zs : List Nat} {o m : Nat} (h : Lt zs) : seg zs o (m + 2) = seg zs o m + 4294967296 ^ m * (zs[o + m]?.getD 0 + 4294967296 * zs[o + (m + 1)]?.getD 0) ∧ seg zs o m < 4294967296 ^ m := by
  refine ⟨?_, seg_lt h o m⟩
  rw [seg_succ, seg_succ, Nat.pow_succ, Nat.mul_add, Nat.mul_assoc]; omega
theorem top_one {ys : List Nat} {m : Nat} (h : Lt ys) (hl : ys.length = m + 1) : val ys = val (ys.take m) + 4294967296 ^ m * ys[m]?.getD 0 ∧ val (ys.take m) < 4294967296 ^ m := by
  constructor
  · have := val_take_succ ys m
    rwa [List.take_of_length_le (by omega)] at this
  · have := val_lt (h.take m)
    rwa [List.length_take, Nat.min_eq_left (by omega)] at this
set_option maxRecDepth 100000 in
set_option maxHeartbeats 2000000 in
theorem takeDigit_any (g o m capr : Nat) (t : TypeId) (zs ys : List Nat) (vd : Value) (w : World) (hrow : Row w g t zs) (hzs : Lt zs) (hfit : o + (m + 2) ≤ zs.length) (hzl : zs.length ≤ 1000)
    (hd : Sl w vd ys) (hoff : Off g vd ys) (hyl : ys.length = m + 1) (htop : 0 < ys[m]?.getD 0) (hlt : seg zs o (m + 2) < 4294967296 * val ys) :
    Calls Tryz.prog 88 #[.slice (some ⟨g, o, none⟩) (m + 2) capr, vd] w (Taken zs o (m + 2) (val ys) g t w) := by
  have FIN : Hid (∀ e w' (q : Nat) zr, e = .returned (.int .u32 (q : Int)) → q < 4294967296 → DigRel zs o (m + 2) (val ys) q zr → Row w' g t zr → Only g w w' → Taken zs o (m + 2) (val ys) g t w e w') := fun e w' q zr h1 h2 h3 h4 h5 => ⟨⟨q, zr, h1, h2, h3, h4⟩, h5⟩
  obtain ⟨Q, hQ⟩ : ∃ Q, Q = Taken zs o (m + 2) (val ys) g t w := ⟨_, rfl⟩
  rw [← hQ] at FIN ⊢
  clear hQ
  have HD := Lib.hid hd
  obtain ⟨⟨bo, cb, rfl, hcb, hcm, hat, _⟩, hys, _⟩ := hd
  unfold maxLen at hcm
  obtain ⟨e1, e2⟩ := top_two (o := o) (m := m) hzs
  obtain ⟨e3, e4⟩ := top_one hys hyl
  obtain ⟨b, off, rfl, hcy⟩ := hat.cells (by omega)
  have hcd := hcy m (by omega)
  have hc0 := hrow.cell (o + m) (by omega)
  have hc1 := hrow.cell (o + (m + 1)) (by omega)
  have hb0 := hzs (o + m)
  have hb1 := hzs (o + (m + 1))
  have hbd := hys m
  have hDb : val ys < 4294967296 ^ (m + 1) := by have := val_lt hys; rwa [hyl] at this
  rw [hyl] at hcb HD hoff ⊢
  obtain ⟨x0, ex0⟩ : ∃ x, x = zs[o + m]?.getD 0 := ⟨_, rfl⟩
  obtain ⟨x1, ex1⟩ : ∃ x, x = zs[o + (m + 1)]?.getD 0 := ⟨_, rfl⟩
  obtain ⟨dt, edt⟩ : ∃ x, x = ys[m]?.getD 0 := ⟨_, rfl⟩
  rw [← ex0] at hc0 hb0 e1
  rw [← ex1] at hc1 hb1 e1
  rw [← edt] at hcd hbd htop e3
  obtain ⟨tp, etp⟩ : ∃ x, x = x0 + 4294967296 * x1 := ⟨_, rfl⟩
  rw [← etp] at e1
  have htpb : tp < 18446744073709551616 := by omega
  have hor : bits .or .u64 ((x1 : Int) * 4294967296) (x0 : Int) = (tp : Int) := by rw [or_u64 hb0 hb1, etp]
  have hge := guess_ge (B := 4294967296) hlt e1 e2 e3 htop
  obtain ⟨q0, eq0⟩ : ∃ x, x = tp / dt := ⟨_, rfl⟩
  rw [← eq0] at hge
  have hq0 : (tp : Int) / (dt : Int) = (q0 : Int) := by rw [eq0]; simp
  have hq0b : q0 ≤ tp := by rw [eq0]; exact Nat.div_le_self _ _
  obtain ⟨G, eG⟩ : ∃ x, x = min q0 4294967295 := ⟨_, rfl⟩
  have hGm : min (q0 : Int) 4294967295 = (G : Int) := by omega
  have hGb : G < 4294967296 := by omega
  have hGge : seg zs o (m + 2) / val ys ≤ G := by rw [eG]; omega
  have hDpos : 0 < val ys := by
    have := Nat.mul_pos (show 0 < 4294967296 ^ m from Nat.pow_pos (by omega)) htop
    omega
  have hGD : G * val ys < 4294967296 ^ (m + 2) := by
    have h1 : G * val ys ≤ 4294967295 * val ys := Nat.mul_le_mul_right _ (by omega)
    rw [Nat.pow_succ]; omega
  have hdi : (1 : Int) ≤ (dt : Int) := by omega
  have hdz : ((dt : Int) == 0) = false := beq_eq_false_iff_ne.2 (by omega)
  have HROW := Lib.hid hrow; have HZS := Lib.hid hzs; have HOFF := Lib.hid hoff; have HYL := Lib.hid hyl; have HLT := Lib.hid hlt; have HYS := Lib.hid hys
  have HGGE := Lib.hid hGge; have HDP := Lib.hid hDpos; have HGD := Lib.hid hGD; have HDB := Lib.hid hDb
  clear hrow hzs hoff hyl hlt hys hge hGge hDpos hGD e1 e2 e3 e4 eG eq0 etp ex0 ex1 edt hat hcy hDb
  go_enter Tryz.func88, Tryz.ntmps88
  go_wp2_with fail
  all_goals (try go_quiet (fail))
  all_goals (try go_wp2_with fail)
  refine (subtractFrom_any g o (m + 2) capr G t zs ys _ _ (HROW.out.drewN _) HZS.out hfit (by unfold maxLen; omega) (HD.out.keep (Kp.drewN _ _)) HOFF.out (by have := HYL.out; omega) hGb).mono ?_
  rintro e w1 ⟨zr, c, rfl, hsub, hrow1, ho1⟩
  have hst := dig_start hsub.sum (seg_lt hsub.lt _ _) HGD.out HGGE.out HDP.out
  have ST : Hid (DigLoop zs o (m + 2) (val ys) g t w w1 (!(decide (c = 0))) G zr) := ⟨hst, hsub.len, hsub.lt, hsub.other, hrow1, ((Only.refl g w).drewN _).trans ho1⟩
  obtain ⟨b0, hb0'⟩ : ∃ b0, b0 = (!(decide (c = 0))) := ⟨_, rfl⟩
  rw [← hb0'] at ST ⊢
  clear hst hsub hrow1 ho1 hb0'
  go_wp2_with fail
  go_loopw [8, 7] (fun neg gv wr => ∃ (b : Bool) (G : Nat) (zr : List Nat), neg = .bool b ∧ gv = .int .u32 G ∧ G < 4294967296 ∧ DigLoop zs o (m + 2) (val ys) g t w wr b G zr) (fun _ gv _ => (intOf gv).toNat)
  case atStart => exact ⟨b0, G, zr, rfl, rfl, hGb, ST.out⟩
  case round =>
    obtain ⟨b1, G1, zr1, rfl, rfl, hG1, hl⟩ := hrel
    rename World => wr
    cases b1 with
    | false =>
      have hend := dig_end hl.st
      have FIN2 : Hid (Q (.returned (.int .u32 (G1 : Int))) wr) := FIN.out _ _ G1 zr1 rfl hG1 ⟨hl.len, hl.lt, hl.other, hend.1, hend.2⟩ hl.row hl.only
      clear hl hend
      go_wp2
      (try go_ret)
      exact FIN2.out
    | true =>
      have HL := Lib.hid hl; clear hl
      have hdw : Sl wr (.slice (some ⟨b, off, none⟩) (m + 1) cb) ys := HD.out.only HL.out.only HOFF.out
      have HDW := Lib.hid hdw; clear hdw
      go_wp2_with fail
      refine (addTo_any g o (m + 2) capr t zr1 ys _ wr HL.out.row HL.out.lt (by have := HL.out.len; omega) (by unfold maxLen; omega) HDW.out HOFF.out (by have := HYL.out; omega)).mono ?_
      rintro e w2 ⟨zr2, c2, rfl, hadd, hc2, hrow2, ho2⟩
      obtain ⟨hgp, hst2⟩ := dig_step HL.out.st hadd.sum (seg_lt hadd.lt _ _) hc2
      have ST2 : Hid (DigLoop zs o (m + 2) (val ys) g t w w2 (!(!(decide (c2 = 0)))) (G1 - 1) zr2) := ⟨hst2, hadd.len.trans HL.out.len, hadd.lt, fun i hi => (hadd.other i hi).trans (HL.out.other i hi), hrow2, HL.out.only.trans ho2⟩
      obtain ⟨b2, hb2⟩ : ∃ b2, b2 = (!(decide (c2 = 0))) := ⟨_, rfl⟩
      rw [← hb2] at ST2 ⊢
      clear hst2 hadd hrow2 ho2 hb2
      go_wp2
      go_roundw
      case rel => exact ⟨!b2, G1 - 1, zr2, rfl, vint (by omega), by omega, ST2.out⟩
      case measure => simp [intOf]; omega
end Go.Proofs.YtdoponlhiidimaaGreatDoor
