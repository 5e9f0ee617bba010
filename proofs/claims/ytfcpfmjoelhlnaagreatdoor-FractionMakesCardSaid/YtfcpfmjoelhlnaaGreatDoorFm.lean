/- Plain mathematics of fractions: lowest terms, sums by parts, differences by complements, products crosswise, and the order by continued fractions. No condition. -/
namespace FracN

/-- n / d in lowest terms. -/
def low (n d : Nat) : Nat × Nat := (n / Nat.gcd n d, d / Nat.gcd n d)
/-- Two ways to write one fraction have the same lowest terms. -/
theorem low_unique {n d n' d' : Nat} (hd : 0 < d) (hd' : 0 < d') (h : n * d' = n' * d) : low n d = low n' d' := by
  have hg : 0 < Nat.gcd n d := Nat.gcd_pos_of_pos_right _ hd
  have hg' : 0 < Nat.gcd n' d' := Nat.gcd_pos_of_pos_right _ hd'
  have e : Nat.gcd n d * d' = Nat.gcd n' d' * d := by
    rw [← Nat.gcd_mul_right, h, Nat.mul_comm d d', Nat.gcd_mul_right]
  obtain ⟨a, ha⟩ := Nat.gcd_dvd_left n d
  obtain ⟨b, hb⟩ := Nat.gcd_dvd_right n d
  obtain ⟨a', ha'⟩ := Nat.gcd_dvd_left n' d'
  obtain ⟨b', hb'⟩ := Nat.gcd_dvd_right n' d'
  have e1 : n / Nat.gcd n d = a := by rw [Nat.div_eq_iff_eq_mul_right hg (Nat.gcd_dvd_left _ _)]; exact ha
  have e2 : d / Nat.gcd n d = b := by rw [Nat.div_eq_iff_eq_mul_right hg (Nat.gcd_dvd_right _ _)]; exact hb
  have e3 : n' / Nat.gcd n' d' = a' := by rw [Nat.div_eq_iff_eq_mul_right hg' (Nat.gcd_dvd_left _ _)]; exact ha'
  have e4 : d' / Nat.gcd n' d' = b' := by rw [Nat.div_eq_iff_eq_mul_right hg' (Nat.gcd_dvd_right _ _)]; exact hb'
  have hbb : b = b' := by
    have h1 : Nat.gcd n d * Nat.gcd n' d' * b' = Nat.gcd n d * Nat.gcd n' d' * b := by
      calc Nat.gcd n d * Nat.gcd n' d' * b' = Nat.gcd n d * (Nat.gcd n' d' * b') := Nat.mul_assoc _ _ _
        _ = Nat.gcd n d * d' := by rw [← hb']
        _ = Nat.gcd n' d' * d := e
        _ = Nat.gcd n' d' * (Nat.gcd n d * b) := by rw [← hb]
        _ = Nat.gcd n d * Nat.gcd n' d' * b := by rw [← Nat.mul_assoc, Nat.mul_comm (Nat.gcd n' d')]
    exact (Nat.eq_of_mul_eq_mul_left (Nat.mul_pos hg hg') h1).symm
  have hdb : d * d' ≠ 0 := Nat.ne_of_gt (Nat.mul_pos hd hd')
  have haa : a = a' := by
    have h1 : a * d = n * b := by
      calc a * d = a * (Nat.gcd n d * b) := by rw [← hb]
        _ = Nat.gcd n d * a * b := by rw [Nat.mul_left_comm, Nat.mul_assoc]
        _ = n * b := by rw [← ha]
    have h2 : a' * d' = n' * b' := by
      calc a' * d' = a' * (Nat.gcd n' d' * b') := by rw [← hb']
        _ = Nat.gcd n' d' * a' * b' := by rw [Nat.mul_left_comm, Nat.mul_assoc]
        _ = n' * b' := by rw [← ha']
    have h3 : a * (d * d') = a' * (d * d') := by
      calc a * (d * d') = a * d * d' := (Nat.mul_assoc _ _ _).symm
        _ = n * b * d' := by rw [h1]
        _ = n * d' * b := by rw [Nat.mul_assoc, Nat.mul_comm b, ← Nat.mul_assoc]
        _ = n' * d * b' := by rw [h, hbb]
        _ = n' * b' * d := by rw [Nat.mul_assoc, Nat.mul_comm d, ← Nat.mul_assoc]
        _ = a' * d' * d := by rw [h2]
        _ = a' * (d * d') := by rw [Nat.mul_assoc, Nat.mul_comm d']
    exact Nat.eq_of_mul_eq_mul_right (Nat.mul_pos hd hd') h3
  unfold low
  rw [e1, e2, e3, e4, haa, hbb]
theorem low_self {n d : Nat} (h : Nat.gcd n d = 1) : low n d = (n, d) := by unfold low; rw [h, Nat.div_one, Nat.div_one]
/-- What is written in lowest terms is the lowest terms. -/
theorem low_is {n d n' d' : Nat} (hd : 0 < d) (hd' : 0 < d') (h : n * d' = n' * d) (hg : Nat.gcd n' d' = 1) : low n d = (n', d') := (low_unique hd hd' h).trans (low_self hg)
theorem low_gcd {n d : Nat} (hd : 0 < d) : Nat.gcd (low n d).1 (low n d).2 = 1 := by
  have hg : 0 < Nat.gcd n d := Nat.gcd_pos_of_pos_right _ hd
  unfold low
  show Nat.gcd (n / Nat.gcd n d) (d / Nat.gcd n d) = 1
  have e : Nat.gcd n d * Nat.gcd (n / Nat.gcd n d) (d / Nat.gcd n d) = Nat.gcd n d * 1 := by
    rw [← Nat.gcd_mul_left, Nat.mul_div_cancel' (Nat.gcd_dvd_left n d), Nat.mul_div_cancel' (Nat.gcd_dvd_right n d), Nat.mul_one]
  exact Nat.eq_of_mul_eq_mul_left hg e
theorem low_pos {n d : Nat} (hd : 0 < d) : 0 < (low n d).2 := by
  unfold low
  exact Nat.div_pos (Nat.le_of_dvd hd (Nat.gcd_dvd_right _ _)) (Nat.gcd_pos_of_pos_right _ hd)
/-- The lowest terms are the same fraction. -/
theorem low_eq (n d : Nat) : (low n d).1 * d = n * (low n d).2 := by
  unfold low
  show n / Nat.gcd n d * d = n * (d / Nat.gcd n d)
  rw [Nat.mul_comm, ← Nat.mul_div_assoc _ (Nat.gcd_dvd_left _ _), ← Nat.mul_div_assoc _ (Nat.gcd_dvd_right _ _), Nat.mul_comm]
/-- Of a fraction in lowest terms, numerator and denominator are not greater than those of any way to write it. -/
theorem low_le {n d n' d' : Nat} (hd : 0 < d) (hd' : 0 < d') (h : n * d' = n' * d) (hg : Nat.gcd n' d' = 1) : n' ≤ n ∧ d' ≤ d := by
  have e := low_is hd hd' h hg
  have e1 : n / Nat.gcd n d = n' := congrArg Prod.fst e
  have e2 : d / Nat.gcd n d = d' := congrArg Prod.snd e
  exact ⟨by rw [← e1]; exact Nat.div_le_self _ _, by rw [← e2]; exact Nat.div_le_self _ _⟩
/-- Products crosswise: without the common factors of each numerator with the other denominator, the product is in lowest terms. -/
theorem cross {a b c d : Nat} (hb : 0 < b) (hd : 0 < d) (hab : Nat.gcd a b = 1) (hcd : Nat.gcd c d = 1) :
    Nat.gcd ((low a d).1 * (low c b).1) ((low a d).2 * (low c b).2) = 1 := by
  have h1 : Nat.Coprime (low a d).1 (low a d).2 := low_gcd hd
  have h2 : Nat.Coprime (low c b).1 (low c b).2 := low_gcd hb
  have dv : ∀ n d : Nat, (low n d).1 ∣ n := fun n d => Nat.div_dvd_of_dvd (Nat.gcd_dvd_left n d)
  have dw : ∀ n d : Nat, (low n d).2 ∣ d := fun n d => Nat.div_dvd_of_dvd (Nat.gcd_dvd_right n d)
  have h3 : Nat.Coprime (low a d).1 (low c b).2 := Nat.Coprime.coprime_dvd_left (dv a d) (Nat.Coprime.coprime_dvd_right (dw c b) hab)
  have h4 : Nat.Coprime (low c b).1 (low a d).2 := Nat.Coprime.coprime_dvd_left (dv c b) (Nat.Coprime.coprime_dvd_right (dw a d) hcd)
  exact Nat.Coprime.mul_left (Nat.Coprime.mul_right h1 h3) (Nat.Coprime.mul_right h4 h2)
theorem cross_eq {a b c d : Nat} (hb : 0 < b) (hd : 0 < d) (hab : Nat.gcd a b = 1) (hcd : Nat.gcd c d = 1) :
    low (a * c) (b * d) = ((low a d).1 * (low c b).1, (low a d).2 * (low c b).2) := by
  refine low_is (Nat.mul_pos hb hd) (Nat.mul_pos (low_pos hd) (low_pos hb)) ?_ (cross hb hd hab hcd)
  have e1 := low_eq a d
  have e2 := low_eq c b
  calc a * c * ((low a d).2 * (low c b).2) = (a * (low a d).2) * (c * (low c b).2) := by ac_rfl
    _ = ((low a d).1 * d) * ((low c b).1 * b) := by rw [e1, e2]
    _ = (low a d).1 * (low c b).1 * (b * d) := by ac_rfl
/-- The parts of a sum: g the common divisor of the denominators, N the numerator over g * (b / g) * (d / g), c what N and g have in common. -/
structure Parts (a b c d g fa fb N k den : Nat) : Prop where
  eg : g = Nat.gcd b d
  efa : fa * g = d
  efb : fb * g = b
  eN : N = a * fa + c * fb
  ek : k = Nat.gcd N g
  eden : den * k = fb * d
theorem Parts.low {a b c d g fa fb N k den : Nat} (h : Parts a b c d g fa fb N k den) (hb : 0 < b) (hd : 0 < d) (hab : Nat.gcd a b = 1) (hcd : Nat.gcd c d = 1) :
    0 < den ∧ k ∣ N ∧ low (a * d + c * b) (b * d) = (N / k, den) := by
  obtain ⟨eg, efa, efb, eN, ek, eden⟩ := h
  have hg : 0 < g := by rw [eg]; exact Nat.gcd_pos_of_pos_left _ hb
  have hk : 0 < k := by rw [ek]; exact Nat.gcd_pos_of_pos_right _ hg
  have hfb : 0 < fb := by rcases Nat.eq_zero_or_pos fb with h0 | h0
                          · subst h0; omega
                          · exact h0
  have hfa : 0 < fa := by rcases Nat.eq_zero_or_pos fa with h0 | h0
                          · subst h0; omega
                          · exact h0
  have hden : 0 < den := by
    rcases Nat.eq_zero_or_pos den with h0 | h0
    · subst h0; have := Nat.mul_pos hfb hd; omega
    · exact h0
  have hkN : k ∣ N := by rw [ek]; exact Nat.gcd_dvd_left _ _
  have hkg : k ∣ g := by rw [ek]; exact Nat.gcd_dvd_right _ _
  refine ⟨hden, hkN, low_is (Nat.mul_pos hb hd) hden ?_ ?_⟩
  · obtain ⟨m, rfl⟩ := hkN
    rw [Nat.mul_div_cancel_left _ hk]
    have e1 : a * d + c * b = g * (k * m) := by rw [eN, ← efa, ← efb, Nat.mul_add]; ac_rfl
    have : k * ((a * d + c * b) * den) = k * (m * (b * d)) := by
      rw [e1, ← efb]
      calc k * (g * (k * m) * den) = k * (g * m) * (den * k) := by ac_rfl
        _ = k * (g * m) * (fb * d) := by rw [eden]
        _ = k * (m * (fb * g * d)) := by ac_rfl
    exact Nat.eq_of_mul_eq_mul_left hk this
  · -- what N / k and the denominator have in common
    have hfab : Nat.Coprime fa fb := by
      have : Nat.gcd fb fa * g = 1 * g := by rw [← Nat.gcd_mul_right, efa, efb, ← eg, Nat.one_mul]
      exact (Nat.gcd_comm fa fb).trans (Nat.eq_of_mul_eq_mul_right hg this)
    have ha_fb : Nat.Coprime a fb := Nat.Coprime.coprime_dvd_right ⟨g, efb.symm⟩ hab
    have hc_fa : Nat.Coprime c fa := Nat.Coprime.coprime_dvd_right ⟨g, efa.symm⟩ hcd
    have hN_fa : Nat.Coprime N fa := by
      rw [eN]
      show Nat.gcd (a * fa + c * fb) fa = 1
      rw [Nat.add_comm, Nat.gcd_add_mul_right_left]
      exact Nat.Coprime.mul_left hc_fa hfab.symm
    have hN_fb : Nat.Coprime N fb := by
      rw [eN]
      show Nat.gcd (a * fa + c * fb) fb = 1
      rw [Nat.gcd_add_mul_right_left]
      exact Nat.Coprime.mul_left ha_fb hfab
    obtain ⟨m, hm⟩ := hkN
    obtain ⟨t, ht⟩ := hkg
    have hmN : m ∣ N := ⟨k, by rw [hm, Nat.mul_comm]⟩
    have e2 : den = fb * fa * t := by
      have : k * den = k * (fb * fa * t) := by
        rw [Nat.mul_comm k den, eden, ← efa, ht]; ac_rfl
      exact Nat.eq_of_mul_eq_mul_left hk this
    have hmt : Nat.Coprime m t := by
      have : k * Nat.gcd m t = k * 1 := by rw [← Nat.gcd_mul_left, ← hm, ← ht, ← ek, Nat.mul_one]
      exact Nat.eq_of_mul_eq_mul_left hk this
    rw [hm, Nat.mul_div_cancel_left _ hk, e2]
    exact Nat.Coprime.mul_right (Nat.Coprime.mul_right (Nat.Coprime.coprime_dvd_left hmN hN_fb) (Nat.Coprime.coprime_dvd_left hmN hN_fa)) hmt
/-- Rounded down and rounded up, the parts make the whole. -/
theorem floor_ceil {x y k : Nat} (hk : 0 < k) (h : k ∣ x + y) : x / k + (y / k + if y % k = 0 then 0 else 1) = (x + y) / k := by
  obtain ⟨m, hm⟩ := h
  rw [hm, Nat.mul_div_cancel_left _ hk]
  have h1 := Nat.div_add_mod x k
  have h2 := Nat.div_add_mod y k
  have h3 := Nat.mod_lt x hk
  have h4 := Nat.mod_lt y hk
  have e : k * m = k * (x / k + y / k) + (x % k + y % k) := by rw [Nat.mul_add]; omega
  by_cases h0 : y % k = 0
  · rw [if_pos h0]
    rw [h0, Nat.add_zero] at e
    have h5 : x % k = 0 := by
      have : (k * m) % k = x % k := by rw [e, Nat.mul_add_mod, Nat.mod_eq_of_lt h3]
      rw [← this, Nat.mul_mod_right]
    rw [h5, Nat.add_zero] at e
    exact (Nat.eq_of_mul_eq_mul_left hk e).symm
  · rw [if_neg h0]
    have h5 : x % k + y % k = k := by
      have h6 : (x % k + y % k) % k = 0 := by
        have : (k * m) % k = (x % k + y % k) % k := by rw [e, Nat.mul_add_mod]
        rw [← this, Nat.mul_mod_right]
      obtain ⟨t, ht⟩ := Nat.dvd_of_mod_eq_zero h6
      have : t = 1 := by
        rcases Nat.lt_or_ge t 2 with h7 | h7
        · rcases Nat.eq_zero_or_pos t with h8 | h8
          · subst h8; omega
          · omega
        · have := Nat.mul_le_mul_left k h7; omega
      subst this; omega
    rw [h5] at e
    have : k * m = k * (x / k + (y / k + 1)) := by rw [e]; simp [Nat.mul_add]; omega
    exact (Nat.eq_of_mul_eq_mul_left hk this).symm
/-- The quotient of a product by whole and rest. -/
theorem div_product (x y d : Nat) (hd : 0 < d) : x / d * y + x % d * y / d = x * y / d ∧ x % d * y % d = x * y % d := by
  have e : x * y = x % d * y + d * (x / d * y) := by
    have h := Nat.div_add_mod x d
    calc x * y = (d * (x / d) + x % d) * y := by rw [h]
      _ = x % d * y + d * (x / d * y) := by rw [Nat.add_mul, Nat.mul_assoc, Nat.add_comm]
  rw [e]
  exact ⟨by rw [Nat.add_mul_div_left _ _ hd, Nat.add_comm], by rw [Nat.add_mul_mod_self_left]⟩
theorem div_product_lt (x y d : Nat) (hd : 0 < d) : x % d * y ≤ d * y := Nat.mul_le_mul_right _ (Nat.le_of_lt (Nat.mod_lt _ hd))
end FracN
