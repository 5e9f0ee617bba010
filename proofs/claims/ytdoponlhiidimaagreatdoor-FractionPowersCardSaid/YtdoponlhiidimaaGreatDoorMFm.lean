/- Plain mathematics of fractions: lowest terms, sums by parts, differences by complements, products crosswise, and the order by continued fractions. No condition. -/

namespace FracN

/-- n / d in lowest terms. -/
def low (n d : Nat) : Nat × Nat := (n / Nat.gcd n d, d / Nat.gcd n d)
/-- Two ways to write one fraction have the same lowest terms. -/
theorem low_unique {n d n' d' : Nat} (hd : 0 < d) (hd' : 0 < d') (h : n * d' = n' * d) : low n d = low n' d' := by
  have hg : 0 < Nat.gcd n d := Nat.gcd_pos_of_pos_right _ hd
  have hg' : 0 < Nat.gcd n' d' := Nat.gcd_pos_of_pos_right _ hd'
  have e : Nat.gcd n d * d' = Nat.gcd n' d' * d := by
    rw [← Nat.gcd_mul_right, h, Nat.mul_comm d d', Nat.gcd_mul_right]
  obtain ⟨a, ha⟩ := Nat.gcd_dvd_left n d
  obtain ⟨b, hb⟩ := Nat.gcd_dvd_right n d
  obtain ⟨a', ha'⟩ := Nat.gcd_dvd_left n' d'
  obtain ⟨b', hb'⟩ := Nat.gcd_dvd_right n' d'
  have e1 : n / Nat.gcd n d = a := by rw [Nat.div_eq_iff_eq_mul_right hg (Nat.gcd_dvd_left _ _)]; exact ha
  have e2 : d / Nat.gcd n d = b := by rw [Nat.div_eq_iff_eq_mul_right hg (Nat.gcd_dvd_right _ _)]; exact hb
  have e3 : n' / Nat.gcd n' d' = a' := by rw [Nat.div_eq_iff_eq_mul_right hg' (Nat.gcd_dvd_left _ _)]; exact ha'
  have e4 : d' / Nat.gcd n' d' = b' := by rw [Nat.div_eq_iff_eq_mul_right hg' (Nat.gcd_dvd_right _ _)]; exact hb'
  have hbb : b = b' := by
    have h1 : Nat.gcd n d * Nat.gcd n' d' * b' = Nat.gcd n d * Nat.gcd n' d' * b := by
      calc Nat.gcd n d * Nat.gcd n' d' * b' = Nat.gcd n d * (Nat.gcd n' d' * b') := Nat.mul_assoc _ _ _
        _ = Nat.gcd n d * d' := by rw [← hb']
        _ = Nat.gcd n' d' * d := e
        _ = Nat.gcd n' d' * (Nat.gcd n d * b) := by rw [← hb]
        _ = Nat.gcd n d * Nat.gcd n' d' * b := by rw [← Nat.mul_assoc, Nat.mul_comm (Nat.gcd n' d')]
    exact (Nat.eq_of_mul_eq_mul_left (Nat.mul_pos hg hg') h1).symm
  have hdb : d * d' ≠ 0 := Nat.ne_of_gt (Nat.mul_pos hd hd')
  have haa : a = a' := by
    have h1 : a * d = n * b := by
      calc a * d = a * (Nat.gcd n d * b) := by rw [← hb]
        _ = Nat.gcd n d * a * b := by rw [Nat.mul_left_comm, Nat.mul_assoc]
        _ = n * b := by rw [← ha]
    have h2 : a' * d' = n' * b' := by
      calc a' * d' = a' * (Nat.gcd n' d' * b') := by rw [← hb']
        _ = Nat.gcd n' d' * a' * b' := by rw [Nat.mul_left_comm, Nat.mul_assoc]
        _ = n' * b' := by rw [← ha']
    have h3 : a * (d * d') = a' * (d * d') := by
      calc a * (d * d') = a * d * d' := (Nat.mul_assoc _ _ _).symm
        _ = n * b * d' := by rw [h1]
        _ = n * d' * b := by rw [Nat.mul_assoc, Nat.mul_comm b, ← Nat.mul_assoc]
        _ = n' * d * b' := by rw [h, hbb]
        _ = n' * b' * d := by rw [Nat.mul_assoc, Nat.mul_comm d, ← Nat.mul_assoc]
        _ = a' * d' * d := by rw [h2]
        _ = a' * (d * d') := by rw [Nat.mul_assoc, Nat.mul_comm d']
    exact Nat.eq_of_mul_eq_mul_right (Nat.mul_pos hd hd') h3
  unfold low
  rw [e1, e2, e3, e4, haa, hbb]
theorem low_self {n d : Nat} (h : Nat.gcd n d = 1) : low n d = (n, d) := by unfold low; rw [h, Nat.div_one, Nat.div_one]
/-- What is written in lowest terms is the lowest terms. -/
theorem low_is {n d n' d' : Nat} (hd : 0 < d) (hd' : 0 < d') (h : n * d' = n' * d) (hg : Nat.gcd n' d' = 1) : low n d = (n', d') := (low_unique hd hd' h).trans (low_self hg)
theorem low_gcd {n d : Nat} (hd : 0 < d) : Nat.gcd (low n d).1 (low n d).2 = 1 := by
  have hg : 0 < Nat.gcd n d := Nat.gcd_pos_of_pos_right _ hd
  unfold low
  show Nat.gcd (n / Nat.gcd n d) (d / Nat.gcd n d) = 1
  have e : Nat.gcd n d * Nat.gcd (n / Nat.gcd n d) (d / Nat.gcd n d) = Nat.gcd n d * 1 := by
    rw [← Nat.gcd_mul_left, Nat.mul_div_cancel' (Nat.gcd_dvd_left n d), Nat.mul_div_cancel' (Nat.gcd_dvd_right n d), Nat.mul_one]
  exact Nat.eq_of_mul_eq_mul_left hg e
theorem low_pos {n d : Nat} (hd : 0 < d) : 0 < (low n d).2 := by
  unfold low
  exact Nat.div_pos (Nat.le_of_dvd hd (Nat.gcd_dvd_right _ _)) (Nat.gcd_pos_of_pos_right _ hd)
/-- The lowest terms are the same fraction. -/
theorem low_eq (n d : Nat) : (low n d).1 * d = n * (low n d).2 := by
  unfold low
  show n / Nat.gcd n d * d = n * (d / Nat.gcd n d)
  rw [Nat.mul_comm, ← Nat.mul_div_assoc _ (Nat.gcd_dvd_left _ _), ← Nat.mul_div_assoc _ (Nat.gcd_dvd_right _ _), Nat.mul_comm]
/-- Of a fraction in lowest terms, numerator and denominator are not greater than those of any way to write it. -/
theorem low_le {n d n' d' : Nat} (hd : 0 < d) (hd' : 0 < d') (h : n * d' = n' * d) (hg : Nat.gcd n' d' = 1) : n' ≤ n ∧ d' ≤ d := by
  have e := low_is hd hd' h hg
  have e1 : n / Nat.gcd n d = n' := congrArg Prod.fst e
  have e2 : d / Nat.gcd n d = d' := congrArg Prod.snd e
  exact ⟨by rw [← e1]; exact Nat.div_le_self _ _, by rw [← e2]; exact Nat.div_le_self _ _⟩
/-- Products crosswise: without the common factors of each numerator with the other denominator, the product is in lowest terms. -/
theorem cross {a b c d : Nat} (hb : 0 < b) (hd : 0 < d) (hab : Nat.gcd a b = 1) (hcd : Nat.gcd c d = 1) :
    Nat.gcd ((low a d).1 * (low c b).1) ((low a d).2 * (low c b).2) = 1 := by
  have h1 : Nat.Coprime (low a d).1 (low a d).2 := low_gcd hd
  have h2 : Nat.Coprime (low c b).1 (low c b).2 := low_gcd hb
  have dv : ∀ n d : Nat, (low n d).1 ∣ n := fun n d => Nat.div_dvd_of_dvd (Nat.gcd_dvd_left n d)
  have dw : ∀ n d : Nat, (low n d).2 ∣ d := fun n d => Nat.div_dvd_of_dvd (Nat.gcd_dvd_right n d)
  have h3 : Nat.Coprime (low a d).1 (low c b).2 := Nat.Coprime.coprime_dvd_left (dv a d) (Nat.Coprime.coprime_dvd_right (dw c b) hab)
  have h4 : Nat.Coprime (low c b).1 (low a d).2 := Nat.Coprime.coprime_dvd_left (dv c b) (Nat.Coprime.coprime_dvd_right (dw a d) hcd)
  exact Nat.Coprime.mul_left (Nat.Coprime.mul_right h1 h3) (Nat.Coprime.mul_right h4 h2)
theorem cross_eq {a b c d : Nat} (hb : 0 < b) (hd : 0 < d) (hab : Nat.gcd a b = 1) (hcd : Nat.gcd c d = 1) :
    low (a * c) (b * d) = ((low a d).1 * (low c b).1, (low a d).2 * (low c b).2) := by
  refine low_is (Nat.mul_pos hb hd) (Nat.mul_pos (low_pos hd) (low_pos hb)) ?_ (cross hb hd hab hcd)
  have e1 := low_eq a d
  have e2 := low_eq c b
  calc a * c * ((low a d).2 * (low c b).2) = (a * (low a d).2) * (c * (low c b).2) := by ac_rfl
    _ = ((low a d).1 * d) * ((low c b).1 * b) := by rw [e1, e2]
    _ = (low a d).1 * (low c b).1 * (b * d) := by ac_rfl
/-- The parts of a sum: g the common divisor of the denominators, N the numerator over g * (b / g) * (d / g), c what N and g have in common. -/
structure Parts (a b c d g fa fb N k den : Nat) : Prop where
  eg : g = Nat.gcd b d
  efa : fa * g = d
  efb : fb * g = b
  eN : N = a * fa + c * fb
  ek : k = Nat.gcd N g
  eden : den * k = fb * d
theorem Parts.low {a b c d g fa fb N k den : Nat} (h : Parts a b c d g fa fb N k den) (hb : 0 < b) (hd : 0 < d) (hab : Nat.gcd a b = 1) (hcd : Nat.gcd c d = 1) :
    0 < den ∧ k ∣ N ∧ low (a * d + c * b) (b * d) = (N / k, den) := by
  obtain ⟨eg, efa, efb, eN, ek, eden⟩ := h
  have hg : 0 < g := by rw [eg]; exact Nat.gcd_pos_of_pos_left _ hb
  have hk : 0 < k := by rw [ek]; exact Nat.gcd_pos_of_pos_right _ hg
  have hfb : 0 < fb := by rcases Nat.eq_zero_or_pos fb with h0 | h0
                          · subst h0; omega
                          · exact h0
  have hfa : 0 < fa := by rcases Nat.eq_zero_or_pos fa with h0 | h0
                          · subst h0; omega
                          · exact h0
  have hden : 0 < den := by
    rcases Nat.eq_zero_or_pos den with h0 | h0
    · subst h0; have := Nat.mul_pos hfb hd; omega
    · exact h0
  have hkN : k ∣ N := by rw [ek]; exact Nat.gcd_dvd_left _ _
  have hkg : k ∣ g := by rw [ek]; exact Nat.gcd_dvd_right _ _
  refine ⟨hden, hkN, low_is (Nat.mul_pos hb hd) hden ?_ ?_⟩
  · obtain ⟨m, rfl⟩ := hkN
    rw [Nat.mul_div_cancel_left _ hk]
    have e1 : a * d + c * b = g * (k * m) := by rw [eN, ← efa, ← efb, Nat.mul_add]; ac_rfl
    have : k * ((a * d + c * b) * den) = k * (m * (b * d)) := by
      rw [e1, ← efb]
      calc k * (g * (k * m) * den) = k * (g * m) * (den * k) := by ac_rfl
        _ = k * (g * m) * (fb * d) := by rw [eden]
        _ = k * (m * (fb * g * d)) := by ac_rfl
    exact Nat.eq_of_mul_eq_mul_left hk this
  · -- what N / k and the denominator have in common
    have hfab : Nat.Coprime fa fb := by
      have : Nat.gcd fb fa * g = 1 * g := by rw [← Nat.gcd_mul_right, efa, efb, ← eg, Nat.one_mul]
      exact (Nat.gcd_comm fa fb).trans (Nat.eq_of_mul_eq_mul_right hg this)
    have ha_fb : Nat.Coprime a fb := Nat.Coprime.coprime_dvd_right ⟨g, efb.symm⟩ hab
    have hc_fa : Nat.Coprime c fa := Nat.Coprime.coprime_dvd_right ⟨g, efa.symm⟩ hcd
    have hN_fa : Nat.Coprime N fa := by
      rw [eN]
      show Nat.gcd (a * fa + c * fb) fa = 1
      rw [Nat.add_comm, Nat.gcd_add_mul_right_left]
      exact Nat.Coprime.mul_left hc_fa hfab.symm
    have hN_fb : Nat.Coprime N fb := by
      rw [eN]
      show Nat.gcd (a * fa + c * fb) fb = 1
      rw [Nat.gcd_add_mul_right_left]
      exact Nat.Coprime.mul_left ha_fb hfab
    obtain ⟨m, hm⟩ := hkN
    obtain ⟨t, ht⟩ := hkg
    have hmN : m ∣ N := ⟨k, by rw [hm, Nat.mul_comm]⟩
    have e2 : den = fb * fa * t := by
      have : k * den = k * (fb * fa * t) := by
        rw [Nat.mul_comm k den, eden, ← efa, ht]; ac_rfl
      exact Nat.eq_of_mul_eq_mul_left hk this
    have hmt : Nat.Coprime m t := by
      have : k * Nat.gcd m t = k * 1 := by rw [← Nat.gcd_mul_left, ← hm, ← ht, ← ek, Nat.mul_one]
      exact Nat.eq_of_mul_eq_mul_left hk this
    rw [hm, Nat.mul_div_cancel_left _ hk, e2]
    exact Nat.Coprime.mul_right (Nat.Coprime.mul_right (Nat.Coprime.coprime_dvd_left hmN hN_fb) (Nat.Coprime.coprime_dvd_left hmN hN_fa)) hmt
/-- Rounded down and rounded up, the parts make the whole. -/
theorem floor_ceil {x y k : Nat} (hk : 0 < k) (h : k ∣ x + y) : x / k + (y / k + if y % k = 0 then 0 else 1) = (x + y) / k := by
  obtain ⟨m, hm⟩ := h
  rw [hm, Nat.mul_div_cancel_left _ hk]
  have h1 := Nat.div_add_mod x k
  have h2 := Nat.div_add_mod y k
  have h3 := Nat.mod_lt x hk
  have h4 := Nat.mod_lt y hk
  have e : k * m = k * (x / k + y / k) + (x % k + y % k) := by rw [Nat.mul_add]; omega
  by_cases h0 : y % k = 0
  · rw [if_pos h0]
    rw [h0, Nat.add_zero] at e
    have h5 : x % k = 0 := by
      have : (k * m) % k = x % k := by rw [e, Nat.mul_add_mod, Nat.mod_eq_of_lt h3]
      rw [← this, Nat.mul_mod_right]
    rw [h5, Nat.add_zero] at e
    exact (Nat.eq_of_mul_eq_mul_left hk e).symm
  · rw [if_neg h0]
    have h5 : x % k + y % k = k := by
      have h6 : (x % k + y % k) % k = 0 := by
        have : (k * m) % k = (x % k + y % k) % k := by rw [e, Nat.mul_add_mod]
        rw [← this, Nat.mul_mod_right]
      obtain ⟨t, ht⟩ := Nat.dvd_of_mod_eq_zero h6
      have : t = 1 := by
        rcases Nat.lt_or_ge t 2 with h7 | h7
        · rcases Nat.eq_zero_or_pos t with h8 | h8
          · subst h8; omega
          · omega
        · have := Nat.mul_le_mul_left k h7; omega
      subst this; omega
    rw [h5] at e
    have : k * m = k * (x / k + (y / k + 1)) := by rw [e]; simp [Nat.mul_add]; omega
    exact (Nat.eq_of_mul_eq_mul_left hk this).symm
/-- The quotient of a product by whole and rest. -/
theorem div_product (x y d : Nat) (hd : 0 < d) : x / d * y + x % d * y / d = x * y / d ∧ x % d * y % d = x * y % d := by
  have e : x * y = x % d * y + d * (x / d * y) := by
    have h := Nat.div_add_mod x d
    calc x * y = (d * (x / d) + x % d) * y := by rw [h]
      _ = x % d * y + d * (x / d * y) := by rw [Nat.add_mul, Nat.mul_assoc, Nat.add_comm]
  rw [e]
  exact ⟨by rw [Nat.add_mul_div_left _ _ hd, Nat.add_comm], by rw [Nat.add_mul_mod_self_left]⟩
theorem div_product_lt (x y d : Nat) (hd : 0 < d) : x % d * y ≤ d * y := Nat.mul_le_mul_right _ (Nat.le_of_lt (Nat.mod_lt _ hd))
end FracN

/- Plain mathematics of fractions, second part: differences by complements, the order by continued fractions, the order of whole parts. No condition. -/
namespace FracN

/-- A difference as whole parts and a sum with the complement. -/
theorem sub_low {a b c d g fa fb N k den M : Nat} (hb : 0 < b) (hd : 0 < d) (hab : Nat.gcd a b = 1) (hcd : Nat.gcd c d = 1)
    (h : Parts (a % b) b (d - c % d) d g fa fb N k den) (hM : M + den = (a / b - c / d) * den + N / k) (hw : c / d ≤ a / b) :
    low (a * d - c * b) (b * d) = (M, den) := by
  have hr := Nat.mod_lt c hd
  have g1 : Nat.gcd (a % b) b = 1 := by rw [← Nat.gcd_rec, Nat.gcd_comm]; exact hab
  have g2 : Nat.gcd (d - c % d) d = 1 := by
    have g3 : Nat.gcd (c % d) d = 1 := by rw [← Nat.gcd_rec, Nat.gcd_comm]; exact hcd
    obtain ⟨r, er⟩ : ∃ r, r = c % d := ⟨_, rfl⟩
    rw [← er] at g3 hr ⊢
    obtain ⟨t, rfl⟩ : ∃ t, d = t + r := ⟨d - r, by omega⟩
    rw [Nat.gcd_add_self_right] at g3
    rw [Nat.add_sub_cancel, Nat.gcd_self_add_right, Nat.gcd_comm]; exact g3
  obtain ⟨hden, -, hl⟩ := h.low hb hd g1 g2
  have hc := low_eq (a % b * d + (d - c % d) * b) (b * d)
  rw [hl] at hc
  simp only at hc
  have hg := low_gcd (n := a % b * d + (d - c % d) * b) (Nat.mul_pos hb hd)
  rw [hl] at hg
  simp only at hg
  obtain ⟨w, hw'⟩ : ∃ w, w = a / b - c / d := ⟨_, rfl⟩
  rw [← hw'] at hM
  have ea := Nat.div_add_mod a b
  have ec := Nat.div_add_mod c d
  have e1 : a * d + b * d = c * b + w * (b * d) + (a % b * d + (d - c % d) * b) := by
    have h1 : a / b = c / d + w := by omega
    have h2 : (d - c % d) * b + c % d * b = d * b := by rw [← Nat.add_mul, Nat.sub_add_cancel (Nat.le_of_lt hr)]
    have h3 : a * d = (c / d + w) * (b * d) + a % b * d := by
      conv => lhs; rw [← ea, h1]
      rw [Nat.add_mul, Nat.mul_comm b, Nat.mul_assoc]
    have h4 : c * b = c / d * (b * d) + c % d * b := by
      conv => lhs; rw [← ec]
      rw [Nat.add_mul, Nat.mul_comm d, Nat.mul_assoc, Nat.mul_comm d b]
    rw [h3, h4, Nat.add_mul, Nat.mul_comm b d] at *
    omega
  refine low_is (Nat.mul_pos hb hd) hden ?_ ?_
  · have e2 : (a * d + b * d) * den = (c * b + w * (b * d) + (a % b * d + (d - c % d) * b)) * den := by rw [e1]
    rw [Nat.add_mul, Nat.add_mul, Nat.add_mul, ← hc] at e2
    have e3 : (M + den) * (b * d) = (w * den + N / k) * (b * d) := by rw [hM]
    rw [Nat.add_mul, Nat.add_mul] at e3
    have e4 : w * (b * d) * den = w * den * (b * d) := by ac_rfl
    have e5 : b * d * den = den * (b * d) := Nat.mul_comm _ _
    rw [Nat.sub_mul]
    omega
  · rw [← hg]
    have e6 : M + den = N / k + w * den := by omega
    calc Nat.gcd M den = Nat.gcd (M + den) den := by rw [Nat.gcd_add_self_left]
      _ = Nat.gcd (N / k) den := by rw [e6, Nat.gcd_add_mul_right_left]
theorem floor_mono {a b c d : Nat} (hb : 0 < b) (hd : 0 < d) (h : c * b ≤ a * d) : c / d ≤ a / b := by
  rw [Nat.le_div_iff_mul_le hb]
  have h1 := Nat.div_mul_le_self c d
  have h2 : c / d * b * d ≤ a * d := by
    calc c / d * b * d = c / d * d * b := by ac_rfl
      _ ≤ c * b := Nat.mul_le_mul_right _ h1
      _ ≤ a * d := h
  exact Nat.le_of_mul_le_mul_right h2 hd
/-- -1, 0 or 1. -/
def ord (x y : Nat) : Int := if x < y then -1 else if y < x then 1 else 0
theorem ord_self (x : Nat) : ord x x = 0 := by unfold ord; rw [if_neg (by omega), if_neg (by omega)]
theorem ord_ne {x y : Nat} (h : x ≠ y) : ord x y ≠ 0 := by unfold ord; split <;> (try split) <;> omega
theorem ord_swap (x y : Nat) : ord x y = - ord y x := by unfold ord; repeat' split
                                                         all_goals omega
theorem ord_add (w x y : Nat) : ord (w + x) (w + y) = ord x y := by
  unfold ord
  have e1 : (w + x < w + y) = (x < y) := by simp
  have e2 : (w + y < w + x) = (y < x) := by simp
  simp only [e1, e2]
/-- The order of two fractions by their whole parts, or by the reciprocals of the rests. -/
theorem ord_whole {a b c d : Nat} (hb : 0 < b) (hd : 0 < d) (h : a / b ≠ c / d) : ord (a * d) (c * b) = ord (a / b) (c / d) := by
  unfold ord
  by_cases h1 : a / b < c / d
  · rw [if_pos h1, if_pos]
    have := fun h2 => floor_mono (a := a) (b := b) (c := c) (d := d) hb hd h2
    rcases Nat.lt_or_ge (a * d) (c * b) with h3 | h3
    · exact h3
    · have := this h3; omega
  · have h2 : c / d < a / b := by omega
    rw [if_neg h1, if_pos h2]
    have h3 : c * b < a * d := by
      rcases Nat.lt_or_ge (c * b) (a * d) with h3 | h3
      · exact h3
      · have := floor_mono (a := c) (b := d) (c := a) (d := b) hd hb h3; omega
    rw [if_neg (by omega), if_pos h3]
theorem ord_rest {a b c d : Nat} (h : a / b = c / d) : ord (a * d) (c * b) = ord (a % b * d) (c % d * b) := by
  have e1 : a * d = c / d * (b * d) + a % b * d := by
    conv => lhs; rw [← Nat.div_add_mod a b, h]
    rw [Nat.add_mul, Nat.mul_comm b, Nat.mul_assoc]
  have e2 : c * b = c / d * (b * d) + c % d * b := by
    conv => lhs; rw [← Nat.div_add_mod c d]
    rw [Nat.add_mul, Nat.mul_comm d, Nat.mul_assoc, Nat.mul_comm d b]
  rw [e1, e2, ord_add]
theorem ord_zero {b d x y : Nat} (hb : 0 < b) (hd : 0 < d) (h : x = 0 ∨ y = 0) : ord (x * d) (y * b) = ord x y := by
  rcases h with rfl | rfl
  · rw [Nat.zero_mul]
    unfold ord
    rcases Nat.eq_zero_or_pos y with h0 | h0
    · subst h0; simp
    · have := Nat.mul_pos h0 hb
      rw [if_pos this, if_pos h0]
  · rw [Nat.zero_mul]
    unfold ord
    rcases Nat.eq_zero_or_pos x with h0 | h0
    · subst h0; simp
    · have := Nat.mul_pos h0 hd
      rw [if_neg (by omega), if_pos this, if_neg (by omega), if_pos h0]
theorem ord_turn (b d x y : Nat) : ord (x * d) (y * b) = - ord (b * y) (d * x) := by rw [ord_swap, Nat.mul_comm y b, Nat.mul_comm x d]
end FracN

/- Plain mathematics of the laws of fractions: quotients undo products, differences undo sums, products go over sums. No condition. -/
namespace FracN
set_option linter.unusedVariables false

theorem div_back {n1 d1 n2 d2 P1 P2 : Nat} (h1 : 0 < d1) (h2 : 0 < d2) (hP : P1 * (d1 * d2) = n1 * n2 * P2) : P1 * d2 * d1 = n1 * (P2 * n2) := by grind
theorem sub_back {n1 d1 n3 d3 S1 S2 : Nat} (h1 : 0 < d1) (h3 : 0 < d3) (hS : S1 * (d1 * d3) = (n1 * d3 + n3 * d1) * S2) : (S1 * d3 - n3 * S2) * d1 = n1 * (S2 * d3) := by
  have h : S1 * d3 * d1 = n1 * (S2 * d3) + n3 * S2 * d1 := by grind
  rw [Nat.sub_mul, h, Nat.add_sub_cancel]
theorem over {P1 P2 V1 V2 S1 S2 n1 n2 n3 d1 d2 d3 : Nat} (h1 : 0 < d1) (h2 : 0 < d2) (h3 : 0 < d3)
  (hP : P1 * (d1 * d2) = n1 * n2 * P2) (hV : V1 * (d3 * d2) = n3 * n2 * V2) (hS : S1 * (d1 * d3) = (n1 * d3 + n3 * d1) * S2) :
  S1 * n2 * (P2 * V2) = (P1 * V2 + V1 * P2) * (S2 * d2) := by
  have h : (S1 * n2 * (P2 * V2)) * (d1 * d2 * d3) = ((P1 * V2 + V1 * P2) * (S2 * d2)) * (d1 * d2 * d3) := by grind
  exact Nat.eq_of_mul_eq_mul_right (Nat.mul_pos (Nat.mul_pos h1 h2) h3) h
theorem sum_ge {n1 d1 n3 d3 S1 S2 : Nat} (h1 : 0 < d1) (h3 : 0 < d3) (hS : S1 * (d1 * d3) = (n1 * d3 + n3 * d1) * S2) : n1 * S2 ≤ S1 * d1 := by
  have h : (n1 * S2) * d3 ≤ (S1 * d1) * d3 := by
    have : S1 * d1 * d3 = n1 * S2 * d3 + n3 * d1 * S2 := by grind
    omega
  exact Nat.le_of_mul_le_mul_right h h3
theorem prod_le {n1 d1 n2 d2 P1 P2 : Nat} (h2 : 0 < d2) (hn : n2 ≤ d2) (hP : P1 * (d1 * d2) = n1 * n2 * P2) : P1 * d1 ≤ n1 * P2 := by
  have h : (P1 * d1) * d2 ≤ (n1 * P2) * d2 := by
    have e : P1 * d1 * d2 = n1 * P2 * n2 := by grind
    rw [e]
    exact Nat.mul_le_mul_left _ hn
  exact Nat.le_of_mul_le_mul_right h h2
/-- The numbers of a sum by parts are there. -/
theorem parts_of (a b c d : Nat) (hb : 0 < b) (hd : 0 < d) : Parts a b c d (Nat.gcd b d) (d / Nat.gcd b d) (b / Nat.gcd b d) (a * (d / Nat.gcd b d) + c * (b / Nat.gcd b d))
    (Nat.gcd (a * (d / Nat.gcd b d) + c * (b / Nat.gcd b d)) (Nat.gcd b d)) (b / Nat.gcd b d * (d / Nat.gcd (a * (d / Nat.gcd b d) + c * (b / Nat.gcd b d)) (Nat.gcd b d))) := by
  refine ⟨rfl, Nat.div_mul_cancel (Nat.gcd_dvd_right _ _), Nat.div_mul_cancel (Nat.gcd_dvd_left _ _), rfl, rfl, ?_⟩
  rw [Nat.mul_assoc, Nat.div_mul_cancel (Nat.dvd_trans (Nat.gcd_dvd_right _ _) (Nat.gcd_dvd_right _ _))]
theorem low_le_self (n d : Nat) : (low n d).1 ≤ n ∧ (low n d).2 ≤ d := ⟨Nat.div_le_self _ _, Nat.div_le_self _ _⟩
end FracN
