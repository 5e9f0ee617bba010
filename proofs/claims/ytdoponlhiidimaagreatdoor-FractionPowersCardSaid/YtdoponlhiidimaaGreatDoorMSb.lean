/- The numbers of a difference of fractions by whole parts and complements. Conditions: both fractions are in lowest terms, the second one is not greater, and the products crosswise have room. -/
import Derived.Test.YtdoponlhiidimaaGreatDoorMCa
import Derived.Test.YtdoponlhiidimaaGreatDoorCmp
namespace Go.Proofs.YtdoponlhiidimaaGreatDoor
open Go.RowKit LimbN
set_option linter.unusedVariables false
set_option linter.unusedSimpArgs false

/-- How often the denominator is taken away, and the numerator of the difference. -/
def subW (W S den : Nat) : Nat := if den ≤ S then W else W - 1
structure SubN (a b c d g fa fb k den : Nat) : Prop where
  pn : PN (a % b) b (d - c % d) d g fa fb k den
  lt1 : a % b * fa / k < den
  le2 : up2 (d - c % d) fb k ≤ den
  fl : c / d ≤ a / b
  one : ¬ den ≤ a % b * fa / k + up2 (d - c % d) fb k → 1 ≤ a / b - c / d
  low : FracN.low (a * d - c * b) (b * d) = (subW (a / b - c / d) (a % b * fa / k + up2 (d - c % d) fb k) den * den + (a % b * fa / k + up2 (d - c % d) fb k) % den, den)
  la : (limbs a).length ≤ 128
  lc : (limbs c).length ≤ 128
  lm : (limbs (subW (a / b - c / d) (a % b * fa / k + up2 (d - c % d) fb k) den * den + (a % b * fa / k + up2 (d - c % d) fb k) % den)).length ≤ 128
theorem gcd_mod {a b : Nat} (h : Nat.gcd a b = 1) : Nat.gcd (a % b) b = 1 := by rw [← Nat.gcd_rec, Nat.gcd_comm]; exact h
theorem gcd_comp {c d : Nat} (hd : 0 < d) (hcd : Nat.gcd c d = 1) : Nat.gcd (d - c % d) d = 1 := by
  have hr := Nat.mod_lt c hd
  have g3 := gcd_mod hcd
  obtain ⟨r, er⟩ : ∃ r, r = c % d := ⟨_, rfl⟩
  rw [← er] at g3 hr ⊢
  obtain ⟨t, rfl⟩ : ∃ t, d = t + r := ⟨d - r, by omega⟩
  rw [Nat.gcd_add_self_right] at g3
  rw [Nat.add_sub_cancel, Nat.gcd_self_add_right, Nat.gcd_comm]; exact g3
theorem SubN.of {a b c d : Nat} (hb : b ≠ 0) (hd : d ≠ 0) (hab : Nat.gcd a b = 1) (hcd : Nat.gcd c d = 1) (hle : c * b ≤ a * d) (hs : (limbs (a * d)).length ≤ 128) (ht : (limbs (2 * (b * d))).length ≤ 128) :
    ∃ g fa fb k den, SubN a b c d g fa fb k den := by
  have hb' := Nat.pos_of_ne_zero hb
  have hd' := Nat.pos_of_ne_zero hd
  have hra := Nat.mod_lt a hb'
  have hrc := Nat.mod_lt c hd'
  have G1 := gcd_mod hab
  have G2 := gcd_comp hd' hcd
  have hfl := FracN.floor_mono hb' hd' hle
  have m1 : a % b * d ≤ b * d := Nat.mul_le_mul_right _ (Nat.le_of_lt hra)
  have m2 : (d - c % d) * b ≤ b * d := by rw [Nat.mul_comm b d]; exact Nat.mul_le_mul_right _ (Nat.sub_le _ _)
  obtain ⟨g, fa, fb, k, den, hp, hl⟩ := PN.of (a := a % b) (b := b) (c := d - c % d) (d := d) hb hd G1 G2 (Nat.le_trans (limbs_mono (by omega)) ht) (Nat.le_trans (limbs_mono (by omega)) ht)
  have hk := Nat.pos_of_ne_zero hp.k0
  have hdk : k ∣ d := Nat.dvd_trans hp.kdvd (by rw [hp.eg]; exact Nat.gcd_dvd_right _ _)
  have hden : den * k = fb * d := by rw [hp.eden, Nat.mul_assoc, Nat.div_mul_cancel hdk]
  have hbfa : b * fa = fb * d := by rw [← hp.gfb, ← hp.gfa]; ac_rfl
  have hfa : 0 < fa := by
    rcases Nat.eq_zero_or_pos fa with h | h
    · have := hp.gfa; rw [h] at this; omega
    · exact h
  have hsum := hp.sum
  have l1 : a % b * fa / k < den := by
    rw [Nat.div_lt_iff_lt_mul hk, hden, ← hbfa]
    exact Nat.mul_lt_mul_of_pos_right hra hfa
  have l2 : up2 (d - c % d) fb k ≤ den := by
    have h1 : (d - c % d) * fb ≤ den * k := by rw [hden, Nat.mul_comm fb d]; exact Nat.mul_le_mul_right _ (Nat.sub_le _ _)
    unfold up2
    have h2 := Nat.div_add_mod ((d - c % d) * fb) k
    split
    · rename_i h0
      rw [h0, Nat.add_zero] at h2
      exact Nat.le_of_mul_le_mul_left (by rw [Nat.add_zero, h2, Nat.mul_comm k den]; exact h1) hk
    · rename_i h0
      have h3 : (d - c % d) * fb / k < den := by
        rcases Nat.lt_or_ge ((d - c % d) * fb / k) den with h | h
        · exact h
        · have := Nat.mul_le_mul_left k h
          rw [Nat.mul_comm k den] at this
          omega
      omega
  obtain ⟨W, hW⟩ : ∃ W, W = a / b - c / d := ⟨_, rfl⟩
  obtain ⟨S, hS⟩ : ∃ S, S = a % b * fa / k + up2 (d - c % d) fb k := ⟨_, rfl⟩
  have hSN : S = (a % b * fa + (d - c % d) * fb) / k := by rw [hS, hsum]
  have hden0 : 0 < den := by omega
  have P : FracN.Parts (a % b) b (d - c % d) d g fa fb (a % b * fa + (d - c % d) * fb) k den := ⟨hp.eg, by rw [Nat.mul_comm]; exact hp.gfa, by rw [Nat.mul_comm]; exact hp.gfb, rfl, hp.ek, hden⟩
  have one : ¬ den ≤ S → 1 ≤ W := by
    intro h
    rcases Nat.eq_zero_or_pos W with h0 | h0
    · exfalso
      apply h
      have e : a / b = c / d := by omega
      have ea := Nat.div_add_mod a b
      have ec := Nat.div_add_mod c d
      have h1 : c % d * b ≤ a % b * d := by
        have e1 : c * b = c / d * (b * d) + c % d * b := by
          conv => lhs; rw [← ec]
          rw [Nat.add_mul]; ac_rfl
        have e2 : a * d = a / b * (b * d) + a % b * d := by
          conv => lhs; rw [← ea]
          rw [Nat.add_mul]; ac_rfl
        rw [e1, e2, e] at hle
        omega
      have h2 : b * d ≤ a % b * d + (d - c % d) * b := by
        rw [Nat.sub_mul, Nat.mul_comm b d]
        have := Nat.mul_le_mul_right b (Nat.le_of_lt hrc)
        omega
      have h3 := FracN.low_eq (a % b * d + (d - c % d) * b) (b * d)
      rw [← hl] at h3
      simp only at h3
      rw [← hSN] at h3
      have h4 : (b * d) * den ≤ S * (b * d) := by rw [h3]; exact Nat.mul_le_mul_right _ h2
      rw [Nat.mul_comm S] at h4
      exact Nat.le_of_mul_le_mul_left h4 (Nat.mul_pos hb' hd')
    · exact h0
  have hM : subW W S den * den + S % den + den = W * den + (a % b * fa + (d - c % d) * fb) / k := by
    rw [← hSN]
    unfold subW
    by_cases h : den ≤ S
    · rw [if_pos h]
      have : S % den = S - den := by rw [Nat.mod_eq_sub_mod h, Nat.mod_eq_of_lt (by omega)]
      omega
    · rw [if_neg h, Nat.mod_eq_of_lt (by omega)]
      obtain ⟨V, rfl⟩ : ∃ V, W = V + 1 := ⟨W - 1, by have := one h; omega⟩
      rw [Nat.add_sub_cancel, Nat.add_mul]
      omega
  have hlow := FracN.sub_low hb' hd' hab hcd P (by rw [← hW]; exact hM) hfl
  have hle2 := FracN.low_le_self (a * d - c * b) (b * d)
  rw [hlow] at hle2
  rw [hW] at hlow one hle2
  rw [hS] at hlow one hle2
  have m3 : a ≤ a * d := Nat.le_mul_of_pos_right _ hd'
  have m4 : c ≤ a * d := Nat.le_trans (Nat.le_mul_of_pos_right _ hb') hle
  exact ⟨g, fa, fb, k, den, hp, l1, l2, hfl, one, hlow, Nat.le_trans (limbs_mono m3) hs, Nat.le_trans (limbs_mono m4) hs, Nat.le_trans (limbs_mono (Nat.le_trans hle2.1 (Nat.sub_le _ _))) hs⟩
end Go.Proofs.YtdoponlhiidimaaGreatDoor

/- The difference of two fractions by whole parts and complements. Conditions: the slices hold the numbers that are named, in lowest terms, and all products have room. -/
namespace Go.Proofs.YtdoponlhiidimaaGreatDoor
open Go.RowKit LimbN
end Go.Proofs.YtdoponlhiidimaaGreatDoor

/- Sub and Compare of two well-formed fractions. Conditions: the slices hold the numbers that are named, in lowest terms, and the products crosswise have room. -/
namespace Go.Proofs.YtdoponlhiidimaaGreatDoor
open Go.RowKit LimbN
end Go.Proofs.YtdoponlhiidimaaGreatDoor
