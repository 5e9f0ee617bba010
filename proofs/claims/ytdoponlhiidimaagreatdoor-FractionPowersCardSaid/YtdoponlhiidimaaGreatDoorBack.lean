/- The law on digits read back: it returns true for every list of digits. Condition: the library's table of powers of ten holds what its text lays. -/
import Derived.Test.YtdoponlhiidimaaGreatDoorMNp
import Derived.Test.YtdoponlhiidimaaGreatDoorReads
namespace Go.Proofs.YtdoponlhiidimaaGreatDoor
open Go.RowKit LimbN

/-- The text of a number. -/
def decS (V : Nat) : ByteArray := ⟨(Lib.decDigits V).toArray⟩
theorem decS_size (V : Nat) : (decS V).size = Lib.nDigits V := by
  show (Lib.decDigits V).toArray.size = _
  simp [Lib.decDigits_length]
theorem sb_dec (V i : Nat) (h : i < Lib.nDigits V) : sb (decS V) i = 48 + V / 10 ^ (Lib.nDigits V - 1 - i) % 10 := by
  unfold sb decS
  have e : ((Lib.decDigits V).toArray)[i]? = some (Lib.dg V (Lib.nDigits V - 1 - i)) := by
    rw [Lib.decDigits_eq]
    simp [h]
  simp only [e, Option.getD_some]
  unfold Lib.dg
  rw [UInt8.toNat_ofNat']
  omega
theorem pv_dec (V : Nat) : ∀ k, k ≤ Lib.nDigits V → pv (decS V) k = V / 10 ^ (Lib.nDigits V - k)
  | 0, _ => by
    rw [Nat.sub_zero, Nat.div_eq_of_lt (Lib.lt_pow_nDigits V)]; rfl
  | k + 1, h => by
    have ih := pv_dec V k (by omega)
    show 10 * pv (decS V) k + (sb (decS V) k - 48) = _
    rw [ih, sb_dec V k (by omega), show Lib.nDigits V - k = (Lib.nDigits V - 1 - k) + 1 by omega, show Lib.nDigits V - (k + 1) = Lib.nDigits V - 1 - k by omega, Nat.pow_succ, ← Nat.div_div_eq_div_mul]
    omega
theorem pv_decS (V : Nat) : pv (decS V) (decS V).size = V := by
  rw [decS_size, pv_dec V _ (Nat.le_refl _)]; simp
theorem nDigits_le : ∀ (k V : Nat), 1 ≤ k → V < 10 ^ k → Lib.nDigits V ≤ k
  | 0, _, h, _ => by omega
  | k + 1, V, _, h => by
    by_cases h1 : V < 10
    · rw [Lib.nDigits_small h1]; omega
    · rw [Lib.nDigits_big h1]
      have hk : 1 ≤ k := by
        rcases Nat.eq_zero_or_pos k with rfl | hk
        · simp at h; omega
        · exact hk
      have := nDigits_le k (V / 10) hk (by rw [Nat.pow_succ] at h; omega)
      omega
theorem nDigits_ge : ∀ V : Nat, 10 ≤ V → 10 ^ (Lib.nDigits V - 1) ≤ V := by
  intro V
  induction V using Nat.strongRecOn with
  | _ V ih =>
    intro h
    rw [Lib.nDigits_big (by omega)]
    by_cases h1 : V / 10 < 10
    · rw [Lib.nDigits_small h1]; simpa using h
    · have := ih (V / 10) (by omega) (by omega)
      have hp := Lib.nDigits_pos (V / 10)
      obtain ⟨n, hn⟩ : ∃ n, Lib.nDigits (V / 10) = n + 1 := ⟨Lib.nDigits (V / 10) - 1, by omega⟩
      rw [hn] at this ⊢
      simp only [Nat.add_sub_cancel] at this ⊢
      rw [Nat.pow_succ]; omega
theorem num_dec (V : Nat) : Num (decS V) := by
  have hp := Lib.nDigits_pos V
  refine ⟨by rw [decS_size]; omega, fun h => ?_, fun i hi => ?_⟩
  · rw [decS_size] at h
    rw [sb_dec V 0 (by omega), Nat.sub_zero] at h
    have hV : 10 ≤ V := by
      rcases Nat.lt_or_ge V 10 with h1 | h1
      · rw [Lib.nDigits_small h1] at h; omega
      · exact h1
    have h1 := nDigits_ge V hV
    have h2 := Lib.lt_pow_nDigits V
    obtain ⟨n, hn⟩ : ∃ n, Lib.nDigits V = n + 1 := ⟨Lib.nDigits V - 1, by omega⟩
    rw [hn] at h h1 h2
    simp only [Nat.add_sub_cancel] at h h1
    have hq : 1 ≤ V / 10 ^ n := (Nat.le_div_iff_mul_le (Nat.pow_pos (by omega))).2 (by omega)
    have hq2 : V / 10 ^ n < 10 := (Nat.div_lt_iff_lt_mul (Nat.pow_pos (by omega))).2 (by rw [Nat.pow_succ] at h2; omega)
    omega
  · rw [decS_size] at hi
    rw [sb_dec V i hi]
    omega
theorem bitLen_mono {a b : Nat} (h : a ≤ b) (hb : b < 2 ^ 64) : Lib.bitLen a ≤ Lib.bitLen b := by
  by_cases h0 : b = 0
  · have : a = 0 := by omega
    rw [h0, this]; exact Nat.le_refl _
  · have h1 := Lib.bitLenAux_bounds 64 b hb h0
    have h2 : Lib.bitLenAux 64 b ≤ 64 := Lib.bitLen_le b 64 (Nat.le_refl _) hb
    exact Lib.bitLen_le a (Lib.bitLen b) h2 (Nat.lt_of_le_of_lt h h1.2.2)
theorem val_top {xs : List Nat} {k : Nat} (h : xs.length = k + 1) : val xs = val (xs.take k) + 4294967296 ^ k * xs[k]?.getD 0 := by
  rw [← val_take_succ, List.take_of_length_le (by omega)]
theorem bits_mono {m n : Nat} (h : m ≤ n) : bitsL (limbs m) ≤ bitsL (limbs n) := by
  have hl := limbs_mono h
  unfold bitsL
  by_cases h0 : (limbs m).length = 0
  · rw [if_pos h0]; omega
  · rw [if_neg h0, if_neg (by omega)]
    have ht := bitLen_top (Lt.limbs m) ((limbs m).length - 1)
    by_cases he : (limbs m).length = (limbs n).length
    · obtain ⟨k, hk⟩ : ∃ k, (limbs m).length = k + 1 := ⟨(limbs m).length - 1, by omega⟩
      have e1 := val_top hk
      have e2 := val_top (he ▸ hk : (limbs n).length = k + 1)
      rw [val_limbs] at e1 e2
      have hlt := val_lt ((Lt.limbs n).take k)
      rw [List.length_take, Nat.min_eq_left (by omega)] at hlt
      have hle : (limbs m)[k]?.getD 0 ≤ (limbs n)[k]?.getD 0 := by
        refine Nat.le_of_not_lt fun hgt => ?_
        have h1 : 4294967296 ^ k * ((limbs n)[k]?.getD 0 + 1) ≤ 4294967296 ^ k * (limbs m)[k]?.getD 0 := Nat.mul_le_mul_left _ hgt
        rw [Nat.mul_add] at h1
        omega
      have hb := bitLen_mono hle (by have := Lt.limbs n k; omega)
      rw [← he, hk]
      simp only [Nat.add_sub_cancel]
      omega
    · have hne : n ≠ 0 := by
        intro h; have := limbs_len_zero.2 h; omega
      have hp : 1 ≤ Lib.bitLen ((limbs n)[(limbs n).length - 1]?.getD 0) := by
        have h1 := Lib.bitLenAux_bounds 64 _ (by have := Lt.limbs n ((limbs n).length - 1); omega) (limbs_last hne)
        exact h1.1
      omega
theorem small20 {xs : List Nat} (h : Lt xs) : val (xs.take 20) < 4294967296 ^ 20 := by
  have h1 := val_lt (h.take 20)
  exact pow_max (by simp; omega) h1
theorem twenty : (4294967296 : Nat) ^ 20 ≤ 10 ^ 193 := by decide +kernel
theorem Format_any {xs : List Nat} {va : Value} {w : World} (ha : Sl w va xs) (hx : wf xs = true) (htab : Tab w) :
    Calls Tryz.prog 56 #[va] w fun e w' => e = .returned (.tuple #[.string (decS (val xs)), .int .i64 0]) ∧ Kp w w' := by
  by_cases h0 : xs = []
  · subst h0
    exact (Format_zero ha).mono fun e w' h => ⟨h.1, Kp.of_eq h.2⟩
  · exact Format_pos ha hx h0 htab

end Go.Proofs.YtdoponlhiidimaaGreatDoor
