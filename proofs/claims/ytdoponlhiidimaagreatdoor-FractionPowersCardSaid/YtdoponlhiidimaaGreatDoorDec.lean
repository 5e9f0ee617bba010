/- Plain mathematics of decimal digits: a number's numeral out of parts of nine digits. No condition. -/
import Derived.Lib.ItoaNum
import Derived.Test.YtdoponlhiidimaaGreatDoorShelf
namespace LimbN
open Go.Lib

/-- The last n decimal digits of u. -/
def D (u : Nat) : Nat → List UInt8
  | 0 => []
  | n + 1 => dg u n :: D u n
theorem D_length (u n : Nat) : (D u n).length = n := by induction n with
  | zero => rfl
  | succ n ih => simp [D, ih]
theorem D_eq (u n : Nat) : D u n = (List.range n).map fun t => dg u (n - 1 - t) := by
  induction n with
  | zero => rfl
  | succ n ih =>
    rw [D, ih, List.range_succ_eq_map, List.map_cons, List.map_map]
    congr 1
    apply List.map_congr_left
    intro t ht
    simp only [Function.comp]
    congr 1
    omega
theorem dec_eq_D (u : Nat) : decDigits u = D u (nDigits u) := by rw [D_eq, decDigits_eq]
theorem dg_div (u b j : Nat) : dg (u / 10 ^ b) j = dg u (b + j) := by
  unfold dg
  rw [Nat.div_div_eq_div_mul, ← Nat.pow_add]
theorem D_append (u a b : Nat) : D u (a + b) = D (u / 10 ^ b) a ++ D u b := by
  induction a with
  | zero => simp [D]
  | succ a ih => rw [show a + 1 + b = (a + b) + 1 by omega, D, D, ih, dg_div, Nat.add_comm b a, List.cons_append]
theorem dg_mod (u n j : Nat) (h : j < n) : dg (u % 10 ^ n) j = dg u j := by
  unfold dg
  obtain ⟨d, rfl⟩ : ∃ d, n = j + 1 + d := ⟨n - (j + 1), by omega⟩
  rw [Nat.pow_add, Nat.pow_succ, Nat.mul_assoc, Nat.mod_mul_right_div_self, Nat.mod_mul_right_mod]
theorem D_mod (u n : Nat) : D (u % 10 ^ n) n = D u n := by
  rw [D_eq, D_eq]
  apply List.map_congr_left
  intro t ht
  rw [List.mem_range] at ht
  exact dg_mod u n _ (by omega)
theorem dg_zero (u j : Nat) (h : u < 10 ^ j) : dg u j = 48 := by
  unfold dg
  rw [Nat.div_eq_of_lt h]; rfl
theorem nD_le (u k : Nat) (h : u < 10 ^ (k + 1)) : nDigits u ≤ k + 1 := by
  rcases Nat.lt_or_ge (k + 1) (nDigits u) with h1 | h1
  · exfalso
    have h2 : 10 ^ (nDigits u - 1) ≤ u := by
      rcases Nat.lt_or_ge u (10 ^ (nDigits u - 1)) with h3 | h3
      · exfalso
        obtain ⟨j, hj⟩ : ∃ j, nDigits u - 1 = j + 1 := ⟨nDigits u - 2, by omega⟩
        rw [hj] at h3
        have := nD_le' u j h3
        omega
      · exact h3
    have h3 : 10 ^ (k + 1) ≤ 10 ^ (nDigits u - 1) := Nat.pow_le_pow_right (by omega) (by omega)
    omega
  · exact h1
where
  nD_le' : ∀ (u j : Nat), u < 10 ^ (j + 1) → nDigits u ≤ j + 1 := by
    intro u j
    induction j generalizing u with
    | zero => intro h; rw [nDigits_small (by omega)]; omega
    | succ j ih =>
      intro h
      by_cases h1 : u < 10
      · rw [nDigits_small h1]; omega
      · rw [nDigits_big h1]
        have := ih (u / 10) (by rw [Nat.div_lt_iff_lt_mul (by omega)]; rw [Nat.pow_succ] at h; exact h)
        omega

theorem D_zero (a : Nat) : D 0 a = List.replicate a 48 := by
  induction a with
  | zero => rfl
  | succ a ih => rw [D, ih, dg_zero 0 a (Nat.pow_pos (by omega)), List.replicate_succ]
theorem repeatL_one (a : Nat) : repeatL [48] a = List.replicate a 48 := by
  induction a with
  | zero => rfl
  | succ a ih => rw [repeatL, ih, List.replicate_succ]; rfl
theorem D_pad (u n : Nat) (h : nDigits u ≤ n) : D u n = List.replicate (n - nDigits u) 48 ++ decDigits u := by
  have e : D u ((n - nDigits u) + nDigits u) = _ := D_append u (n - nDigits u) (nDigits u)
  rw [show n - nDigits u + nDigits u = n by omega, Nat.div_eq_of_lt (lt_pow_nDigits u), D_zero, ← dec_eq_D] at e
  exact e
theorem nD_low : ∀ (u : Nat), 1 ≤ u → 10 ^ (nDigits u - 1) ≤ u := by
  intro u
  induction u using Nat.strongRecOn with
  | _ u ih =>
    intro h
    by_cases h1 : u < 10
    · rw [nDigits_small h1]; simpa using h
    · rw [nDigits_big h1]
      have h2 := ih (u / 10) (by omega) (by omega)
      have h3 := nDigits_pos (u / 10)
      rw [show nDigits (u / 10) + 1 - 1 = (nDigits (u / 10) - 1) + 1 by omega, Nat.pow_succ]
      omega
theorem dec_head (u : Nat) (h : 1 ≤ u) : ∃ c r, decDigits u = c :: r ∧ c ≠ 48 := by
  have h1 := nDigits_pos u
  obtain ⟨k, hk⟩ : ∃ k, nDigits u = k + 1 := ⟨nDigits u - 1, by omega⟩
  refine ⟨dg u k, D u k, by rw [dec_eq_D, hk, D], ?_⟩
  have h2 := nD_low u h
  have h3 := lt_pow_nDigits u
  rw [hk] at h2 h3
  simp only [Nat.add_sub_cancel] at h2
  have h4 : 1 ≤ u / 10 ^ k := (Nat.le_div_iff_mul_le (Nat.pow_pos (by omega))).2 (by omega)
  have h5 : u / 10 ^ k < 10 := by rw [Nat.div_lt_iff_lt_mul (Nat.pow_pos (by omega))]; rw [Nat.pow_succ] at h3; omega
  unfold dg
  intro e
  have e2 := congrArg UInt8.toNat e
  rw [Nat.mod_eq_of_lt h5] at e2
  simp at e2
  omega
theorem drop_rep (a : Nat) (l : List UInt8) : (List.replicate a (48 : UInt8) ++ l).dropWhile (· == 48) = l.dropWhile (· == 48) := by
  induction a with
  | zero => simp
  | succ a ih => rw [List.replicate_succ, List.cons_append, List.dropWhile_cons_of_pos (by simp), ih]
theorem trim_D (u n : Nat) (h : 1 ≤ u) (hn : u < 10 ^ n) : (D u n).dropWhile (· == 48) = decDigits u := by
  have hnd : nDigits u ≤ n := by
    cases n with
    | zero => simp at hn; omega
    | succ n => exact nD_le u n hn
  rw [D_pad u n hnd, drop_rep]
  obtain ⟨c, r, e, hc⟩ := dec_head u h
  rw [e, List.dropWhile_cons_of_neg (by simpa using hc)]
/-- The part of nine digits in place t. -/
def nine (V t : Nat) : Nat := V / 1000000000 ^ t % 1000000000
theorem part_digits (V t : Nat) : D (nine V t) 9 = D (V / 10 ^ (9 * t)) 9 := by
  unfold nine
  rw [show (1000000000 : Nat) = 10 ^ 9 by rfl, ← Nat.pow_mul, D_mod]
theorem parts_flat (V K : Nat) : (((List.range K).map fun t => D (nine V t) 9).reverse).flatten = D V (9 * K) := by
  induction K with
  | zero => rfl
  | succ K ih =>
    rw [List.range_succ, List.map_append, List.map_cons, List.map_nil, List.reverse_append, List.reverse_singleton, List.singleton_append, List.flatten_cons, ih, part_digits, show 9 * (K + 1) = 9 + 9 * K by omega, D_append]
theorem part_lt (V t : Nat) : nine V t < 1000000000 := Nat.mod_lt _ (by omega)
theorem part_nd (V t : Nat) : nDigits (nine V t) ≤ 9 := nD_le _ 8 (part_lt V t)
theorem many_parts {V k : Nat} (hV : V < 4294967296 ^ 128) (h : 1000000000 ^ k ≤ V) : k < 142 := by
  rcases Nat.lt_or_ge k 142 with h1 | h1
  · exact h1
  · exfalso
    have h2 : 536870912 ^ 142 ≤ 1000000000 ^ k := Nat.le_trans (Nat.pow_le_pow_right (by omega) h1) (Nat.pow_le_pow_left (by omega) k)
    have h3 : (4294967296 : Nat) ^ 128 ≤ 536870912 ^ 142 := by decide +kernel
    omega
end LimbN
