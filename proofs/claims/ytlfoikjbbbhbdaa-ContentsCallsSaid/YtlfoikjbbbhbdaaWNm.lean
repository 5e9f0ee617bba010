/- Plain mathematics of bytes: the bytes of a number (seven bits each), what is read of a number, a signed number and a string at any place, and that what was written is read back. No condition. -/

namespace WireN
set_option linter.unusedVariables false
set_option linter.unusedSimpArgs false

/-- The bytes of a number. -/
def uv (n : Nat) : List Nat := if n < 128 then [n] else (n % 128 + 128) :: uv (n / 128)
termination_by n
decreasing_by omega
theorem uv_lt {n : Nat} (h : n < 128) : uv n = [n] := by rw [uv, if_pos h]
theorem uv_ge {n : Nat} (h : 128 ≤ n) : uv n = (n % 128 + 128) :: uv (n / 128) := by rw [uv, if_neg (by omega)]

def Lt (xs : List Nat) : Prop := ∀ i : Nat, xs[i]?.getD 0 < 256
theorem Lt.nil : Lt [] := fun i => by simp
theorem Lt.cons {x : Nat} {xs : List Nat} (h : x < 256) (hx : Lt xs) : Lt (x :: xs) := by
  intro i
  cases i with
  | zero => simpa using h
  | succ i => simpa using hx i
theorem Lt.one {x : Nat} (h : x < 256) : Lt [x] := Lt.cons h Lt.nil
theorem Lt.append {xs ys : List Nat} (hx : Lt xs) (hy : Lt ys) : Lt (xs ++ ys) := by
  intro i
  rw [List.getElem?_append]
  split
  · exact hx i
  · exact hy _
theorem Lt.drop {xs : List Nat} (hx : Lt xs) (k : Nat) : Lt (xs.drop k) := by
  intro i
  rw [List.getElem?_drop]
  exact hx _
theorem Lt.take {xs : List Nat} (hx : Lt xs) (k : Nat) : Lt (xs.take k) := by
  intro i
  rw [List.getElem?_take]
  split
  · exact hx _
  · simp
theorem Lt.mem {xs : List Nat} (hx : Lt xs) {x : Nat} (h : x ∈ xs) : x < 256 := by
  obtain ⟨i, hi, rfl⟩ := List.mem_iff_getElem.1 h
  have := hx i
  rwa [List.getElem?_eq_getElem hi] at this
theorem lt_of_mem {xs : List Nat} (h : ∀ x ∈ xs, x < 256) : Lt xs := by
  intro i
  by_cases hi : i < xs.length
  · rw [List.getElem?_eq_getElem hi]
    exact h _ (List.getElem_mem hi)
  · rw [List.getElem?_eq_none (by omega)]
    decide
theorem Lt.set {xs : List Nat} (hx : Lt xs) (i d : Nat) (h : d < 256) : Lt (xs.set i d) := by
  refine lt_of_mem fun x hm => ?_
  rcases List.mem_or_eq_of_mem_set hm with h1 | h1
  · exact hx.mem h1
  · omega
theorem Lt.replicate (n : Nat) {x : Nat} (h : x < 256) : Lt (List.replicate n x) := lt_of_mem fun y hy => by rw [List.eq_of_mem_replicate hy]; exact h

theorem Lt.uv (n : Nat) : Lt (uv n) := by
  induction n using Nat.strongRecOn with
  | _ n ih =>
    by_cases h : n < 128
    · rw [uv_lt h]; exact Lt.one (by omega)
    · rw [uv_ge (by omega)]; exact Lt.cons (by omega) (ih _ (by omega))
theorem uv_pos (n : Nat) : 0 < (uv n).length := by
  by_cases h : n < 128
  · rw [uv_lt h]; simp
  · rw [uv_ge (by omega)]; simp
theorem uv_len (k : Nat) : ∀ n : Nat, n < 128 ^ (k + 1) → (uv n).length ≤ k + 1 := by
  induction k with
  | zero => intro n h; rw [uv_lt (by simpa using h)]; simp
  | succ k ih =>
    intro n h
    by_cases h1 : n < 128
    · rw [uv_lt h1]; simp
    · rw [uv_ge (by omega)]
      have := ih (n / 128) (by rw [Nat.div_lt_iff_lt_mul (by omega)]; rw [Nat.pow_succ] at h; exact h)
      simp; omega
theorem uv_ten {n : Nat} (h : n < 18446744073709551616) : (uv n).length ≤ 10 := uv_len 9 n (by omega)

/-- How many bytes go on. -/
def on : List Nat → Nat
  | [] => 0
  | b :: l => if 128 ≤ b then on l + 1 else 0
theorem on_le : ∀ l : List Nat, on l ≤ l.length
  | [] => by simp [on]
  | b :: l => by
    have := on_le l
    simp only [on]
    split <;> simp <;> omega
theorem on_ge : ∀ {l : List Nat} {i : Nat}, i < on l → 128 ≤ l[i]?.getD 0
  | [], i, h => by simp [on] at h
  | b :: l, i, h => by
    simp only [on] at h
    split at h
    · cases i with
      | zero => simpa using ‹128 ≤ b›
      | succ i => simpa using on_ge (l := l) (i := i) (by omega)
    · omega
theorem on_at : ∀ {l : List Nat}, on l < l.length → l[on l]?.getD 0 < 128
  | [], h => by simp at h
  | b :: l, h => by
    simp only [on] at h ⊢
    split
    · rename_i hb
      rw [if_pos hb] at h
      simpa using on_at (l := l) (by simpa using h)
    · simp; omega
theorem on_eq : ∀ {l : List Nat} {k : Nat}, k < l.length → (∀ i, i < k → 128 ≤ l[i]?.getD 0) → l[k]?.getD 0 < 128 → on l = k
  | [], k, h, _, _ => by simp at h
  | b :: l, k, h, h1, h2 => by
    cases k with
    | zero => simp at h2; simp [on]; omega
    | succ k =>
      have hb : 128 ≤ b := by simpa using h1 0 (by omega)
      have := on_eq (l := l) (k := k) (by simpa using h) (fun i hi => by simpa using h1 (i + 1) (by omega)) (by simpa using h2)
      simp only [on, if_pos hb, this]
theorem on_all : ∀ {l : List Nat}, (∀ i, i < l.length → 128 ≤ l[i]?.getD 0) → on l = l.length
  | [], _ => rfl
  | b :: l, h => by
    have hb : 128 ≤ b := by simpa using h 0 (by simp)
    have := on_all (l := l) (fun i hi => by simpa using h (i + 1) (by simpa using hi))
    simp only [on, if_pos hb, this, List.length_cons]
theorem on_append {l m : List Nat} (h : on l < l.length) : on (l ++ m) = on l := by
  refine on_eq (by rw [List.length_append]; omega) (fun i hi => ?_) ?_
  · rw [List.getElem?_append_left (by omega)]; exact on_ge hi
  · rw [List.getElem?_append_left (by omega)]; exact on_at h

/-- The number that bytes have. -/
def jn : List Nat → Nat
  | [] => 0
  | b :: l => b % 128 + 128 * jn l
theorem jn_append : ∀ (l m : List Nat), jn (l ++ m) = jn l + 128 ^ l.length * jn m
  | [], m => by simp [jn]
  | b :: l, m => by
    simp only [List.cons_append, jn, jn_append l m, List.length_cons]
    rw [Nat.pow_succ, Nat.mul_add, Nat.mul_right_comm, Nat.mul_comm 128 (128 ^ l.length * _), Nat.mul_right_comm]
    omega
theorem jn_lt : ∀ l : List Nat, jn l < 128 ^ l.length
  | [] => by simp [jn]
  | b :: l => by
    have := jn_lt l
    simp only [jn, List.length_cons, Nat.pow_succ]
    omega
theorem jn_snoc (l : List Nat) (b : Nat) : jn (l ++ [b]) = jn l + 128 ^ l.length * (b % 128) := by rw [jn_append]; simp [jn]
theorem jn_split (l : List Nat) (k : Nat) : jn l = jn (l.take k) + 128 ^ (l.take k).length * jn (l.drop k) := by
  rw [← jn_append, List.take_append_drop]
theorem jn_drop_le (l : List Nat) (k : Nat) : jn (l.drop k) ≤ jn l := by
  rw [jn_split l k]
  have : 0 < 128 ^ (l.take k).length := Nat.pow_pos (by omega)
  have := Nat.le_mul_of_pos_left (jn (l.drop k)) this
  omega
theorem jn_uv (n : Nat) : jn (uv n) = n := by
  induction n using Nat.strongRecOn with
  | _ n ih =>
    by_cases h : n < 128
    · rw [uv_lt h]; simp [jn]; omega
    · rw [uv_ge (by omega)]
      simp only [jn, ih (n / 128) (by omega)]
      omega

/-- k bytes go on and z ends: is this a number below 2^64 without a byte too many? -/
def short (k z : Nat) : Bool := if k = 9 then z == 1 else k == 0 || (decide (k < 9) && !(z == 0))

/-- What is read of a number at a place: the number, the next place, the error. -/
def rd (l : List Nat) (i : Int) : Nat × Nat × Nat :=
  if i < 0 ∨ (l.length : Int) < i then (0, 0, 3)
  else if on (l.drop i.toNat) = (l.drop i.toNat).length then (0, 0, 7)
  else if short (on (l.drop i.toNat)) ((l.drop i.toNat)[on (l.drop i.toNat)]?.getD 0) = true then (jn ((l.drop i.toNat).take (on (l.drop i.toNat) + 1)), i.toNat + on (l.drop i.toNat) + 1, 0)
  else (0, 0, 6)

theorem rd_range {l : List Nat} {i : Int} (h : i < 0 ∨ (l.length : Int) < i) : rd l i = (0, 0, 3) := by rw [rd, if_pos h]
theorem rd_end {l : List Nat} {i : Nat} (h : i ≤ l.length) (h1 : on (l.drop i) = (l.drop i).length) : rd l i = (0, 0, 7) := by
  rw [rd, if_neg (by omega), if_pos (by simpa using h1)]
theorem rd_text {l : List Nat} {i k : Nat} (h : i ≤ l.length) (hk : on (l.drop i) = k) (h1 : k < (l.drop i).length) (h2 : short k ((l.drop i)[k]?.getD 0) = false) : rd l i = (0, 0, 6) := by
  subst hk
  rw [rd, if_neg (by omega), if_neg (by rw [Int.toNat_natCast]; omega), if_neg (by rw [Int.toNat_natCast, h2]; simp)]
theorem rd_ok {l : List Nat} {i k : Nat} (h : i ≤ l.length) (hk : on (l.drop i) = k) (h1 : k < (l.drop i).length) (h2 : short k ((l.drop i)[k]?.getD 0) = true) : rd l i = (jn ((l.drop i).take (k + 1)), i + k + 1, 0) := by
  subst hk
  rw [rd, if_neg (by omega), if_neg (by rw [Int.toNat_natCast]; omega), if_pos (by rw [Int.toNat_natCast, h2]), Int.toNat_natCast]

theorem short_len {k z : Nat} (h : short k z = true) : k ≤ 9 := by
  unfold short at h
  split at h
  · omega
  · simp at h; omega
theorem short_one {z : Nat} (h : short 9 z = true) : z = 1 := by simpa [short] using h
theorem take_snoc {l : List Nat} {k : Nat} (h : k < l.length) : l.take (k + 1) = l.take k ++ [l[k]?.getD 0] := by
  rw [List.take_succ_eq_append_getElem h, List.getElem?_eq_getElem h]; rfl
theorem short_lt {l : List Nat} {k : Nat} (h1 : k < l.length) (h : short k (l[k]?.getD 0) = true) : jn (l.take (k + 1)) < 18446744073709551616 := by
  have hk := short_len h
  have hl : (l.take k).length = k := by rw [List.length_take]; omega
  rw [take_snoc h1, jn_snoc, hl]
  have h2 := jn_lt (l.take k)
  rw [hl] at h2
  by_cases h9 : k = 9
  · subst h9
    rw [short_one h]
    omega
  · have h3 : 128 ^ (k + 1) ≤ 128 ^ 9 := Nat.pow_le_pow_right (by omega) (by omega)
    have h4 : jn (l.take k) + 128 ^ k * (l[k]?.getD 0 % 128) < 128 ^ k * 128 := by
      have h5 : 128 ^ k * (l[k]?.getD 0 % 128) ≤ 128 ^ k * 127 := Nat.mul_le_mul_left _ (by omega)
      omega
    rw [← Nat.pow_succ] at h4
    have h6 : (128 : Nat) ^ 9 < 18446744073709551616 := by decide
    omega
theorem rd_lt (l : List Nat) (i : Int) : (rd l i).1 < 18446744073709551616 := by
  unfold rd
  split
  · decide
  · split
    · decide
    · split
      · have := on_le (l.drop i.toNat)
        exact short_lt (by omega) ‹_›
      · decide
theorem rd_next (l : List Nat) (i : Int) : (rd l i).2.1 ≤ l.length := by
  unfold rd
  split
  · simp
  · split
    · simp
    · split
      · have := on_le (l.drop i.toNat)
        rw [List.length_drop] at *
        show i.toNat + on (l.drop i.toNat) + 1 ≤ _
        omega
      · simp
theorem rd_err (l : List Nat) (i : Int) : (rd l i).2.2 ≤ 7 := by
  unfold rd
  split
  · decide
  · split
    · decide
    · split
      · exact Nat.zero_le _
      · decide

theorem on_uv (n : Nat) : on (uv n) + 1 = (uv n).length := by
  induction n using Nat.strongRecOn with
  | _ n ih =>
    by_cases h : n < 128
    · rw [uv_lt h]; simp [on]; omega
    · rw [uv_ge (by omega)]
      have := ih (n / 128) (by omega)
      simp only [on, List.length_cons]
      rw [if_pos (by omega)]
      omega
theorem uv_last (n : Nat) : (uv n)[(uv n).length - 1]?.getD 0 = n / 128 ^ ((uv n).length - 1) ∧ (1 < (uv n).length → n / 128 ^ ((uv n).length - 1) ≠ 0) := by
  induction n using Nat.strongRecOn with
  | _ n ih =>
    by_cases h : n < 128
    · rw [uv_lt h]; simp
    · rw [uv_ge (by omega)]
      have h1 := ih (n / 128) (by omega)
      have hp := uv_pos (n / 128)
      obtain ⟨k, hk⟩ : ∃ k, (uv (n / 128)).length = k + 1 := ⟨(uv (n / 128)).length - 1, by omega⟩
      rw [hk] at h1
      simp only [List.length_cons, hk, Nat.add_sub_cancel, List.getElem?_cons_succ] at h1 ⊢
      rw [Nat.pow_succ, Nat.mul_comm (128 ^ k) 128, ← Nat.div_div_eq_div_mul]
      refine ⟨h1.1, fun _ => ?_⟩
      by_cases hk0 : k = 0
      · subst hk0; simp; omega
      · exact h1.2 (by omega)
theorem short_uv {n : Nat} (h : n < 18446744073709551616) : short (on (uv n)) ((uv n)[on (uv n)]?.getD 0) = true := by
  have h1 := on_uv n
  have h2 := uv_last n
  have h3 := uv_ten h
  rw [show (uv n).length - 1 = on (uv n) by omega] at h2
  rw [h2.1]
  unfold short
  split
  · rename_i h9
    rw [h9] at h2 ⊢
    have := h2.2 (by omega)
    simp only [beq_iff_eq]
    omega
  · by_cases h0 : on (uv n) = 0
    · simp [h0]
    · have := h2.2 (by omega)
      simp only [Bool.or_eq_true, Bool.and_eq_true, decide_eq_true_eq, Bool.not_eq_true', beq_eq_false_iff_ne, ne_eq]
      exact .inr ⟨by omega, this⟩
/-- A number that was written is read back. -/
theorem rd_back (p q : List Nat) {n : Nat} (h : n < 18446744073709551616) : rd (p ++ (uv n ++ q)) (p.length : Nat) = (n, p.length + (uv n).length, 0) := by
  have hd : (p ++ (uv n ++ q)).drop p.length = uv n ++ q := by simp
  have h1 := on_uv n
  have ho : on (uv n ++ q) = on (uv n) := on_append (by omega)
  rw [rd_ok (k := on (uv n)) (by simp) (by rw [hd, ho]) (by rw [hd, List.length_append]; omega) (by rw [hd, List.getElem?_append_left (by omega)]; exact short_uv h), hd, h1]
  rw [List.take_append_of_le_length (Nat.le_refl _), List.take_of_length_le (Nat.le_refl _), jn_uv]
  rw [show p.length + on (uv n) + 1 = p.length + (uv n).length by omega]

/-- A signed number as a number, and back. -/
def fo (k : Int) : Nat := if k < 0 then (2 * (-(k + 1)) + 1).toNat else (2 * k).toNat
def unfo (m : Nat) : Int := if m % 2 = 1 then -((m / 2 : Nat) : Int) - 1 else ((m / 2 : Nat) : Int)
theorem unfo_fo (k : Int) : unfo (fo k) = k := by
  unfold fo unfo
  by_cases h : k < 0
  · rw [if_pos h, if_pos (by omega)]; omega
  · rw [if_neg h, if_neg (by omega)]; omega
theorem fo_lt {k : Int} (h : -9223372036854775808 ≤ k ∧ k ≤ 9223372036854775807) : fo k < 18446744073709551616 := by
  unfold fo
  split <;> omega
theorem unfo_bd {m : Nat} (h : m < 18446744073709551616) : -9223372036854775808 ≤ unfo m ∧ unfo m ≤ 9223372036854775807 := by
  unfold unfo
  split <;> omega
theorem unfo_zero : unfo 0 = 0 := rfl

/-- What is read of a string of at most so many bytes: the bytes, the next place, the error. -/
def rdT (l : List Nat) (i most : Int) : List Nat × Nat × Nat :=
  if (rd l i).2.2 ≠ 0 then ([], 0, (rd l i).2.2)
  else if most < 0 ∨ most < ((rd l i).1 : Int) then ([], 0, 2)
  else if l.length - (rd l i).2.1 < (rd l i).1 then ([], 0, 7)
  else ((l.drop (rd l i).2.1).take (rd l i).1, (rd l i).2.1 + (rd l i).1, 0)
theorem rdT_back (p s q : List Nat) {most : Int} (h : (s.length : Int) ≤ most) (hs : s.length < 18446744073709551616) :
    rdT (p ++ (uv s.length ++ (s ++ q))) (p.length : Nat) most = (s, p.length + (uv s.length).length + s.length, 0) := by
  have h1 := rd_back p (s ++ q) hs
  unfold rdT
  rw [h1]
  simp only [ne_eq, not_true_eq_false, if_false]
  rw [if_neg (by omega), if_neg (by simp only [List.length_append]; omega)]
  have hd : (p ++ (uv s.length ++ (s ++ q))).drop (p.length + (uv s.length).length) = s ++ q := by
    rw [← List.drop_drop]; simp
  rw [hd]
  simp
end WireN
