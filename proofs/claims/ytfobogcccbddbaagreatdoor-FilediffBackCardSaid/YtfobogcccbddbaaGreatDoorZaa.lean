/- Plain mathematics of bytes: the bytes of a number (seven bits each), what is read of a number, a signed number and a string at any place, and that what was written is read back. No condition. -/
import Derived.Test.YtfobogcccbddbaaGreatDoorRows
import Derived.WalkKit
import Derived.WalkSpells
import Derived.WalkLawsBesides
import Derived.Lib.Hide
import Derived.Deep.QuietTactic
import Derived.BigQuiet
import Derived.Laws.AppendOwnNone
import Derived.Laws.CopyOwn
import Derived.Laws.BitsAllLaws
import Derived.Laws.BitsLemmas
import Derived.IntWalk
namespace WireN
set_option linter.unusedVariables false
set_option linter.unusedSimpArgs false

/-- The bytes of a number. -/
def uv (n : Nat) : List Nat := if n < 128 then [n] else (n % 128 + 128) :: uv (n / 128)
termination_by n
decreasing_by omega
theorem uv_lt {n : Nat} (h : n < 128) : uv n = [n] := by rw [uv, if_pos h]
theorem uv_ge {n : Nat} (h : 128 ≤ n) : uv n = (n % 128 + 128) :: uv (n / 128) := by rw [uv, if_neg (by omega)]

def Lt (xs : List Nat) : Prop := ∀ i : Nat, xs[i]?.getD 0 < 256
theorem Lt.nil : Lt [] := fun i => by simp
theorem Lt.cons {x : Nat} {xs : List Nat} (h : x < 256) (hx : Lt xs) : Lt (x :: xs) := by
  intro i
  cases i with
  | zero => simpa using h
  | succ i => simpa using hx i
theorem Lt.one {x : Nat} (h : x < 256) : Lt [x] := Lt.cons h Lt.nil
theorem Lt.append {xs ys : List Nat} (hx : Lt xs) (hy : Lt ys) : Lt (xs ++ ys) := by
  intro i
  rw [List.getElem?_append]
  split
  · exact hx i
  · exact hy _
theorem Lt.drop {xs : List Nat} (hx : Lt xs) (k : Nat) : Lt (xs.drop k) := by
  intro i
  rw [List.getElem?_drop]
  exact hx _
theorem Lt.take {xs : List Nat} (hx : Lt xs) (k : Nat) : Lt (xs.take k) := by
  intro i
  rw [List.getElem?_take]
  split
  · exact hx _
  · simp
theorem Lt.mem {xs : List Nat} (hx : Lt xs) {x : Nat} (h : x ∈ xs) : x < 256 := by
  obtain ⟨i, hi, rfl⟩ := List.mem_iff_getElem.1 h
  have := hx i
  rwa [List.getElem?_eq_getElem hi] at this
theorem lt_of_mem {xs : List Nat} (h : ∀ x ∈ xs, x < 256) : Lt xs := by
  intro i
  by_cases hi : i < xs.length
  · rw [List.getElem?_eq_getElem hi]
    exact h _ (List.getElem_mem hi)
  · rw [List.getElem?_eq_none (by omega)]
    decide
theorem Lt.set {xs : List Nat} (hx : Lt xs) (i d : Nat) (h : d < 256) : Lt (xs.set i d) := by
  refine lt_of_mem fun x hm => ?_
  rcases List.mem_or_eq_of_mem_set hm with h1 | h1
  · exact hx.mem h1
  · omega
theorem Lt.replicate (n : Nat) {x : Nat} (h : x < 256) : Lt (List.replicate n x) := lt_of_mem fun y hy => by rw [List.eq_of_mem_replicate hy]; exact h

theorem Lt.uv (n : Nat) : Lt (uv n) := by
  induction n using Nat.strongRecOn with
  | _ n ih =>
    by_cases h : n < 128
    · rw [uv_lt h]; exact Lt.one (by omega)
    · rw [uv_ge (by omega)]; exact Lt.cons (by omega) (ih _ (by omega))
theorem uv_pos (n : Nat) : 0 < (uv n).length := by
  by_cases h : n < 128
  · rw [uv_lt h]; simp
  · rw [uv_ge (by omega)]; simp
theorem uv_len (k : Nat) : ∀ n : Nat, n < 128 ^ (k + 1) → (uv n).length ≤ k + 1 := by
  induction k with
  | zero => intro n h; rw [uv_lt (by simpa using h)]; simp
  | succ k ih =>
    intro n h
    by_cases h1 : n < 128
    · rw [uv_lt h1]; simp
    · rw [uv_ge (by omega)]
      have := ih (n / 128) (by rw [Nat.div_lt_iff_lt_mul (by omega)]; rw [Nat.pow_succ] at h; exact h)
      simp; omega
theorem uv_ten {n : Nat} (h : n < 18446744073709551616) : (uv n).length ≤ 10 := uv_len 9 n (by omega)

/-- How many bytes go on. -/
def on : List Nat → Nat
  | [] => 0
  | b :: l => if 128 ≤ b then on l + 1 else 0
theorem on_le : ∀ l : List Nat, on l ≤ l.length
  | [] => by simp [on]
  | b :: l => by
    have := on_le l
    simp only [on]
    split <;> simp <;> omega
theorem on_ge : ∀ {l : List Nat} {i : Nat}, i < on l → 128 ≤ l[i]?.getD 0
  | [], i, h => by simp [on] at h
  | b :: l, i, h => by
    simp only [on] at h
    split at h
    · cases i with
      | zero => simpa using ‹128 ≤ b›
      | succ i => simpa using on_ge (l := l) (i := i) (by omega)
    · omega
theorem on_at : ∀ {l : List Nat}, on l < l.length → l[on l]?.getD 0 < 128
  | [], h => by simp at h
  | b :: l, h => by
    simp only [on] at h ⊢
    split
    · rename_i hb
      rw [if_pos hb] at h
      simpa using on_at (l := l) (by simpa using h)
    · simp; omega
theorem on_eq : ∀ {l : List Nat} {k : Nat}, k < l.length → (∀ i, i < k → 128 ≤ l[i]?.getD 0) → l[k]?.getD 0 < 128 → on l = k
  | [], k, h, _, _ => by simp at h
  | b :: l, k, h, h1, h2 => by
    cases k with
    | zero => simp at h2; simp [on]; omega
    | succ k =>
      have hb : 128 ≤ b := by simpa using h1 0 (by omega)
      have := on_eq (l := l) (k := k) (by simpa using h) (fun i hi => by simpa using h1 (i + 1) (by omega)) (by simpa using h2)
      simp only [on, if_pos hb, this]
theorem on_all : ∀ {l : List Nat}, (∀ i, i < l.length → 128 ≤ l[i]?.getD 0) → on l = l.length
  | [], _ => rfl
  | b :: l, h => by
    have hb : 128 ≤ b := by simpa using h 0 (by simp)
    have := on_all (l := l) (fun i hi => by simpa using h (i + 1) (by simpa using hi))
    simp only [on, if_pos hb, this, List.length_cons]
theorem on_append {l m : List Nat} (h : on l < l.length) : on (l ++ m) = on l := by
  refine on_eq (by rw [List.length_append]; omega) (fun i hi => ?_) ?_
  · rw [List.getElem?_append_left (by omega)]; exact on_ge hi
  · rw [List.getElem?_append_left (by omega)]; exact on_at h

/-- The number that bytes have. -/
def jn : List Nat → Nat
  | [] => 0
  | b :: l => b % 128 + 128 * jn l
theorem jn_append : ∀ (l m : List Nat), jn (l ++ m) = jn l + 128 ^ l.length * jn m
  | [], m => by simp [jn]
  | b :: l, m => by
    simp only [List.cons_append, jn, jn_append l m, List.length_cons]
    rw [Nat.pow_succ, Nat.mul_add, Nat.mul_right_comm, Nat.mul_comm 128 (128 ^ l.length * _), Nat.mul_right_comm]
    omega
theorem jn_lt : ∀ l : List Nat, jn l < 128 ^ l.length
  | [] => by simp [jn]
  | b :: l => by
    have := jn_lt l
    simp only [jn, List.length_cons, Nat.pow_succ]
    omega
theorem jn_snoc (l : List Nat) (b : Nat) : jn (l ++ [b]) = jn l + 128 ^ l.length * (b % 128) := by rw [jn_append]; simp [jn]
theorem jn_split (l : List Nat) (k : Nat) : jn l = jn (l.take k) + 128 ^ (l.take k).length * jn (l.drop k) := by
  rw [← jn_append, List.take_append_drop]
theorem jn_drop_le (l : List Nat) (k : Nat) : jn (l.drop k) ≤ jn l := by
  rw [jn_split l k]
  have : 0 < 128 ^ (l.take k).length := Nat.pow_pos (by omega)
  have := Nat.le_mul_of_pos_left (jn (l.drop k)) this
  omega
theorem jn_uv (n : Nat) : jn (uv n) = n := by
  induction n using Nat.strongRecOn with
  | _ n ih =>
    by_cases h : n < 128
    · rw [uv_lt h]; simp [jn]; omega
    · rw [uv_ge (by omega)]
      simp only [jn, ih (n / 128) (by omega)]
      omega

/-- k bytes go on and z ends: is this a number below 2^64 without a byte too many? -/
def short (k z : Nat) : Bool := if k = 9 then z == 1 else k == 0 || (decide (k < 9) && !(z == 0))

/-- What is read of a number at a place: the number, the next place, the error. -/
def rd (l : List Nat) (i : Int) : Nat × Nat × Nat :=
  if i < 0 ∨ (l.length : Int) < i then (0, 0, 3)
  else if on (l.drop i.toNat) = (l.drop i.toNat).length then (0, 0, 7)
  else if short (on (l.drop i.toNat)) ((l.drop i.toNat)[on (l.drop i.toNat)]?.getD 0) = true then (jn ((l.drop i.toNat).take (on (l.drop i.toNat) + 1)), i.toNat + on (l.drop i.toNat) + 1, 0)
  else (0, 0, 6)

theorem rd_range {l : List Nat} {i : Int} (h : i < 0 ∨ (l.length : Int) < i) : rd l i = (0, 0, 3) := by rw [rd, if_pos h]
theorem rd_end {l : List Nat} {i : Nat} (h : i ≤ l.length) (h1 : on (l.drop i) = (l.drop i).length) : rd l i = (0, 0, 7) := by
  rw [rd, if_neg (by omega), if_pos (by simpa using h1)]
theorem rd_text {l : List Nat} {i k : Nat} (h : i ≤ l.length) (hk : on (l.drop i) = k) (h1 : k < (l.drop i).length) (h2 : short k ((l.drop i)[k]?.getD 0) = false) : rd l i = (0, 0, 6) := by
  subst hk
  rw [rd, if_neg (by omega), if_neg (by rw [Int.toNat_natCast]; omega), if_neg (by rw [Int.toNat_natCast, h2]; simp)]
theorem rd_ok {l : List Nat} {i k : Nat} (h : i ≤ l.length) (hk : on (l.drop i) = k) (h1 : k < (l.drop i).length) (h2 : short k ((l.drop i)[k]?.getD 0) = true) : rd l i = (jn ((l.drop i).take (k + 1)), i + k + 1, 0) := by
  subst hk
  rw [rd, if_neg (by omega), if_neg (by rw [Int.toNat_natCast]; omega), if_pos (by rw [Int.toNat_natCast, h2]), Int.toNat_natCast]

theorem short_len {k z : Nat} (h : short k z = true) : k ≤ 9 := by
  unfold short at h
  split at h
  · omega
  · simp at h; omega
theorem short_one {z : Nat} (h : short 9 z = true) : z = 1 := by simpa [short] using h
theorem take_snoc {l : List Nat} {k : Nat} (h : k < l.length) : l.take (k + 1) = l.take k ++ [l[k]?.getD 0] := by
  rw [List.take_succ_eq_append_getElem h, List.getElem?_eq_getElem h]; rfl
theorem short_lt {l : List Nat} {k : Nat} (h1 : k < l.length) (h : short k (l[k]?.getD 0) = true) : jn (l.take (k + 1)) < 18446744073709551616 := by
  have hk := short_len h
  have hl : (l.take k).length = k := by rw [List.length_take]; omega
  rw [take_snoc h1, jn_snoc, hl]
  have h2 := jn_lt (l.take k)
  rw [hl] at h2
  by_cases h9 : k = 9
  · subst h9
    rw [short_one h]
    omega
  · have h3 : 128 ^ (k + 1) ≤ 128 ^ 9 := Nat.pow_le_pow_right (by omega) (by omega)
    have h4 : jn (l.take k) + 128 ^ k * (l[k]?.getD 0 % 128) < 128 ^ k * 128 := by
      have h5 : 128 ^ k * (l[k]?.getD 0 % 128) ≤ 128 ^ k * 127 := Nat.mul_le_mul_left _ (by omega)
      omega
    rw [← Nat.pow_succ] at h4
    have h6 : (128 : Nat) ^ 9 < 18446744073709551616 := by decide
    omega
theorem rd_lt (l : List Nat) (i : Int) : (rd l i).1 < 18446744073709551616 := by
  unfold rd
  split
  · decide
  · split
    · decide
    · split
      · have := on_le (l.drop i.toNat)
        exact short_lt (by omega) ‹_›
      · decide
theorem rd_next (l : List Nat) (i : Int) : (rd l i).2.1 ≤ l.length := by
  unfold rd
  split
  · simp
  · split
    · simp
    · split
      · have := on_le (l.drop i.toNat)
        rw [List.length_drop] at *
        show i.toNat + on (l.drop i.toNat) + 1 ≤ _
        omega
      · simp
theorem rd_err (l : List Nat) (i : Int) : (rd l i).2.2 ≤ 7 := by
  unfold rd
  split
  · decide
  · split
    · decide
    · split
      · exact Nat.zero_le _
      · decide

theorem on_uv (n : Nat) : on (uv n) + 1 = (uv n).length := by
  induction n using Nat.strongRecOn with
  | _ n ih =>
    by_cases h : n < 128
    · rw [uv_lt h]; simp [on]; omega
    · rw [uv_ge (by omega)]
      have := ih (n / 128) (by omega)
      simp only [on, List.length_cons]
      rw [if_pos (by omega)]
      omega
theorem uv_last (n : Nat) : (uv n)[(uv n).length - 1]?.getD 0 = n / 128 ^ ((uv n).length - 1) ∧ (1 < (uv n).length → n / 128 ^ ((uv n).length - 1) ≠ 0) := by
  induction n using Nat.strongRecOn with
  | _ n ih =>
    by_cases h : n < 128
    · rw [uv_lt h]; simp
    · rw [uv_ge (by omega)]
      have h1 := ih (n / 128) (by omega)
      have hp := uv_pos (n / 128)
      obtain ⟨k, hk⟩ : ∃ k, (uv (n / 128)).length = k + 1 := ⟨(uv (n / 128)).length - 1, by omega⟩
      rw [hk] at h1
      simp only [List.length_cons, hk, Nat.add_sub_cancel, List.getElem?_cons_succ] at h1 ⊢
      rw [Nat.pow_succ, Nat.mul_comm (128 ^ k) 128, ← Nat.div_div_eq_div_mul]
      refine ⟨h1.1, fun _ => ?_⟩
      by_cases hk0 : k = 0
      · subst hk0; simp; omega
      · exact h1.2 (by omega)
theorem short_uv {n : Nat} (h : n < 18446744073709551616) : short (on (uv n)) ((uv n)[on (uv n)]?.getD 0) = true := by
  have h1 := on_uv n
  have h2 := uv_last n
  have h3 := uv_ten h
  rw [show (uv n).length - 1 = on (uv n) by omega] at h2
  rw [h2.1]
  unfold short
  split
  · rename_i h9
    rw [h9] at h2 ⊢
    have := h2.2 (by omega)
    simp only [beq_iff_eq]
    omega
  · by_cases h0 : on (uv n) = 0
    · simp [h0]
    · have := h2.2 (by omega)
      simp only [Bool.or_eq_true, Bool.and_eq_true, decide_eq_true_eq, Bool.not_eq_true', beq_eq_false_iff_ne, ne_eq]
      exact .inr ⟨by omega, this⟩
/-- A number that was written is read back. -/
theorem rd_back (p q : List Nat) {n : Nat} (h : n < 18446744073709551616) : rd (p ++ (uv n ++ q)) (p.length : Nat) = (n, p.length + (uv n).length, 0) := by
  have hd : (p ++ (uv n ++ q)).drop p.length = uv n ++ q := by simp
  have h1 := on_uv n
  have ho : on (uv n ++ q) = on (uv n) := on_append (by omega)
  rw [rd_ok (k := on (uv n)) (by simp) (by rw [hd, ho]) (by rw [hd, List.length_append]; omega) (by rw [hd, List.getElem?_append_left (by omega)]; exact short_uv h), hd, h1]
  rw [List.take_append_of_le_length (Nat.le_refl _), List.take_of_length_le (Nat.le_refl _), jn_uv]
  rw [show p.length + on (uv n) + 1 = p.length + (uv n).length by omega]

/-- A signed number as a number, and back. -/
def fo (k : Int) : Nat := if k < 0 then (2 * (-(k + 1)) + 1).toNat else (2 * k).toNat
def unfo (m : Nat) : Int := if m % 2 = 1 then -((m / 2 : Nat) : Int) - 1 else ((m / 2 : Nat) : Int)
theorem unfo_fo (k : Int) : unfo (fo k) = k := by
  unfold fo unfo
  by_cases h : k < 0
  · rw [if_pos h, if_pos (by omega)]; omega
  · rw [if_neg h, if_neg (by omega)]; omega
theorem fo_lt {k : Int} (h : -9223372036854775808 ≤ k ∧ k ≤ 9223372036854775807) : fo k < 18446744073709551616 := by
  unfold fo
  split <;> omega
theorem unfo_bd {m : Nat} (h : m < 18446744073709551616) : -9223372036854775808 ≤ unfo m ∧ unfo m ≤ 9223372036854775807 := by
  unfold unfo
  split <;> omega
theorem unfo_zero : unfo 0 = 0 := rfl

/-- What is read of a string of at most so many bytes: the bytes, the next place, the error. -/
def rdT (l : List Nat) (i most : Int) : List Nat × Nat × Nat :=
  if (rd l i).2.2 ≠ 0 then ([], 0, (rd l i).2.2)
  else if most < 0 ∨ most < ((rd l i).1 : Int) then ([], 0, 2)
  else if l.length - (rd l i).2.1 < (rd l i).1 then ([], 0, 7)
  else ((l.drop (rd l i).2.1).take (rd l i).1, (rd l i).2.1 + (rd l i).1, 0)
theorem rdT_back (p s q : List Nat) {most : Int} (h : (s.length : Int) ≤ most) (hs : s.length < 18446744073709551616) :
    rdT (p ++ (uv s.length ++ (s ++ q))) (p.length : Nat) most = (s, p.length + (uv s.length).length + s.length, 0) := by
  have h1 := rd_back p (s ++ q) hs
  unfold rdT
  rw [h1]
  simp only [ne_eq, not_true_eq_false, if_false]
  rw [if_neg (by omega), if_neg (by simp only [List.length_append]; omega)]
  have hd : (p ++ (uv s.length ++ (s ++ q))).drop (p.length + (uv s.length).length) = s ++ q := by
    rw [← List.drop_drop]; simp
  rw [hd]
  simp
end WireN

/- Words for slices of bytes in memory: what a slice value reads as, a row of memory that is known whole, and what stays. No condition. -/
namespace Go.Proofs.YtfobogcccbddbaaGreatDoor
namespace By
open Go.RowKit WireN
set_option linter.unusedVariables false
set_option linter.unusedSimpArgs false

theorem ret_int {k : IntKind} {a b : Int} (h : a = b) : Ending.returned (.int k a) = .returned (.int k b) := by rw [h]
theorem ret_bool {a b : Bool} (h : a = b) : Ending.returned (.bool a) = .returned (.bool b) := by rw [h]

theorem vint {k : IntKind} {a b : Int} (h : a = b) : Value.int k a = Value.int k b := by rw [h]

/-- Nothing that was there has changed. -/
abbrev Kp (w w' : World) : Prop := Below w.heap.size w w'
theorem Kp.drewN (w : World) (n : Nat) : Kp w (w.drewN n) := ⟨rfl, rfl, rfl, Nat.le_refl _, fun _ _ => rfl⟩
theorem Kp.refl (w : World) : Kp w w := Below.refl _ _
theorem Kp.trans {a b c : World} (h : Kp a b) (k : Kp b c) : Kp a c := Below.trans h (Below.mono k h.size)
theorem Kp.of_eq {a b : World} (h : a = b) : Kp a b := by subst h; exact Kp.refl _
theorem Kp.alloc {a b : World} (h : Kp a b) (o : Obj) : Kp a (b.alloc o) := Below.alloc h h.size o
def Drawn (w w' : World) : Prop := ∃ n, w' = w.drewN n
theorem Drawn.refl (w : World) : Drawn w w := ⟨0, rfl⟩
theorem Drawn.drew {w w' : World} (h : Drawn w w') (n : Nat) : Drawn w (w'.drewN n) := by obtain ⟨m, rfl⟩ := h; exact ⟨_, World.drewN_drewN _ _ _⟩
theorem Drawn.one {w w' : World} (h : Drawn w w') : Drawn w w'.drew := h.drew 1
theorem Drawn.kp {w w' : World} (h : Drawn w w') : Kp w w' := by obtain ⟨m, rfl⟩ := h; exact Kp.drewN _ _

/-- The slice's address holds the numbers. -/
def At (w : World) (ao : Option Addr) (xs : List Nat) : Prop :=
  xs = [] ∨ ∃ b off, ao = some ⟨b, off, none⟩ ∧ ∀ i : Nat, i < xs.length → w.cell? ⟨b, off + i, none⟩ = some (.int .u8 (xs[i]?.getD 0 : Nat))
theorem At.cells {w : World} {ao : Option Addr} {xs : List Nat} (h : At w ao xs) (hx : 0 < xs.length) :
    ∃ b off, ao = some ⟨b, off, none⟩ ∧ ∀ i : Nat, i < xs.length → w.cell? ⟨b, off + i, none⟩ = some (.int .u8 (xs[i]?.getD 0 : Nat)) := by
  rcases h with rfl | h
  · simp at hx
  · exact h
theorem At.nil (w : World) (ao : Option Addr) : At w ao [] := .inl rfl
theorem At.keep {w w' : World} {ao : Option Addr} {xs : List Nat} (h : At w ao xs) (hk : Kp w w') : At w' ao xs := by
  rcases h with rfl | ⟨b, off, rfl, h⟩
  · exact .inl rfl
  · refine .inr ⟨b, off, rfl, fun i hi => ?_⟩
    have h1 := h i hi
    exact (hk.cell (World.block_lt_of_cell? w _ h1)).trans h1
theorem At.take {w : World} {ao : Option Addr} {xs : List Nat} (h : At w ao xs) (k : Nat) : At w ao (xs.take k) := by
  rcases h with rfl | ⟨b, off, rfl, h⟩
  · exact .inl (by simp)
  · refine .inr ⟨b, off, rfl, fun i hi => ?_⟩
    rw [List.length_take] at hi
    rw [List.getElem?_take, if_pos (by omega)]
    exact h i (by omega)

/-- The value is a slice that reads as the bytes xs. -/
structure Sl (w : World) (v : Value) (xs : List Nat) : Prop where
  ex : ∃ ao cap, v = .slice ao xs.length cap ∧ xs.length ≤ cap ∧ cap ≤ maxLen ∧ At w ao xs ∧ (ao = none → cap = 0)
  lt : Lt xs
  sm : xs.length ≤ 140737488355328
theorem Sl.keep {w w' : World} {v : Value} {xs : List Nat} (h : Sl w v xs) (hk : Kp w w') : Sl w' v xs := by
  obtain ⟨⟨ao, cap, h1, h2, h3, h4, h5⟩, hl, hs⟩ := h
  exact ⟨⟨ao, cap, h1, h2, h3, h4.keep hk, h5⟩, hl, hs⟩
theorem Sl.nil (w : World) : Sl w (.slice none 0 0) [] := ⟨⟨none, 0, rfl, Nat.le_refl _, Nat.zero_le _, At.nil _ _, fun _ => rfl⟩, Lt.nil, by simp⟩
theorem Sl.len {w : World} {v : Value} {xs : List Nat} (h : Sl w v xs) : xs.length ≤ maxLen := by
  obtain ⟨⟨ao, cap, h1, h2, h3, h4, h5⟩, hl, hs⟩ := h
  omega
/-- The value is nil or lies in new memory. -/
def New (B : Nat) (v : Value) : Prop := ∀ a len cap, v = .slice (some a) len cap → B ≤ a.block
theorem New.nil (B : Nat) : New B (.slice none 0 0) := by intro a len cap h; simp at h
theorem New.mono {B C : Nat} {v : Value} (h : New B v) (hc : C ≤ B) : New C v := fun a l c e => Nat.le_trans hc (h a l c e)
/-- What the value reads as does not lie in block g. -/
def Off (g : Nat) (v : Value) (xs : List Nat) : Prop := xs ≠ [] → ∀ a len cap, v = .slice (some a) len cap → a.block ≠ g

/-- Block g is a row of bytes. -/
def U (zs : List Nat) : List Value := zs.map fun (z : Nat) => Value.int .u8 (z : Int)
structure Row (w : World) (g : Nat) (e : TypeId) (zs : List Nat) : Prop where
  blk : w.heap[g]? = some (.cells (U zs).toArray e (0, 0))
theorem U_length (zs : List Nat) : (U zs).length = zs.length := by simp [U]
theorem Row.cell {w : World} {g : Nat} {e : TypeId} {zs : List Nat} (h : Row w g e zs) (i : Nat) (hi : i < zs.length) : w.cell? ⟨g, i, none⟩ = some (.int .u8 (zs[i]?.getD 0 : Nat)) := by
  rw [cell_of_row w g i _ e (0, 0) h.blk]
  simp [U, List.getElem?_eq_getElem hi]
theorem Row.free {w : World} {g : Nat} {e : TypeId} {zs : List Nat} (h : Row w g e zs) (i : Nat) : w.frozen? ⟨g, i, none⟩ = false := frozen_of_row w g i _ e h.blk
theorem Row.lt {w : World} {g : Nat} {e : TypeId} {zs : List Nat} (h : Row w g e zs) : g < w.heap.size := lt_of_block h.blk
/-- All but block g is as it was. -/
structure Only (g : Nat) (w w' : World) : Prop where
  os : w'.os = w.os
  tape : w'.tape = w.tape
  output : w'.output = w.output
  size : w.heap.size = w'.heap.size
  block : ∀ k, k ≠ g → w'.heap[k]? = w.heap[k]?
theorem Only.refl (g : Nat) (w : World) : Only g w w := ⟨rfl, rfl, rfl, rfl, fun _ _ => rfl⟩
theorem Only.trans {g : Nat} {a b c : World} (h : Only g a b) (k : Only g b c) : Only g a c :=
  ⟨k.os.trans h.os, k.tape.trans h.tape, k.output.trans h.output, h.size.trans k.size, fun i hi => (k.block i hi).trans (h.block i hi)⟩
theorem Only.set {g : Nat} {a w : World} (h : Only g a w) (i : Nat) (u : Value) : Only g a (w.setCell ⟨g, i, none⟩ u) :=
  h.trans ⟨rfl, rfl, rfl, by simp, fun k hk => heap_setCell_other w ⟨g, i, none⟩ k u hk⟩
theorem Only.drewN {g : Nat} {a w : World} (h : Only g a w) (n : Nat) : Only g a (w.drewN n) := h.trans ⟨rfl, rfl, rfl, rfl, fun _ _ => rfl⟩
theorem Only.drew {g : Nat} {a w : World} (h : Only g a w) : Only g a w.drew := h.trans ⟨rfl, rfl, rfl, rfl, fun _ _ => rfl⟩
theorem Only.drawn {g : Nat} {a w w' : World} (h : Only g a w) (k : Drawn w w') : Only g a w' := by obtain ⟨n, rfl⟩ := k; exact h.drewN n
theorem Only.kp {g : Nat} {a b c : World} (hk : Kp a b) (h : Only g b c) (hg : a.heap.size ≤ g) : Kp a c :=
  Below.trans hk ⟨h.os, h.tape, h.output, Nat.le_of_eq h.size, fun k hk => h.block k (by omega)⟩
theorem Row.set {w : World} {g : Nat} {e : TypeId} {zs : List Nat} (h : Row w g e zs) (i d : Nat) : Row (w.setCell ⟨g, i, none⟩ (.int .u8 (d : Int))) g e (zs.set i d) := by
  refine ⟨?_⟩
  rw [heap_setCell_same w g i _ e _ h.blk]
  simp [U]
theorem Row.set' {w : World} {g : Nat} {e : TypeId} {zs : List Nat} (h : Row w g e zs) (i d : Nat) (D : Int) (hd : D = (d : Int)) : Row (w.setCell ⟨g, i, none⟩ (.int .u8 D)) g e (zs.set i d) := by
  subst hd; exact h.set i d
theorem Row.other {w w' : World} {g k : Nat} {e : TypeId} {zs : List Nat} (h : Row w g e zs) (ho : Only k w w') (hne : g ≠ k) : Row w' g e zs := ⟨(ho.block g hne).trans h.blk⟩
theorem Row.drewN {w : World} {g : Nat} {e : TypeId} {zs : List Nat} (h : Row w g e zs) (n : Nat) : Row (w.drewN n) g e zs := ⟨h.blk⟩
theorem Row.keep {w w' : World} {g : Nat} {e : TypeId} {zs : List Nat} (h : Row w g e zs) (hk : Kp w w') : Row w' g e zs := ⟨(hk.block g h.lt).trans h.blk⟩
theorem At.only {w w' : World} {ao : Option Addr} {xs : List Nat} {g : Nat} (h : At w ao xs) (ho : Only g w w') (hg : xs ≠ [] → ∀ a, ao = some a → a.block ≠ g) : At w' ao xs := by
  rcases h with rfl | ⟨b, off, rfl, h⟩
  · exact .inl rfl
  · by_cases hx : xs = []
    · exact .inl hx
    · exact .inr ⟨b, off, rfl, fun i hi => (World.cell?_of_block (ho.block b (hg hx _ rfl))).trans (h i hi)⟩
theorem Sl.only {w w' : World} {v : Value} {xs : List Nat} {g : Nat} (h : Sl w v xs) (ho : Only g w w') (hg : Off g v xs) : Sl w' v xs := by
  obtain ⟨⟨ao, cap, h1, h2, h3, h4, h5⟩, hl, hs⟩ := h
  exact ⟨⟨ao, cap, h1, h2, h3, h4.only ho (fun hx a ha => hg hx a _ _ (by rw [h1, ha])), h5⟩, hl, hs⟩
theorem Sl.off {w : World} {v : Value} {xs : List Nat} (h : Sl w v xs) {g : Nat} (hg : w.heap.size ≤ g) : Off g v xs := by
  obtain ⟨⟨ao, cap, rfl, h2, h3, h4, h5⟩, hl, hs⟩ := h
  intro hx a l c e
  simp only [Value.slice.injEq] at e
  obtain ⟨b, off, h6, h7⟩ := h4.cells (List.length_pos_iff.2 hx)
  have := World.block_lt_of_cell? w _ (h7 0 (List.length_pos_iff.2 hx))
  rw [h6] at e
  obtain rfl := Option.some.inj e.1
  simp only at this ⊢
  omega
theorem Row.at {w : World} {g : Nat} {e : TypeId} {zs : List Nat} (h : Row w g e zs) (o : Nat) : At w (some ⟨g, o, none⟩) (zs.drop o) := by
  by_cases hz : zs.drop o = []
  · exact .inl hz
  · refine .inr ⟨g, o, rfl, fun i hi => ?_⟩
    rw [List.length_drop] at hi
    rw [List.getElem?_drop]
    exact h.cell (o + i) (by omega)
/-- An owned row whose length is its capacity. -/
theorem row_of_owns {w : World} {base : Nat} {e : TypeId} {g n : Nat} {zs : List Nat} (h : w.ownsRow base e 1 (.slice (some ⟨g, 0, none⟩) n n) n (U zs)) : Row w g e zs := by
  rcases h.2 with ⟨h', _⟩ | ⟨g', cap', cur, h', _, hg, _, _, hs, htake⟩
  · simp at h'
  · simp only [Value.slice.injEq, Option.some.injEq, Addr.mk.injEq, and_true, true_and] at h'
    obtain ⟨rfl, rfl⟩ := h'
    rw [Nat.mul_one] at hs htake
    rw [List.take_of_length_le (by simp [hs])] at htake
    refine ⟨?_⟩
    rw [hg, ← htake]
/-- What is owned reads as its bytes, and lies in new memory. -/
theorem sl_of_owns {w : World} {base : Nat} {e : TypeId} {v : Value} {n : Nat} {zs : List Nat} (h : w.ownsRow base e 1 v n (U zs)) (hl : Lt zs) (hs : zs.length ≤ 140737488355328) : Sl w v zs ∧ New base v := by
  have hn : zs.length = n := by have := h.1; rw [U_length] at this; omega
  rcases h.2 with ⟨rfl, h0⟩ | ⟨g, cap, cur, rfl, hb, hg, hnc, hcm, hsz, htake⟩
  · have : zs = [] := List.eq_nil_of_length_eq_zero (by omega)
    subst this
    exact ⟨Sl.nil _, New.nil _⟩
  · refine ⟨⟨⟨some ⟨g, 0, none⟩, cap, by rw [hn], by omega, hcm, ?_, fun h => by simp at h⟩, hl, hs⟩, ?_⟩
    · by_cases hz : zs = []
      · exact .inl hz
      · refine .inr ⟨g, 0, rfl, fun i hi => ?_⟩
        rw [Nat.zero_add, cell_of_row w g i cur e (0, 0) hg]
        have h1 : (cur.toList.take (n * 1))[i]? = (U zs)[i]? := by rw [htake]
        rw [List.getElem?_take, if_pos (by omega)] at h1
        rw [← Array.getElem?_toList, h1]
        simp [U, List.getElem?_eq_getElem hi]
    · intro a l c e
      simp only [Value.slice.injEq, Option.some.injEq] at e
      rw [← e.1]; exact hb
theorem made_U (n : Nat) : (madeCells (Value.int .u8 0).cells (n * 1)).toList = U (List.replicate n 0) := by
  rw [Nat.mul_one]
  exact (toList_madeCells_one _ _).trans (by simp [U])
theorem info32 : (Tryz.prog.info? 5).map (fun i => (i.zero, i.size, i.bytes)) = some (some (.int .u8 0), 1, 1) := by kernel_rfl
theorem U_append (xs ys : List Nat) : U (xs ++ ys) = U xs ++ U ys := by simp [U]
theorem U_one (xs : List Nat) : ∀ u ∈ U xs, u.oneCell' = true := by
  intro u hu
  obtain ⟨_, _, rfl⟩ := List.mem_map.1 hu
  rfl
theorem At.news {w : World} {a : Addr} {ys : List Nat} (h : At w (some a) ys) : ∀ j u, (U ys)[j]? = some u → w.cell? (a.add j) = some u := by
  intro j u hu
  have hj : j < ys.length := by have := (List.getElem?_eq_some_iff.1 hu).1; rwa [U_length] at this
  obtain ⟨b, off, e, hc⟩ := h.cells (by omega)
  obtain rfl := Option.some.inj e
  rw [Addr.add_lit, hc j hj]
  simpa [U, List.getElem?_eq_getElem hj] using hu
/-- append of bytes to a slice of the call's own. -/
theorem wpList_app {w : World} {ops : Array Oper} {rest : List Oper} {o : Oper} {a : Act} {Q : Exit → Act → World → Prop} (hgd : o.guard = none) (s x : Operand) (t : TypeId)
    (ho : o.op = .call { callee := .builtin .append, args := #[s, x], argTypes := #[t, t] }) (ht : Tryz.prog.underlying t = some (.slice 5)) (base : Nat)
    (v : Value) (n : Nat) (zs : List Nat) (hs : a.eval s = v) (hown : w.ownsRow base 5 1 v n (U zs))
    (ao : Option Addr) (m c : Nat) (ys : List Nat) (hx : a.eval x = .slice ao m c) (hm : ys.length = m) (hat : At w ao ys) (hno : ao = none → c = 0)
    (hsum : n + m ≤ 140737488355328) (hbase : base ≤ w.heap.size)
    (h : ∀ v' w', w'.ownsRow base 5 1 v' (n + m) (U (zs ++ ys)) → w.grownBy w' v.ownBlock → wpList Tryz.prog ops Q rest (a.put o.dst v') w') : wpList Tryz.prog ops Q (o :: rest) a w := by
  obtain ⟨i0, hi, hz0, hz1, hz2⟩ := info_parts info32
  cases ao with
  | none =>
    have hys : ys = [] := by
      rcases hat with h | ⟨_, _, h, _⟩
      · exact h
      · simp at h
    subst hys
    obtain rfl : m = 0 := by simpa using hm.symm
    obtain rfl := hno rfl
    exact wpList_append_own_none hgd s x t ho base 5 i0 1 ht hi v n (U zs) hs hown hx (h v w (by simpa using hown) (World.grownBy.refl _ _))
  | some ad =>
    refine wpList_append_own w hgd s x t ho base 5 i0 (.int .u8 0) 1 1 ht hi hz0 hz1 hz2 rfl (by decide) v n (U zs) hs hown ad m c (U ys) hx (by rw [U_length, hm, Nat.mul_one]) hat.news (U_one _)
      (by unfold maxLen; omega) (by omega) hbase (fun v' w' h1 h2 _ => h v' w' (by rw [U_append]; exact h1) h2)
theorem mk_size : (Tryz.prog.info? 5).map (·.size) = some 1 := by kernel_rfl
/-- make([]byte, n). -/
theorem wpList_mk {w : World} {ops : Array Oper} {rest : List Oper} {o : Oper} {a : Act} {Q : Exit → Act → World → Prop} (hgd : o.guard = none) (l c : Operand) (t : TypeId) (hop : o.op = Op.makeSlice t l c)
    (ht : Tryz.prog.underlying t = some (.slice 5)) (L : Int) (n : Nat) (hl : a.eval l = .int .i64 L) (hc : a.eval c = .int .i64 L) (hL : L = (n : Int)) (hn : n ≤ 140737488355328)
    (hK : ∀ w', Row w' w.heap.size 5 (List.replicate n 0) → Kp w w' → wpList Tryz.prog ops Q rest (a.put o.dst (.slice (some ⟨w.heap.size, 0, none⟩) n n)) w') :
    wpList Tryz.prog ops Q (o :: rest) a w := by
  obtain ⟨i0, hi, hz0, hz1, hz2⟩ := info_parts info32
  refine wpList_make_full w hgd l c t hop w.heap.size 5 i0 (.int .u8 0) 1 ht hi hz0 hz1 .i64 .i64 L L n hl hc hL hL (by rw [hz2]; omega) (by unfold maxLen; omega) (Nat.le_refl _) ?_
  intro w' h1 h2
  rw [made_U] at h1
  exact hK w' (row_of_owns h1) (Below.grown (Below.refl _ _) h2 (Nat.le_refl _) (by simp))
/-- copy of bytes to the beginning of a row. -/
theorem wpList_cp {w : World} {ops : Array Oper} {rest : List Oper} {o : Oper} {a : Act} {Q : Exit → Act → World → Prop} (hgd : o.guard = none) (d s : Operand) (dT sT : TypeId)
    (ho : o.op = .call { callee := .builtin .copy, args := #[d, s], argTypes := #[dT, sT] }) (hu : Tryz.prog.underlying dT = some (.slice 5))
    (g n cap : Nat) (t : TypeId) (zs ys : List Nat) (v : Value) (hd : a.eval d = .slice (some ⟨g, 0, none⟩) n cap) (hs : a.eval s = v) (hsl : Sl w v ys) (hle : ys.length ≤ n) (hz : n ≤ zs.length) (hrow : Row w g t zs)
    (hK : ∀ w', Row w' g t (ys ++ zs.drop ys.length) → Only g w w' → wpList Tryz.prog ops Q rest (a.put o.dst (goInt ys.length)) w') : wpList Tryz.prog ops Q (o :: rest) a w := by
  obtain ⟨⟨ao, c, rfl, h2, h3, h4, h5⟩, hl, hsm⟩ := hsl
  by_cases h0 : ys = []
  · subst h0
    refine wpList_copy_nothing hgd d s dT sT ho 5 hu mk_size (some ⟨g, 0, none⟩) ao n cap _ c hd hs (by simp) ?_
    exact hK w (by simpa using hrow) (Only.refl _ _)
  · obtain ⟨b, off, rfl, hc⟩ := h4.cells (List.length_pos_iff.2 h0)
    refine wpList_copy_own hgd d s dT sT ho 5 hu mk_size g 0 n cap ⟨b, off, none⟩ ys.length c hd hs _ t hrow.blk (U ys) (by rw [U_length]; exact (Nat.min_eq_left hle).symm) h4.news (by simp [U_length]; omega) (U_one _) ?_
    rw [U_length]
    refine hK _ ⟨?_⟩ ⟨rfl, rfl, rfl, by simp, fun k hk => setRow_other w g k _ hk⟩
    rw [setRow_heap w g _ _ t _ hrow.blk]
    simp [U]
theorem Kp.grown {w w' : World} {row : Option Nat} (h : w.grownBy w' row) (hr : ∀ k, row = some k → w.heap.size ≤ k) : Kp w w' := Below.grown (Below.refl _ _) h (Nat.le_refl _) hr
/-- Cutting a slice. -/
theorem Addr_add (b off k : Nat) : (⟨b, off, none⟩ : Addr).add k = ⟨b, off + k, none⟩ := by
  unfold Addr.add
  by_cases h : k = 0
  · subst h; rfl
  · rw [if_neg h]
theorem At.cut {w : World} {ao : Option Addr} {xs : List Nat} (h : At w ao xs) (cap l m : Nat) (hm : m ≤ cap) : At w (if cap = l then ao else ao.map (·.add (l * 1))) ((xs.take m).drop l) := by
  by_cases he : (xs.take m).drop l = []
  · exact .inl he
  · have hlen := List.length_pos_iff.2 he
    rw [List.length_drop, List.length_take] at hlen
    rcases h with rfl | ⟨b, off, rfl, h⟩
    · simp at he
    · rw [if_neg (by omega)]
      refine .inr ⟨b, off + l, by simp [Addr_add], fun i hi => ?_⟩
      rw [List.length_drop, List.length_take] at hi
      rw [List.getElem?_drop, List.getElem?_take, if_pos (by omega), Nat.add_assoc]
      exact h (l + i) (by omega)
theorem Sl.cut {w : World} {ao : Option Addr} {n cap : Nat} {xs : List Nat} (h : Sl w (.slice ao n cap) xs) (l m : Nat) (hlm : l ≤ m) (hm : m ≤ n) : Sl w (sliced ao l m cap 1) ((xs.take m).drop l) := by
  obtain ⟨⟨ao', cap', h1, h2, h3, h4, h5⟩, hl, hs⟩ := h
  simp only [Value.slice.injEq] at h1
  obtain ⟨rfl, rfl, rfl⟩ := h1
  have e : ((xs.take m).drop l).length = m - l := by rw [List.length_drop, List.length_take]; omega
  refine ⟨⟨_, cap - l, by rw [e]; rfl, by omega, by omega, h4.cut cap l m (by omega), fun hn => ?_⟩, (hl.take m).drop l, by omega⟩
  split at hn
  · have := h5 hn; omega
  · rw [Option.map_eq_none_iff] at hn
    have := h5 hn; omega
theorem Sl.open3 {w : World} {v : Value} {xs : List Nat} (h : Sl w v xs) : ∃ ao cap, v = .slice ao xs.length cap ∧ xs.length ≤ cap ∧ cap ≤ maxLen ∧ (ao = none → cap = 0) := by
  obtain ⟨⟨ao, cap, h1, h2, h3, h4, h5⟩, hl, hs⟩ := h
  exact ⟨ao, cap, h1, h2, h3, h5⟩
end By
end Go.Proofs.YtfobogcccbddbaaGreatDoor

/- Bytes in memory of the call's own: append, and what stays. No condition. -/
namespace Go.Proofs.YtfobogcccbddbaaGreatDoor
namespace By
open Go.RowKit WireN
set_option linter.unusedVariables false
set_option linter.unusedSimpArgs false

structure Own (w wr : World) (v : Value) (zs : List Nat) : Prop where
  owns : wr.ownsRow w.heap.size 5 1 v zs.length (U zs)
  lt : Lt zs
  kp : Kp w wr
theorem Own.start (w : World) : Own w w (.slice none 0 0) [] := ⟨World.ownsRow_nil _ _ _ _, Lt.nil, Kp.refl _⟩
theorem Own.keep {w wr w1 : World} {v : Value} {zs : List Nat} (h : Own w wr v zs) (hk : Kp wr w1) : Own w w1 v zs := by
  refine ⟨⟨h.owns.1, ?_⟩, h.lt, Kp.trans h.kp hk⟩
  rcases h.owns.2 with hn | ⟨g, cap, cur, e, hb, hg, r⟩
  · exact .inl hn
  · exact .inr ⟨g, cap, cur, e, hb, by rw [hk.block g (lt_of_block hg)]; exact hg, r⟩
theorem Own.sl {w wr : World} {v : Value} {zs : List Nat} (h : Own w wr v zs) (hs : zs.length ≤ 140737488355328) : Sl wr v zs := (sl_of_owns h.owns h.lt hs).1
theorem Own.new {w wr : World} {v : Value} {zs : List Nat} (h : Own w wr v zs) (hs : zs.length ≤ 140737488355328) : New w.heap.size v := (sl_of_owns h.owns h.lt hs).2
theorem Own.form {w wr : World} {v : Value} {zs : List Nat} (h : Own w wr v zs) : ∃ ao cap, v = .slice ao zs.length cap ∧ zs.length ≤ cap ∧ cap ≤ maxLen := by
  rcases h.owns.2 with ⟨rfl, h0⟩ | ⟨g, cap, cur, rfl, hb, hg, hnc, hcm, hsz, htake⟩
  · exact ⟨none, 0, by rw [h0], by omega, Nat.zero_le _⟩
  · exact ⟨_, cap, rfl, hnc, hcm⟩
theorem Own.base {w0 w wr : World} {v : Value} {zs : List Nat} (h : Own w wr v zs) (hk : Kp w0 w) : Own w0 wr v zs := by
  refine ⟨⟨h.owns.1, ?_⟩, h.lt, Kp.trans hk h.kp⟩
  rcases h.owns.2 with hn | ⟨g, cap, cur, e, hb, hg, r⟩
  · exact .inl hn
  · exact .inr ⟨g, cap, cur, e, Nat.le_trans hk.size hb, hg, r⟩
theorem kp_alloc (w : World) (o : Obj) : Kp w (w.alloc o) := Kp.alloc (Kp.refl w) o
theorem sl_of_at {w : World} {ao : Option Addr} {n cap : Nat} {xs : List Nat} (h : At w ao xs) (hl : Lt xs) (hn : xs.length = n) (hc : n ≤ cap) (hm : cap ≤ 140737488355328) (hno : ao = none → cap = 0) : Sl w (.slice ao n cap) xs := by
  subst hn
  exact ⟨⟨ao, cap, rfl, hc, by unfold maxLen; omega, h, hno⟩, hl, by omega⟩
theorem sl_new {w : World} {e : TypeId} {cs : Array Value} (xs : List Nat) (hl : Lt xs) (hc : cs = (U xs).toArray) (n : Nat) (hn : xs.length = n) (hs : n ≤ 140737488355328) : Sl (w.alloc (.cells cs e)) (.slice (some ⟨w.heap.size, 0, none⟩) n n) xs := by
  subst hc
  refine sl_of_at ?_ hl hn (Nat.le_refl _) hs (fun h => nomatch h)
  refine .inr ⟨w.heap.size, 0, rfl, fun i hi => ?_⟩
  rw [Nat.zero_add, cell_of_row _ w.heap.size i _ e (0, 0) (heap_alloc_new w _)]
  simp [U, List.getElem?_eq_getElem hi]
theorem sl_one {w : World} {D : Int} {e : TypeId} {d : Nat} (h : D = (d : Int)) (hd : d < 256) : Sl (w.alloc (.cells #[.int .u8 D] e)) (.slice (some ⟨w.heap.size, 0, none⟩) 1 1) [d] := by
  subst h
  exact sl_new [d] (Lt.one hd) rfl 1 rfl (by omega)
/-- append of bytes to a slice of the call's own. -/
theorem wpList_ap {w wx : World} {ops : Array Oper} {rest : List Oper} {o : Oper} {a : Act} {Q : Exit → Act → World → Prop} (hgd : o.guard = none) (s x : Operand) (t : TypeId)
    (ho : o.op = .call { callee := .builtin .append, args := #[s, x], argTypes := #[t, t] }) (ht : Tryz.prog.underlying t = some (.slice 5))
    (v vs : Value) (zs ys : List Nat) (hs : a.eval s = v) (hx : a.eval x = vs) (hown : Own w wx v zs) (hsl : Sl wx vs ys) (hsum : zs.length + ys.length ≤ 140737488355328)
    (h : ∀ v' w', Own w w' v' (zs ++ ys) → wpList Tryz.prog ops Q rest (a.put o.dst v') w') : wpList Tryz.prog ops Q (o :: rest) a wx := by
  obtain ⟨⟨ao, cap, rfl, h2, h3, h4, h5⟩, hl, hsm⟩ := hsl
  refine wpList_app hgd s x t ho ht w.heap.size v zs.length zs hs hown.owns ao ys.length cap ys hx rfl h4 h5 hsum hown.kp.size (fun v' w' h1 hg => h v' w' ⟨by rw [List.length_append]; exact h1, hown.lt.append hl, ?_⟩)
  exact Below.grown hown.kp hg hown.kp.size (fun k hk => (hown.owns.lt k hk).1)

theorem cell_kept {w w' : World} {a : Addr} {v : Value} (h : w.cell? a = some v) (hk : Kp w w') : w'.cell? a = some v := (hk.cell (World.block_lt_of_cell? w a h)).trans h
theorem kp_drew (w : World) : Kp w w.drew := Kp.drewN w 1
/-- A list of bytes of the call's own, and where it lies. -/
theorem Own.parts {w wr : World} {v : Value} {zs : List Nat} (h : Own w wr v zs) (hk : 0 < zs.length) :
    ∃ g cap cur, v = .slice (some ⟨g, 0, none⟩) zs.length cap ∧ w.heap.size ≤ g ∧ zs.length ≤ cap ∧ cap ≤ maxLen ∧ wr.heap[g]? = some (.cells cur 5 (0, 0)) ∧ cur.size = cap ∧ cur.toList.take zs.length = U zs := by
  rcases h.owns.2 with ⟨_, h0⟩ | ⟨g, cap, cur, rfl, hb, hg, hnc, hcm, hsz, htake⟩
  · omega
  · exact ⟨g, cap, cur, rfl, hb, hnc, hcm, hg, by rw [hsz, Nat.mul_one], by rw [Nat.mul_one] at htake; exact htake⟩
/-- Block g is just these cells. -/
def Blk (w : World) (g : Nat) (t : TypeId) (cs : Array Value) : Prop := w.heap[g]? = some (.cells cs t (0, 0))
theorem Blk.cell {w : World} {g : Nat} {t : TypeId} {cs : Array Value} (h : Blk w g t cs) (i : Nat) {v : Value} (hv : cs[i]? = some v) : w.cell? ⟨g, i, none⟩ = some v := (cell_of_row w g i cs t (0, 0) h).trans hv
theorem Blk.free {w : World} {g : Nat} {t : TypeId} {cs : Array Value} (h : Blk w g t cs) (i : Nat) : w.frozen? ⟨g, i, none⟩ = false := frozen_of_row w g i _ t h
theorem Blk.lt {w : World} {g : Nat} {t : TypeId} {cs : Array Value} (h : Blk w g t cs) : g < w.heap.size := lt_of_block h
theorem Blk.new (w : World) (t : TypeId) (cs : Array Value) : Blk (w.alloc (.cells cs t)) w.heap.size t cs := heap_alloc_new w _
theorem Blk.keep {w w' : World} {g : Nat} {t : TypeId} {cs : Array Value} (h : Blk w g t cs) (hk : Kp w w') : Blk w' g t cs := (hk.block g h.lt).trans h
theorem Blk.other {w w' : World} {g g' : Nat} {t : TypeId} {cs : Array Value} (h : Blk w g t cs) (ho : Only g' w w') (hne : g ≠ g') : Blk w' g t cs := (ho.block g hne).trans h
theorem Blk.drewN {w : World} {g : Nat} {t : TypeId} {cs : Array Value} (h : Blk w g t cs) (n : Nat) : Blk (w.drewN n) g t cs := h
theorem Blk.set {w : World} {g : Nat} {t : TypeId} {cs : Array Value} (h : Blk w g t cs) (i : Nat) (u : Value) : Blk (w.setCell ⟨g, i, none⟩ u) g t (cs.setIfInBounds i u) := heap_setCell_same w g i _ t u h

theorem or128 (a : Nat) (h : a < 256) : bits .or .u8 (a : Int) 128 = ((a % 128 + 128 : Nat) : Int) := by
  have key : ∀ a : Fin 256, bits .or .u8 (a.val : Int) 128 = ((a.val % 128 + 128 : Nat) : Int) := by decide +kernel
  exact key ⟨a, h⟩
theorem andNot128 (a : Nat) (h : a < 256) : bits .andNot .u8 (a : Int) 128 = ((a % 128 : Nat) : Int) := by
  have key : ∀ a : Fin 256, bits .andNot .u8 (a.val : Int) 128 = ((a.val % 128 : Nat) : Int) := by decide +kernel
  exact key ⟨a, h⟩
theorem u64_toNat (a : Nat) (h : a < 18446744073709551616) : (BitVec.ofInt 64 (a : Int)).toNat = a := by
  rw [BitVec.ofInt_natCast, BitVec.toNat_ofNat]; exact Nat.mod_eq_of_lt (by omega)
theorem u64_or (a b : Nat) (ha : a < 18446744073709551616) (hb : b < 18446744073709551616) : bits .or .u64 (a : Int) (b : Int) = ((a ||| b : Nat) : Int) := by
  have hx : a ||| b < 2 ^ 64 := Nat.or_lt_two_pow (by omega) (by omega)
  show IntKind.u64.wrap ((BitVec.ofInt 64 (a : Int) ||| BitVec.ofInt 64 (b : Int)).toNat : Int) = _
  rw [BitVec.toNat_or, u64_toNat a ha, u64_toNat b hb]
  show ((a ||| b : Nat) : Int) % 18446744073709551616 = _
  omega
theorem u64_or_one (a : Nat) (ha : a < 18446744073709551616) (h2 : a % 2 = 0) : bits .or .u64 (a : Int) 1 = ((a + 1 : Nat) : Int) := by
  have h := u64_or a 1 ha (by omega)
  have e : a ||| 1 = a + 1 := by
    have := Nat.two_pow_add_eq_or_of_lt (b := 1) (i := 1) (by omega) (a / 2)
    rw [show 2 ^ 1 * (a / 2) = a by omega] at this
    exact this.symm
  rw [e] at h
  exact h
theorem u64_and_one (a : Nat) (ha : a < 18446744073709551616) : bits .and .u64 (a : Int) 1 = ((a % 2 : Nat) : Int) := by
  have h1 : bits .and .u64 (a : Int) ((1 : Nat) : Int) = ((a &&& 1 : Nat) : Int) := by
    have hx : a &&& 1 < 2 ^ 64 := Nat.and_lt_two_pow _ (by omega)
    show IntKind.u64.wrap ((BitVec.ofInt 64 (a : Int) &&& BitVec.ofInt 64 ((1 : Nat) : Int)).toNat : Int) = _
    rw [BitVec.toNat_and, u64_toNat a ha, u64_toNat 1 (by omega)]
    show ((a &&& 1 : Nat) : Int) % 18446744073709551616 = _
    omega
  rw [Nat.and_one_is_mod] at h1
  exact h1
theorem i64_not (x : Int) (h : -9223372036854775808 ≤ x ∧ x ≤ 9223372036854775807) : bits .xor .i64 (-1) x = -1 - x := by
  have e : BitVec.ofInt 64 (-1) = BitVec.allOnes 64 := by decide
  show IntKind.i64.wrap ((BitVec.ofInt 64 (-1) ^^^ BitVec.ofInt 64 x).toNat : Int) = _
  rw [e, BitVec.allOnes_xor, BitVec.toNat_not, BitVec.toNat_ofInt, IntKind.wrap_i64]
  omega
end By
end Go.Proofs.YtfobogcccbddbaaGreatDoor
