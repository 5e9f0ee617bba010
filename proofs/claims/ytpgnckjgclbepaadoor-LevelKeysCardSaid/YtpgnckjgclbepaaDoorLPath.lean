/- Plain mathematics of names and paths: the parts of a path, and the count over its bytes. No condition. -/
import Derived.Test.YtpgnckjgclbepaaDoorLx
import Derived.Lib.SplitLaws
namespace LexN
open Go
set_option linter.unusedVariables false
set_option linter.unusedSimpArgs false

/-- 1 to 24 bytes that all fit. -/
def cons (p : Nat → Bool) (l : List Nat) : Bool := decide (1 ≤ l.length) && (decide (l.length ≤ 24) && (spn p l 0 == l.length))
def nameB (l : List Nat) : Bool := cons inner l && letter (at' l 0)
def parts : List Nat → List (List Nat)
  | [] => [[]]
  | c :: l => if c = 47 then [] :: parts l else match parts l with | p :: ps => (c :: p) :: ps | [] => [[c]]
theorem parts_ne : ∀ l : List Nat, parts l ≠ []
  | [] => by simp [parts]
  | c :: l => by
    unfold parts
    by_cases h : c = 47
    · rw [if_pos h]; simp
    · rw [if_neg h]; split <;> simp
def pathB (l : List Nat) : Bool := decide (l.length ≤ 80) && (decide ((parts l).length ≤ 8) && (parts l).all (cons part'))
theorem parts_len : ∀ l : List Nat, (parts l).length ≤ l.length + 1
  | [] => by simp [parts]
  | c :: l => by
    have := parts_len l
    unfold parts
    by_cases h : c = 47
    · rw [if_pos h]; simp only [List.length_cons]; omega
    · rw [if_neg h]
      split
      · rename_i p ps he
        rw [he] at this
        simp only [List.length_cons] at this ⊢; omega
      · simp
theorem parts_sub : ∀ (l : List Nat) (p : List Nat), p ∈ parts l → p.length ≤ l.length ∧ ∀ x ∈ p, x ∈ l
  | [], p, h => by
    simp only [parts, List.mem_singleton] at h
    subst h; simp
  | c :: l, p, h => by
    unfold parts at h
    by_cases h1 : c = 47
    · rw [if_pos h1] at h
      rcases List.mem_cons.1 h with rfl | h
      · simp
      · have := parts_sub l p h
        exact ⟨by simp; omega, fun x hx => List.mem_cons_of_mem _ (this.2 x hx)⟩
    · rw [if_neg h1] at h
      split at h
      · rename_i q qs he
        rcases List.mem_cons.1 h with rfl | h
        · have := parts_sub l q (by rw [he]; exact List.mem_cons_self)
          refine ⟨by simp; omega, fun x hx => ?_⟩
          rcases List.mem_cons.1 hx with rfl | hx
          · exact List.mem_cons_self
          · exact List.mem_cons_of_mem _ (this.2 x hx)
        · have := parts_sub l p (by rw [he]; exact List.mem_cons_of_mem _ h)
          exact ⟨by simp; omega, fun x hx => List.mem_cons_of_mem _ (this.2 x hx)⟩
      · simp only [List.mem_singleton] at h
        subst h; simp
theorem spn_whole (p : Nat → Bool) (l : List Nat) : (spn p l 0 == l.length) = l.all p := by
  unfold spn
  rw [List.drop_zero, Nat.zero_add]
  induction l with
  | nil => rfl
  | cons c l ih =>
    by_cases h : p c = true
    · rw [List.takeWhile_cons_of_pos h]
      simp only [List.length_cons, List.all_cons, h, Bool.true_and, ← ih]
      simp
    · rw [List.takeWhile_cons_of_neg h]
      simp [h]
theorem cons_eq (p : Nat → Bool) (l : List Nat) : cons p l = (decide (1 ≤ l.length) && (decide (l.length ≤ 24) && l.all p)) := by unfold cons; rw [spn_whole]
/-- The count over the bytes: parts so far, bytes of the present one. -/
def scan : List Nat → Nat → Nat → Bool
  | [], p, k => decide (0 < k) && decide (p ≤ 8)
  | c :: r, p, k => if c = 47 then (if k = 0 then false else scan r (p + 1) 0) else if part' c = true then (if 24 < k + 1 then false else scan r p (k + 1)) else false
def restB (p k : Nat) : List (List Nat) → Bool
  | [] => false
  | q :: qs => decide (1 ≤ k + q.length) && (decide (k + q.length ≤ 24) && q.all part') && (decide (p + qs.length ≤ 8) && qs.all (cons part'))
theorem scan_eq : ∀ (l : List Nat) (p k : Nat), k ≤ 24 → scan l p k = restB p k (parts l)
  | [], p, k, hk => by
    simp only [scan, parts, restB]
    by_cases h : 0 < k <;> simp [h, hk] <;> omega
  | c :: l, p, k, hk => by
    unfold scan parts
    by_cases h : c = 47
    · rw [if_pos h, if_pos h]
      by_cases h0 : k = 0
      · rw [if_pos h0]; simp [restB, h0]
      · rw [if_neg h0, scan_eq l (p + 1) 0 (by omega)]
        have hk1 : 1 ≤ k := by omega
        obtain ⟨q, qs, he⟩ : ∃ q qs, parts l = q :: qs := by
          match hp : parts l with
          | [] => exact absurd hp (parts_ne l)
          | q :: qs => exact ⟨q, qs, rfl⟩
        rw [he, Bool.eq_iff_iff]
        obtain ⟨A, hA⟩ : ∃ A, A = q.all part' := ⟨_, rfl⟩
        obtain ⟨B, hB⟩ : ∃ B, B = qs.all (cons part') := ⟨_, rfl⟩
        obtain ⟨x, hx⟩ : ∃ x, x = q.length := ⟨_, rfl⟩
        obtain ⟨y, hy⟩ : ∃ y, y = qs.length := ⟨_, rfl⟩
        simp only [restB, List.length_nil, List.all_nil, List.all_cons, List.length_cons, cons_eq part' q, ← hA, ← hB, ← hx, ← hy, Bool.and_eq_true, decide_eq_true_eq]
        constructor
        · rintro ⟨⟨h1, h2, h3⟩, h4, h5⟩
          exact ⟨⟨by omega, by omega, trivial⟩, by omega, ⟨by omega, by omega, h3⟩, h5⟩
        · rintro ⟨-, h4, ⟨h1, h2, h3⟩, h5⟩
          exact ⟨⟨by omega, by omega, h3⟩, by omega, h5⟩
    · rw [if_neg h, if_neg h]
      obtain ⟨q, qs, he⟩ : ∃ q qs, parts l = q :: qs := by
        match hp : parts l with
        | [] => exact absurd hp (parts_ne l)
        | q :: qs => exact ⟨q, qs, rfl⟩
      rw [he]
      simp only
      by_cases hp : part' c = true
      · rw [if_pos hp]
        by_cases h24 : 24 < k + 1
        · rw [if_pos h24]
          have : decide (k + (c :: q).length ≤ 24) = false := by simp; omega
          simp [restB, this]
          intro _ h; omega
        · rw [if_neg h24, scan_eq l p (k + 1) (by omega), he]
          rw [Bool.eq_iff_iff]
          obtain ⟨A, hA⟩ : ∃ A, A = q.all part' := ⟨_, rfl⟩
          obtain ⟨B, hB⟩ : ∃ B, B = qs.all (cons part') := ⟨_, rfl⟩
          obtain ⟨x, hx⟩ : ∃ x, x = q.length := ⟨_, rfl⟩
          simp only [restB, List.length_cons, List.all_cons, hp, ← hA, ← hB, ← hx, Bool.and_eq_true, decide_eq_true_eq]
          constructor
          · rintro ⟨⟨h1, h2, h3⟩, h4, h5⟩
            exact ⟨⟨by omega, by omega, trivial, h3⟩, h4, h5⟩
          · rintro ⟨⟨h1, h2, -, h3⟩, h4, h5⟩
            exact ⟨⟨by omega, by omega, h3⟩, h4, h5⟩
      · rw [if_neg hp]
        simp [restB, hp]
theorem pathB_scan (l : List Nat) : pathB l = (decide (l.length ≤ 80) && scan l 1 0) := by
  unfold pathB
  rw [scan_eq l 1 0 (by omega)]
  obtain ⟨q, qs, he⟩ : ∃ q qs, parts l = q :: qs := by
    match hp : parts l with
    | [] => exact absurd hp (parts_ne l)
    | q :: qs => exact ⟨q, qs, rfl⟩
  rw [he]
  simp only [restB, List.all_cons, List.length_cons, Nat.zero_add, cons_eq]
  rw [show 1 + qs.length = qs.length + 1 by omega]
  cases decide (l.length ≤ 80) <;> cases decide (qs.length + 1 ≤ 8) <;> cases decide (1 ≤ q.length) <;> cases decide (q.length ≤ 24) <;> cases q.all part' <;> simp
/-- The library's split at a slash. -/
theorem split_parts : ∀ (l : List Nat), (∀ x ∈ l, x < 256) → Lib.split (l.map fun n => UInt8.ofNat n) [47] = (parts l).map fun p => p.map fun n => UInt8.ofNat n
  | [], _ => by
    rfl
  | c :: l, hl => by
    have ih := split_parts l (fun x hx => hl x (List.mem_cons_of_mem _ hx))
    have hc := hl c List.mem_cons_self
    obtain ⟨L, hL⟩ : ∃ L, L = l.map fun n => UInt8.ofNat n := ⟨_, rfl⟩
    rw [List.map_cons, ← hL]
    rw [← hL] at ih
    by_cases h : c = 47
    · subst h
      unfold parts
      rw [if_pos rfl]
      show Lib.split (47 :: L) [47] = _
      unfold Lib.split
      rw [Lib.count_cons_eq, Nat.add_comm]
      have hix : Lib.index (47 :: L) [47] = 0 := by rw [Lib.index]; simp [List.isPrefixOf]
      unfold Lib.splitK
      rw [hix]
      show List.take 0 (47 :: L) :: Lib.splitK [47] 0 (Lib.count L [47]) (List.drop 1 (47 :: L)) = _
      rw [List.take_zero, List.drop_one, List.tail_cons]
      rw [List.map_cons, ← ih]
      rfl
    · obtain ⟨b, hb⟩ : ∃ b, b = UInt8.ofNat c := ⟨_, rfl⟩
      have hb47 : b ≠ 47 := by
        intro e
        rw [hb] at e
        have := congrArg UInt8.toNat e
        simp at this
        omega
      rw [← hb]
      unfold parts
      rw [if_neg h]
      unfold Lib.split at ih ⊢
      rw [Lib.count_cons_ne b 47 L hb47]
      obtain ⟨q, qs, he⟩ : ∃ q qs, parts l = q :: qs := by
        match hp : parts l with
        | [] => exact absurd hp (parts_ne l)
        | q :: qs => exact ⟨q, qs, rfl⟩
      rw [he] at ih ⊢
      simp only
      rw [List.map_cons] at ih ⊢
      rw [List.map_cons, ← hb]
      match hk : Lib.count L [47] with
      | 0 =>
        rw [hk] at ih
        simp only [Lib.splitK, List.cons.injEq] at ih ⊢
        exact ⟨⟨trivial, ih.1⟩, ih.2⟩
      | k + 1 =>
        rw [hk] at ih
        have hm : Lib.index L [47] ≠ -1 := fun e => by rw [Lib.count_miss e] at hk; omega
        have hge := Lib.index_ge L [47]
        obtain ⟨j, hj⟩ : ∃ j : Nat, Lib.index L [47] = j := ⟨(Lib.index L [47]).toNat, by omega⟩
        have hp : ([47] : List UInt8).isPrefixOf (b :: L) = false := by simp [List.isPrefixOf, Ne.symm hb47]
        have hix : Lib.index (b :: L) [47] = ((j + 1 : Nat) : Int) := by
          rw [Lib.index, hp]
          simp only [Bool.false_eq_true, if_false]
          rw [if_neg (fun e => hm (beq_iff_eq.1 e)), hj]
          omega
        have hn1 : ¬ (Lib.index L [47] == -1) = true := fun e => hm (beq_iff_eq.1 e)
        have hn2 : ¬ (Lib.index (b :: L) [47] == -1) = true := fun e => by have := beq_iff_eq.1 e; omega
        unfold Lib.splitK at ih ⊢
        rw [if_neg hn1, hj] at ih
        rw [if_neg hn2, hix]
        simp only [Int.toNat_natCast, Nat.add_zero, List.length_singleton, List.cons.injEq] at ih ⊢
        refine ⟨by rw [List.take_succ_cons, ih.1], ?_⟩
        rw [show j + 1 + 1 = (j + 1) + 1 by omega, List.drop_succ_cons]
        exact ih.2
end LexN
