/- What the texts of the statement on parentheses are read as. Condition: the numbers are below 65536. -/
import Derived.Test.YtmflgfojicaecaaGreatDoorSPq
import Derived.Test.YtmflgfojicaecaaGreatDoorSDpA
namespace SrcN
open LexN
set_option linter.unusedVariables false
set_option linter.unusedSimpArgs false

theorem opW_len (i : Nat) : (opW i).length ≤ 2 := by
  unfold opW
  repeat' split
  all_goals simp
theorem parse_ps {ps : List Pc} {R : SrcN.Src × Nat × Nat} (h : okPs ps) (hl : (bytes ps).length ≤ 16384) (hp : ∀ L, parseT 60 (place ps 0 ++ [(5, [], 0, L)]) = some R) : parse 60 (bytes ps) = some R := by
  unfold parse
  rw [toks_ps h hl, if_pos rfl]
  exact hp _
theorem parse1 {i k X Y Z : Nat} {p q r : List Nat} (hi : i < 7) (hk : k < 7) (hc : ¬ (lvl i = 1 ∧ lvl k = 1)) (hp : DigL p X) (hq : DigL q Y) (hr : DigL r Z) :
    parse 60 (preD ++ (p ++ [32] ++ opW i ++ [32] ++ q ++ [32] ++ opW k ++ [32] ++ r) ++ [59]) = some (srcP i k X Y Z, 0, 0) := by
  have e : preD ++ (p ++ [32] ++ opW i ++ [32] ++ q ++ [32] ++ opW k ++ [32] ++ r) ++ [59] = bytes (preP 32 ++ (plainP i k p q r X Y Z ++ [pS 59])) := by
    simp [bytes, Pc.bytes, preP, plainP, pn, po, pS, pW, preD]
  have l1 := hp.len; have l2 := hq.len; have l3 := hr.len; have l4 := opW_len i; have l5 := opW_len k
  have hl : (preD ++ (p ++ [32] ++ opW i ++ [32] ++ q ++ [32] ++ opW k ++ [32] ++ r) ++ [59]).length ≤ 16384 := by
    simp only [List.length_append, List.length_cons, List.length_nil, preD]; omega
  rw [e] at hl ⊢
  refine parse_ps (ok_pre rfl _ (ok_plain hi hk hp hq hr _ ⟨ok_sign (by decide) (fun e => by cases e), trivial⟩ rfl)) hl (fun L => ?_)
  exact pP hi hk hc (.inl rfl)
theorem parse3 {i k X Y Z : Nat} {p q r : List Nat} (hi : i < 7) (hk : k < 7) (hc : ¬ (lvl i = 1 ∧ lvl k = 1)) (hp : DigL p X) (hq : DigL q Y) (hr : DigL r Z) :
    parse 60 (bytes (preP 10 ++ (plainP i k p q r X Y Z ++ [pS 59, .bl 10]))) = some (srcP i k X Y Z, 0, 0) := by
  have e : preD.take 10 ++ [10] ++ preD.drop 11 ++ (p ++ [32] ++ opW i ++ [32] ++ q ++ [32] ++ opW k ++ [32] ++ r) ++ [59, 10] = bytes (preP 10 ++ (plainP i k p q r X Y Z ++ [pS 59, .bl 10])) := by
    simp [bytes, Pc.bytes, preP, plainP, pn, po, pS, pW, preD]
  have l1 := hp.len; have l2 := hq.len; have l3 := hr.len; have l4 := opW_len i; have l5 := opW_len k
  have hl : (preD.take 10 ++ [10] ++ preD.drop 11 ++ (p ++ [32] ++ opW i ++ [32] ++ q ++ [32] ++ opW k ++ [32] ++ r) ++ [59, 10]).length ≤ 16384 := by
    simp only [List.length_append, List.length_cons, List.length_nil, preD, List.length_take, List.length_drop]; omega
  rw [e] at hl
  refine parse_ps (ok_pre rfl _ (ok_plain hi hk hp hq hr _ ⟨ok_sign (by decide) (fun e => by cases e), rfl, trivial⟩ rfl)) hl (fun L => ?_)
  exact pP hi hk hc (.inr rfl)
theorem text3 {i k X Y Z : Nat} (p q r : List Nat) : bytes (preP 10 ++ (plainP i k p q r X Y Z ++ [pS 59, .bl 10])) = [112, 97, 99, 107, 97, 103, 101, 32, 112, 59, 10, 116, 101, 115, 116, 32, 116, 32, 61, 32] ++ (p ++ [32] ++ opW i ++ [32] ++ q ++ [32] ++ opW k ++ [32] ++ r) ++ [59, 10] := by
  simp [bytes, Pc.bytes, preP, plainP, pn, po, pS, pW]
/-- What stands within the outer parentheses. -/
def fullT (i k : Nat) (p q r : List Nat) : List Nat := if lvl i < lvl k then p ++ opW i ++ [40] ++ q ++ opW k ++ r ++ [41] else [40] ++ p ++ opW i ++ q ++ [41] ++ opW k ++ r
theorem parse2 {i k X Y Z : Nat} {p q r : List Nat} (hi : i < 7) (hk : k < 7) (hc : ¬ (lvl i = 1 ∧ lvl k = 1)) (hp : DigL p X) (hq : DigL q Y) (hr : DigL r Z) :
    parse 60 ((preD ++ [40, 40]) ++ fullT i k p q r ++ [41, 41, 59]) = some (srcP i k X Y Z, 0, 0) := by
  have e : (preD ++ [40, 40]) ++ fullT i k p q r ++ [41, 41, 59] = bytes (preP 32 ++ ((if lvl i < lvl k then fullR i k p q r X Y Z else fullL i k p q r X Y Z) ++ [pS 59])) := by
    unfold fullT
    by_cases h : lvl i < lvl k
    · simp only [if_pos h]
      simp [bytes, Pc.bytes, preP, fullR, pn, po, pS, pW, preD]
    · simp only [if_neg h]
      simp [bytes, Pc.bytes, preP, fullL, pn, po, pS, pW, preD]
  have l1 := hp.len; have l2 := hq.len; have l3 := hr.len; have l4 := opW_len i; have l5 := opW_len k
  have hl : ((preD ++ [40, 40]) ++ fullT i k p q r ++ [41, 41, 59]).length ≤ 16384 := by
    unfold fullT
    split <;> (simp only [List.length_append, List.length_cons, List.length_nil, preD]; omega)
  rw [e] at hl ⊢
  refine parse_ps (ok_pre rfl _ ?_) hl (fun L => pF hi hk hc)
  by_cases h : lvl i < lvl k
  · rw [if_pos h]
    exact ok_fullR hi hk hp hq hr _ ⟨ok_sign (by decide) (fun e => by cases e), trivial⟩
  · rw [if_neg h]
    exact ok_fullL hi hk hp hq hr _ ⟨ok_sign (by decide) (fun e => by cases e), trivial⟩
/-- Comparisons cannot be chained. -/
theorem parse0 {i k : Nat} (hi : i < 7) (hk : k < 7) (hc : lvl i = 1 ∧ lvl k = 1) : ∃ R, parse 60 ((preD ++ [49, 32]) ++ opW i ++ [32, 50, 32] ++ opW k ++ [32, 51, 59]) = some R ∧ R.2.2 = 9 := by
  have h : errOf 60 ((preD ++ [49, 32]) ++ opW i ++ [32, 50, 32] ++ opW k ++ [32, 51, 59]) = some 9 := by
    have h1 : i = 5 ∨ i = 6 := by
      have := hc.1
      unfold lvl at this
      repeat' split at this
      all_goals omega
    have h2 : k = 5 ∨ k = 6 := by
      have := hc.2
      unfold lvl at this
      repeat' split at this
      all_goals omega
    rcases h1 with rfl | rfl <;> rcases h2 with rfl | rfl
    · decide +kernel
    · decide +kernel
    · decide +kernel
    · decide +kernel
  unfold errOf at h
  obtain ⟨R, h1, h2⟩ := Option.map_eq_some_iff.1 h
  exact ⟨R, h1, h2⟩
end SrcN
