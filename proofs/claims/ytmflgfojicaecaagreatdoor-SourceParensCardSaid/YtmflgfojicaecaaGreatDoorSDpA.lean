/- What the deep texts are read as. No condition. -/
import Derived.Test.YtmflgfojicaecaaGreatDoorSSpec
namespace SrcN
open LexN
/-- What a text begins with up to the body of a test. -/
def preD : List Nat := [112, 97, 99, 107, 97, 103, 101, 32, 112, 59, 32, 116, 101, 115, 116, 32, 116, 32, 61, 32]
def opn (c : Nat) : List Nat := if c = 0 then [40] else if c = 1 then [102, 40] else [105, 102, 32, 49, 32, 116, 104, 101, 110, 32, 49, 32, 101, 108, 115, 101, 32]
def cls (c : Nat) : List Nat := if c = 2 then [] else [41]
def deepT (c : Nat) : Nat → List Nat
  | 0 => [49]
  | k + 1 => opn c ++ deepT c k ++ cls c
def plusT : Nat → List Nat
  | 0 => [49]
  | m + 1 => plusT m ++ [43, 49]
def errOf (n : Nat) (l : List Nat) : Option Nat := (parse n l).map (·.2.2)
set_option maxRecDepth 100000 in
theorem deep_0 : ∀ j, j < 4 → errOf 300 (preD ++ deepT 0 (30 + j) ++ [59]) = some (if 30 + j < 32 then 0 else 2) := by decide +kernel
set_option maxRecDepth 100000 in
theorem deep_1 : ∀ j, j < 4 → errOf 300 (preD ++ deepT 1 (30 + j) ++ [59]) = some (if 30 + j < 32 then 0 else 2) := by decide +kernel
set_option maxRecDepth 100000 in
theorem deep_2 : ∀ j, j < 4 → errOf 300 (preD ++ deepT 2 (30 + j) ++ [59]) = some (if 30 + j < 32 then 0 else 2) := by decide +kernel
set_option maxRecDepth 100000 in
theorem plus_ok : ∀ j, j < 3 → errOf 600 (preD ++ plusT (127 + j) ++ [59]) = some (if 2 * (127 + j) + 1 ≤ 256 then 0 else 2) := by decide +kernel
theorem deep_all {c j : Nat} (hc : c < 3) (hj : j < 4) : ∃ R, parse 300 (preD ++ deepT c (30 + j) ++ [59]) = some R ∧ R.2.2 = if 30 + j < 32 then 0 else 2 := by
  have h : errOf 300 (preD ++ deepT c (30 + j) ++ [59]) = some (if 30 + j < 32 then 0 else 2) := by
    obtain rfl | rfl | rfl : c = 0 ∨ c = 1 ∨ c = 2 := by omega
    · exact deep_0 j hj
    · exact deep_1 j hj
    · exact deep_2 j hj
  unfold errOf at h
  obtain ⟨R, h1, h2⟩ := Option.map_eq_some_iff.1 h
  exact ⟨R, h1, h2⟩
theorem plus_all {j : Nat} (hj : j < 3) : ∃ R, parse 600 (preD ++ plusT (127 + j) ++ [59]) = some R ∧ R.2.2 = if 2 * (127 + j) + 1 ≤ 256 then 0 else 2 := by
  have h := plus_ok j hj
  unfold errOf at h
  obtain ⟨R, h1, h2⟩ := Option.map_eq_some_iff.1 h
  exact ⟨R, h1, h2⟩
theorem deepT_len (c : Nat) : ∀ k, (deepT c k).length ≤ 1 + 18 * k
  | 0 => by simp [deepT]
  | k + 1 => by
    have := deepT_len c k
    have h1 : (opn c).length ≤ 17 := by unfold opn; split <;> (try split) <;> simp
    have h2 : (cls c).length ≤ 1 := by unfold cls; split <;> simp
    simp only [deepT, List.length_append]; omega
theorem plusT_len : ∀ m, (plusT m).length = 1 + 2 * m
  | 0 => rfl
  | m + 1 => by
    have := plusT_len m
    simp only [plusT, List.length_append, List.length_cons, List.length_nil]; omega
end SrcN
