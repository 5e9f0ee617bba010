/- The law on sums, differences, products, quotients and the order of fractions: it returns true for all lists of digits. Condition: the library's table of powers of ten holds what its text lays. -/
import Derived.Test.YtdoponlhiidimaaGreatDoorBoth
import Derived.Test.YtdoponlhiidimaaGreatDoorFrc
import Derived.Test.YtdoponlhiidimaaGreatDoorRow
namespace Go.Proofs.YtdoponlhiidimaaGreatDoor
open Go.RowKit LimbN
set_option linter.unusedVariables false
set_option linter.unusedSimpArgs false

theorem frN_len {xs ys : List Nat} (hx : Lt xs) (o : Int) : (frN xs ys o).length ≤ 8 := by
  unfold frN
  split
  · rw [List.length_take]; omega
  · exact Nat.le_trans (limbs_mono (FracN.low_le_self _ _).1) (limbs_take hx)
theorem frD_len {xs ys : List Nat} (hy : Lt ys) (o : Int) : (frD xs ys o).length ≤ 8 := by
  unfold frD
  split
  · rw [List.length_take]; omega
  · refine Nat.le_trans (limbs_mono (FracN.low_le_self _ _).2) ?_
    split
    · decide
    · exact limbs_take hy
theorem tdiv7 {o : Int} (ho : -9223372036854775808 ≤ o ∧ o ≤ 9223372036854775807) : -9223372036854775808 ≤ o.tdiv 7 ∧ o.tdiv 7 ≤ 9223372036854775807 := by
  by_cases h : 0 ≤ o
  · obtain ⟨n, rfl⟩ : ∃ n : Nat, o = n := ⟨o.toNat, by omega⟩
    have e : (n : Int).tdiv 7 = ((n / 7 : Nat) : Int) := rfl
    rw [e]
    omega
  · obtain ⟨n, rfl⟩ : ∃ n : Nat, o = -(n : Int) := ⟨(-o).toNat, by omega⟩
    have e : (-(n : Int)).tdiv 7 = -((n / 7 : Nat) : Int) := by rw [Int.neg_tdiv]; rfl
    rw [e]
    omega
end Go.Proofs.YtdoponlhiidimaaGreatDoor
