/- Contracts of Bits and Uint, and of the helper that trims a law's input. Conditions: the slices hold the digits that are named. -/
import Derived.Test.YtdoponlhiidimaaGreatDoorMRm
import Derived.Laws.BitsAllLaws
namespace Go.Proofs.YtdoponlhiidimaaGreatDoor
open Go.RowKit LimbN
/-- The number of binary digits of a list of digits whose last one is not 0. -/
def bitsL (xs : List Nat) : Nat := if xs.length = 0 then 0 else 32 * (xs.length - 1) + Lib.bitLen (xs[xs.length - 1]?.getD 0)
def bitsW (xs : List Nat) : Nat := if wf xs then bitsL xs else 0
theorem bitLen_top {xs : List Nat} (h : Lt xs) (i : Nat) : Lib.bitLen (xs[i]?.getD 0) ≤ 32 := Lib.bitLen_le _ 32 (by omega) (by have := h i; omega)
/-- What Uint says. -/
def uintOk (xs : List Nat) : Bool := wf xs && decide (xs.length ≤ 2)
def uintV (xs : List Nat) : Nat := if uintOk xs then val xs else 0
theorem or_limbs {x y : Nat} (h : x < 4294967296) : x ||| y * 4294967296 = x + 4294967296 * y := by
  have := Nat.shiftLeft_add_eq_or_of_lt (i := 32) (b := x) (show x < 2 ^ 32 by omega) y
  rw [Nat.shiftLeft_eq] at this
  rw [Nat.or_comm, ← show 2 ^ 32 = 4294967296 by rfl, ← this]
  omega
theorem or_u64 {x y : Nat} (hx : x < 4294967296) (hy : y < 4294967296) : bits .or .u64 ((y : Int) * 4294967296) (x : Int) = ((x + 4294967296 * y : Nat) : Int) := by
  have e : ((y : Int) * 4294967296) = ((y * 4294967296 : Nat) : Int) := by omega
  rw [e, u64_or_nat _ _ (by omega) (by omega), Nat.or_comm, or_limbs hx]
theorem or_u64' {x y : Nat} (hx : x < 4294967296) (hy : y < 4294967296) : bits .or .u64 (x : Int) ((y : Int) * 4294967296) = ((x + 4294967296 * y : Nat) : Int) := by
  have e : ((y : Int) * 4294967296) = ((y * 4294967296 : Nat) : Int) := by omega
  rw [e, u64_or_nat _ _ (by omega) (by omega), or_limbs hx]
theorem or_zero' {x : Nat} (hx : x < 4294967296) : bits .or .u64 0 (x : Int) = (x : Int) := by
  have := u64_or_nat 0 x (by omega) (by omega)
  simpa using this
theorem bits_le {xs : List Nat} (h : Lt xs) (hw : wf xs = true) : bitsW xs ≤ 64 ↔ xs.length ≤ 2 := by
  unfold bitsW bitsL
  rw [hw]
  simp only [if_true]
  by_cases h0 : xs.length = 0
  · rw [if_pos h0]; omega
  · rw [if_neg h0]
    have h1 := bitLen_top h (xs.length - 1)
    have h2 : Lib.bitLen (xs[xs.length - 1]?.getD 0) ≠ 0 := by
      intro hz
      have hne : xs[xs.length - 1]?.getD 0 ≠ 0 := by
        have := wf_pos (xs := xs) (by omega)
        rw [this] at hw
        simp only [Bool.and_eq_true, Bool.not_eq_true', beq_eq_false_iff_ne] at hw
        exact hw.2
      have := Lib.bitLen_half _ hne (by have := h (xs.length - 1); omega)
      omega
    omega
-- the laws' own trimmed
def lenOf : Value → Nat | .slice _ n _ => n | _ => 0
end Go.Proofs.YtdoponlhiidimaaGreatDoor
