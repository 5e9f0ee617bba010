/- What WireFrames calls: both sides of Frame and Next at any kind and place; a byte in new memory. -/
import Derived.Test.YtnjgnmfngcifpaaWRFrame
import Derived.Test.YtnjgnmfngcifpaaWSameF
import Derived.Laws.OwnMore
namespace Go.Proofs.Ytnjgnmfngcifpaa
namespace By
open Go.RowKit Go.Shelf WireN
set_option linter.unusedVariables false
set_option linter.unusedSimpArgs false

/-- The bytes and the error of a frame of any kind. -/
def frB (k : Int) (ys : List Nat) : List Nat := if k < 1 ∨ 255 < k then [] else fr k.toNat ys
def frE (k : Int) : Nat := if k < 1 ∨ 255 < k then 3 else 0
theorem frB_len (k : Int) {ys : List Nat} (h : ys.length ≤ 600) : (frB k ys).length ≤ 620 := by
  unfold frB
  split
  · simp
  · have := uv_ten (n := ys.length) (by omega)
    rw [fr_len]; omega
structure FrR (F : List Nat) (E : Nat) (w : World) (e : Ending) (w' : World) : Prop where
  ex : ∃ v', e = .returned (.tuple #[v', .int .i64 (E : Nat)]) ∧ Sl w' v' F
  kp : Kp w w'
theorem Frame_both {v : Value} {xs : List Nat} {w : World} (hs : Sl w v xs) (k : Int) (hk : -9223372036854775808 ≤ k ∧ k ≤ 9223372036854775807) (h : xs.length ≤ 600) :
    Calls Try.prog 6 #[.agg #[.int .i64 k, v]] w (FrR (frB k xs) (frE k) w) := by
  unfold frB frE
  by_cases hr : k < 1 ∨ 255 < k
  · rw [if_pos hr, if_pos hr]
    exact (Frame_range hs k hk hr).mono fun e w' h => ⟨⟨_, h.1, Sl.nil _⟩, h.2⟩
  · rw [if_neg hr, if_neg hr]
    obtain ⟨n, rfl⟩ : ∃ n : Nat, k = n := ⟨k.toNat, by omega⟩
    rw [Int.toNat_natCast]
    exact (Frame_ok hs n (by omega) (by omega) (by omega)).mono fun e w' h => ⟨⟨h.1.choose, h.1.choose_spec.1, h.1.choose_spec.2.1⟩, h.2⟩
theorem rFrame_both {v : Value} {xs : List Nat} {w : World} (hs : Sl w v xs) (k : Int) (hk : -9223372036854775808 ≤ k ∧ k ≤ 9223372036854775807) (h : xs.length ≤ 600) :
    Calls Try.prog 7 #[.agg #[.int .i64 k, v]] w (FrR (frB k xs) (frE k) w) := by
  unfold frB frE
  by_cases hr : k < 1 ∨ 255 < k
  · rw [if_pos hr, if_pos hr]
    exact (rFrame_range hs k hk hr).mono fun e w' h => ⟨⟨_, h.1, Sl.nil _⟩, h.2⟩
  · rw [if_neg hr, if_neg hr]
    obtain ⟨n, rfl⟩ : ∃ n : Nat, k = n := ⟨k.toNat, by omega⟩
    rw [Int.toNat_natCast]
    exact (rFrame_ok hs n (by omega) (by omega) (by omega)).mono fun e w' h => ⟨⟨h.1.choose, h.1.choose_spec.1, h.1.choose_spec.2.1⟩, h.2⟩
theorem Next_all {v : Value} {xs : List Nat} {w : World} (hs : Sl w v xs) (i : Int) (hi : -9223372036854775808 ≤ i ∧ i ≤ 9223372036854775807) :
    Calls Try.prog 11 #[v, .int .i64 i] w (NxR xs i w) := by
  by_cases h : i < 0 ∨ (xs.length : Int) < i
  · exact Next_range hs i hi h
  · obtain ⟨n, rfl⟩ : ∃ n : Nat, i = n := ⟨i.toNat, by omega⟩
    exact Next_in hs n (by omega)
theorem rNext_all {v : Value} {xs : List Nat} {w : World} (hs : Sl w v xs) (i : Int) (hi : -9223372036854775808 ≤ i ∧ i ≤ 9223372036854775807) (hsm : xs.length ≤ 1000000) :
    Calls Try.prog 12 #[v, .int .i64 i] w (NxR xs i w) := by
  by_cases h : i < 0 ∨ (xs.length : Int) < i
  · exact rNext_range hs i hi h
  · obtain ⟨n, rfl⟩ : ∃ n : Nat, i = n := ⟨i.toNat, by omega⟩
    exact rNext_in hs n (by omega) hsm
theorem Own.fresh (w : World) (d : Nat) (hd : d < 256) : Own w (w.alloc (.cells #[.int .u8 (d : Nat)] 5)) (.slice (some ⟨w.heap.size, 0, none⟩) 1 1) [d] :=
  ⟨World.ownsRow_lit w #[.int .u8 (d : Nat)] 1 (Nat.le_refl _) (by unfold maxLen; omega) rfl, Lt.one hd, kp_alloc _ _⟩
end By
end Go.Proofs.Ytnjgnmfngcifpaa
