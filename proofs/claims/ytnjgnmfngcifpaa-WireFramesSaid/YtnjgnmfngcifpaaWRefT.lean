/- The reference's Text: a string that is read at any place. Conditions: the slice holds the bytes that are named, 64-bit integers. -/
import Derived.Test.YtnjgnmfngcifpaaWRefU
namespace Go.Proofs.Ytnjgnmfngcifpaa
namespace By
open Go.RowKit WireN
theorem st_inj' {xs ys : List Nat} (hx : Lt xs) (hy : Lt ys) : ((st xs).toList == (st ys).toList) = decide (xs = ys) := by
  rw [Bool.eq_iff_iff, beq_iff_eq, decide_eq_true_eq, st_inj hx hy]
set_option maxRecDepth 100000 in
set_option maxHeartbeats 1000000 in
theorem Same_any {va vb : Value} {xs ys : List Nat} {w : World} (ha : Sl w va xs) (hb : Sl w vb ys) :
    Calls Try.prog 8 #[va, vb] w fun e w' => e = .returned (.bool (decide (xs = ys))) ∧ w = w' := by
  have ca := conv_str ha
  have cb := conv_str hb
  have HBQ := Lib.hid (st_inj' ha.lt hb.lt)
  obtain ⟨sa, hsa⟩ : ∃ sa, sa = st xs := ⟨_, rfl⟩
  obtain ⟨sb, hsb⟩ : ∃ sb, sb = st ys := ⟨_, rfl⟩
  rw [← hsa] at ca HBQ
  rw [← hsb] at cb HBQ
  clear ha hb hsa hsb
  go_enter Try.func8, Try.ntmps8
  go_wp2_with fail
  go_ret
  exact ⟨ret_bool HBQ.out, rfl⟩
end By
end Go.Proofs.Ytnjgnmfngcifpaa
