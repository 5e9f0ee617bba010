/- The reference's Checksum and Frame. Conditions: the slices hold the bytes that are named. -/
import Derived.Test.YtnjgnmfngcifpaaWRefT
namespace Go.Proofs.Ytnjgnmfngcifpaa
namespace By
open Go.RowKit WireN
set_option linter.unusedVariables false
set_option linter.unusedSimpArgs false

set_option maxRecDepth 100000 in
set_option maxHeartbeats 1000000 in
theorem rChecksum_any {v : Value} {xs : List Nat} {w : World} (hs : Sl w v xs) :
    Calls Try.prog 10 #[v] w fun e w' => e = .returned (.int .u32 (ck xs : Nat)) ∧ w = w' := by
  obtain ⟨ao, cap, rfl, hc, hm, hno⟩ := hs.open3
  obtain ⟨len, hlen⟩ : ∃ len, len = xs.length := ⟨_, rfl⟩
  rw [← hlen] at hs hc ⊢
  have hlm : len ≤ 140737488355328 := by have := hs.sm; omega
  have HS := Lib.hid hs; have HL := Lib.hid hlen
  clear hs hlen hno hm hc
  go_enter Try.func10, Try.ntmps10
  go_wp2_with fail
  go_loop [5, 3, 4] (fun i a b => ∃ k : Nat, k ≤ len ∧ i = .int .i64 k ∧ a = .int .u32 ((ab (xs.take k)).1 : Nat) ∧ b = .int .u32 ((ab (xs.take k)).2 : Nat)) (fun i _ _ => len - (intOf i).toNat)
  case atStart => exact ⟨0, Nat.zero_le _, rfl, rfl, rfl⟩
  case round =>
    obtain ⟨k, hk, rfl, rfl, rfl⟩ := hrel
    obtain ⟨hA, hB⟩ := ab_lt (xs.take k)
    by_cases hkl : k < len
    · obtain ⟨b, off, rfl, hcell⟩ := sl_cell HS.out (by omega)
      have hc1 := hcell k hkl
      clear hcell
      have hxb := HS.out.lt k
      obtain ⟨x, ex⟩ : ∃ x, x = xs[k]?.getD 0 := ⟨_, rfl⟩
      rw [← ex] at hc1 hxb
      have hsn : ab (xs.take (k + 1)) = stp (ab (xs.take k)) x := by rw [take_snoc (by have := HL.out; omega), ab_snoc, ex]
      obtain ⟨⟨A, B⟩, hAB⟩ : ∃ p, p = ab (xs.take k) := ⟨_, rfl⟩
      rw [← hAB] at hsn hA hB ⊢
      simp only at hA hB ⊢
      have hA' : (A : Int) < 65521 := by omega
      have hB' : (B : Int) < 65521 := by omega
      have FIN : Hid (ab (xs.take (k + 1)) = ((A + x) % 65521, (B + (A + x) % 65521) % 65521)) := by show _ = _; rw [hsn]; rfl
      clear hsn hAB ex hA hB
      go_wp2_with fail
      go_round
      case rel => exact ⟨k + 1, by omega, by go_num, by rw [FIN.out]; show _ = Value.int .u32 (((A + x) % 65521 : Nat) : Int); exact vint (by omega), by rw [FIN.out]; show _ = Value.int .u32 (((B + (A + x) % 65521) % 65521 : Nat) : Int); exact vint (by omega)⟩
      case measure => simp [intOf]; omega
    · have FIN : Hid (xs.take k = xs) := List.take_of_length_le (by have := HL.out; omega)
      rw [FIN.out] at hA hB ⊢
      have FCK : Hid (ck xs = (ab xs).1 + 65536 * (ab xs).2) := rfl
      obtain ⟨A, hA'⟩ : ∃ A, A = (ab xs).1 := ⟨_, rfl⟩
      obtain ⟨B, hB'⟩ : ∃ B, B = (ab xs).2 := ⟨_, rfl⟩
      rw [← hA'] at hA FCK ⊢
      rw [← hB'] at hB FCK ⊢
      have hA2 : (A : Int) < 65521 := by omega
      have hB2 : (B : Int) < 65521 := by omega
      clear hA' hB' hA hB
      go_wp2_with fail
      go_ret
      exact ⟨ret_int (by rw [FCK.out]; omega), rfl⟩
end By
end Go.Proofs.Ytnjgnmfngcifpaa
