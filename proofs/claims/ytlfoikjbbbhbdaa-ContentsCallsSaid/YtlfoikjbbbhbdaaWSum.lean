/- The program's Checksum and its four bytes. Condition: the slice holds the bytes that are named. -/
import Derived.Test.YtlfoikjbbbhbdaaMUi
import Derived.Test.YtlfoikjbbbhbdaaWFm
namespace Go.Proofs.Ytlfoikjbbbhbdaa
namespace By
open Go.RowKit WireN
set_option linter.unusedVariables false
set_option linter.unusedSimpArgs false

set_option maxRecDepth 100000 in
set_option maxHeartbeats 400000 in
theorem reduced_any (n : Nat) (hn : n < 131042) (w : World) : Calls Try.prog 62 #[.int .u32 n] w fun e w' => e = .returned (.int .u32 (n % 65521 : Nat)) ∧ w = w' := by
  have hn' : (n : Int) < 131042 := by omega
  have key : 65521 ≤ (n : Int) ∨ ((n : Int) ≤ 65520 ∧ n % 65521 = n) := by omega
  clear hn
  rcases key with h | ⟨h, hm⟩
  · go_enter Try.func62, Try.ntmps62
    go_wp2
    go_ret
    exact ⟨ret_int (by omega), rfl⟩
  · have HM := Lib.hid hm
    have hd : decide ((65521 : Int) ≤ (n : Int)) = false := decide_eq_false (by omega)
    clear hm h hn'
    go_enter Try.func62, Try.ntmps62
    go_wp2
    go_ret
    exact ⟨ret_int (by rw [HM.out]), rfl⟩

theorem u32_toNat (a : Nat) (h : a < 4294967296) : (BitVec.ofInt 32 (a : Int)).toNat = a := by
  rw [BitVec.ofInt_natCast, BitVec.toNat_ofNat]; exact Nat.mod_eq_of_lt (by omega)
theorem u32_or_up (a b : Nat) (ha : a < 65536) (hb : b < 65536) : bits .or .u32 (a : Int) ((b : Int) * 65536) = ((a + 65536 * b : Nat) : Int) := by
  have e : ((b : Int) * 65536) = ((b * 65536 : Nat) : Int) := by omega
  rw [e]
  show IntKind.u32.wrap ((BitVec.ofInt 32 (a : Int) ||| BitVec.ofInt 32 ((b * 65536 : Nat) : Int)).toNat : Int) = _
  rw [BitVec.toNat_or, u32_toNat a (by omega), u32_toNat (b * 65536) (by omega)]
  have h1 := Nat.shiftLeft_add_eq_or_of_lt (b := a) (i := 16) (by omega) b
  rw [Nat.shiftLeft_eq, show (2 : Nat) ^ 16 = 65536 from rfl] at h1
  rw [Nat.or_comm, ← h1]
  show (((b * 65536 + a : Nat) : Int)) % 4294967296 = _
  omega

set_option maxRecDepth 100000 in
set_option maxHeartbeats 1000000 in
theorem Checksum_any {v : Value} {xs : List Nat} {w : World} (hs : Sl w v xs) :
    Calls Try.prog 58 #[v] w fun e w' => e = .returned (.int .u32 (ck xs : Nat)) ∧ w = w' := by
  obtain ⟨ao, cap, rfl, hc, hm, hno⟩ := hs.open3
  obtain ⟨len, hlen⟩ : ∃ len, len = xs.length := ⟨_, rfl⟩
  rw [← hlen] at hs hc ⊢
  have hlm : len ≤ 140737488355328 := by have := hs.sm; omega
  have HS := Lib.hid hs; have HL := Lib.hid hlen
  clear hs hlen hno hm hc
  go_enter Try.func58, Try.ntmps58
  go_wp2_with fail
  go_loop [9, 3, 4] (fun i a b => ∃ k : Nat, k ≤ len ∧ i = .int .i64 k ∧ a = .int .u32 ((ab (xs.take k)).1 : Nat) ∧ b = .int .u32 ((ab (xs.take k)).2 : Nat)) (fun i _ _ => len - (intOf i).toNat)
  case atStart => exact ⟨0, Nat.zero_le _, rfl, rfl, rfl⟩
  case round =>
    obtain ⟨k, hk, rfl, rfl, rfl⟩ := hrel
    obtain ⟨hA, hB⟩ := ab_lt (xs.take k)
    by_cases hkl : k < len
    · obtain ⟨b, off, rfl, hcell⟩ := sl_cell HS.out (by omega)
      have hc1 := hcell k hkl
      clear hcell
      have hxb := HS.out.lt k
      obtain ⟨x, ex⟩ : ∃ x, x = xs[k]?.getD 0 := ⟨_, rfl⟩
      rw [← ex] at hc1 hxb
      have hsn : ab (xs.take (k + 1)) = stp (ab (xs.take k)) x := by rw [take_snoc (by have := HL.out; omega), ab_snoc, ex]
      obtain ⟨⟨A, B⟩, hAB⟩ : ∃ p, p = ab (xs.take k) := ⟨_, rfl⟩
      rw [← hAB] at hsn hA hB ⊢
      simp only at hA hB ⊢
      have HSN := Lib.hid hsn
      clear hsn hAB ex
      go_wp2_with fail
      refine (reduced_any (A + x) (by omega) _).mono ?_
      rintro e w' ⟨rfl, rfl⟩
      obtain ⟨A', hA'⟩ : ∃ A', A' = (A + x) % 65521 := ⟨_, rfl⟩
      have hA'b : A' < 65521 := by omega
      rw [← hA']
      have HA' := Lib.hid hA'; clear hA'
      go_wp2_with fail
      refine (reduced_any (B + A') (by omega) _).mono ?_
      rintro e w' ⟨rfl, rfl⟩
      have FIN : Hid (ab (xs.take (k + 1)) = (A', (B + A') % 65521)) := by show _ = _; rw [HSN.out, HA'.out]; rfl
      go_wp2_with fail
      go_round
      case rel => exact ⟨k + 1, by omega, by go_num, by rw [FIN.out], by rw [FIN.out]; show _ = Value.int .u32 (((B + A') % 65521 : Nat) : Int); exact vint (by omega)⟩
      case measure => simp [intOf]; omega
    · have FIN : Hid (xs.take k = xs) := List.take_of_length_le (by have := HL.out; omega)
      rw [FIN.out] at hA hB ⊢
      have FCK : Hid (ck xs = (ab xs).1 + 65536 * (ab xs).2) := rfl
      obtain ⟨A, hA'⟩ : ∃ A, A = (ab xs).1 := ⟨_, rfl⟩
      obtain ⟨B, hB'⟩ : ∃ B, B = (ab xs).2 := ⟨_, rfl⟩
      rw [← hA'] at hA FCK ⊢
      rw [← hB'] at hB FCK ⊢
      have HO := Lib.hid (u32_or_up A B (by omega) (by omega))
      clear hA' hB'
      go_wp2_with fail
      go_ret
      exact ⟨ret_int (by rw [FCK.out]; exact HO.out), rfl⟩

set_option maxRecDepth 100000 in
set_option maxHeartbeats 1000000 in
theorem sumOf_any {v : Value} {xs : List Nat} {w : World} (hs : Sl w v xs) :
    Calls Try.prog 51 #[v] w fun e w' => (∃ v', e = .returned v' ∧ Sl w' v' (le4 (ck xs)) ∧ New w.heap.size v') ∧ Kp w w' := by
  have HS := Lib.hid hs; clear hs
  have hc := ck_lt xs
  obtain ⟨c, ec⟩ : ∃ c, c = ck xs := ⟨_, rfl⟩
  have EC := Lib.hid ec
  rw [← ec] at hc ⊢
  clear ec
  go_enter Try.func51, Try.ntmps51
  go_wp2_with fail
  refine (Checksum_any HS.out).mono ?_
  rintro e w' ⟨rfl, rfl⟩
  rw [← EC.out]
  go_wp2_with fail
  go_ret
  refine ⟨⟨_, rfl, sl_new (le4 c) (le4_lt c) ?_ 4 rfl (by omega), ?_⟩, kp_alloc _ _⟩
  · simp [U, le4] <;> omega
  · intro a l cp h
    have h' : Value.slice (some ⟨w.heap.size, 0, none⟩) 4 4 = Value.slice (some a) l cp := h
    simp only [Value.slice.injEq, Option.some.injEq] at h'
    rw [← h'.1]
    exact Nat.le_refl _
end By
end Go.Proofs.Ytlfoikjbbbhbdaa
