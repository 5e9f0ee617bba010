/- The program's Uint, Int and Text: what is read at any place. Conditions: the slice holds the bytes that are named, 64-bit integers. -/
import Derived.Test.YtlfoikjbbbhbdaaWPut
namespace Go.Proofs.Ytlfoikjbbbhbdaa
namespace By
open Go.RowKit WireN
set_option linter.unusedVariables false
set_option linter.unusedSimpArgs false

set_option maxRecDepth 100000 in
set_option maxHeartbeats 1000000 in
theorem joined_any {v : Value} {m : List Nat} {w : World} (hs : Sl w v m) (h10 : m.length ≤ 10) (hj : jn m < 18446744073709551616) :
    Calls Try.prog 77 #[v] w fun e w' => e = .returned (.int .u64 (jn m : Nat)) ∧ w = w' := by
  obtain ⟨ao, cap, rfl, hc, hm, hno⟩ := hs.open3
  obtain ⟨len, hlen⟩ : ∃ len, len = m.length := ⟨_, rfl⟩
  rw [← hlen] at hs hc h10 ⊢
  have HS := Lib.hid hs; have HL := Lib.hid hlen; have HJ := Lib.hid hj
  clear hs hlen hno hm hj
  go_enter Try.func77, Try.ntmps77
  go_wp2_with fail
  go_loop [7, 2] (fun i n => ∃ k : Nat, k ≤ len ∧ i = .int .i64 k ∧ n = .int .u64 (jn (m.take k) : Nat)) (fun i _ => len - (intOf i).toNat)
  case atStart => exact ⟨0, Nat.zero_le _, rfl, rfl⟩
  case round =>
    obtain ⟨k, hk, rfl, rfl⟩ := hrel
    by_cases hkl : k < len
    · obtain ⟨b, off, rfl, hcell⟩ := sl_cell HS.out (by omega)
      have hc1 := hcell k hkl
      clear hcell
      have hxb := HS.out.lt k
      obtain ⟨x, ex⟩ : ∃ x, x = m[k]?.getD 0 := ⟨_, rfl⟩
      rw [← ex] at hc1 hxb
      have EX := Lib.hid ex; clear ex
      have hand := andNot128 x hxb
      obtain ⟨T, hT⟩ : ∃ T, T = x % 128 * 128 ^ k := ⟨_, rfl⟩
      have hsnoc : jn (m.take (k + 1)) = jn (m.take k) + T := by
        rw [take_snoc (by have := HL.out; omega), jn_snoc, ← EX.out, hT, List.length_take, Nat.min_eq_left (by have := HL.out; omega), Nat.mul_comm]
      have hle : jn (m.take (k + 1)) ≤ jn m := by
        have := jn_split m (k + 1)
        rw [this]; omega
      obtain ⟨J, hJ⟩ : ∃ J, J = jn (m.take k) := ⟨_, rfl⟩
      rw [← hJ] at hsnoc ⊢
      have hJ2 : J < 128 ^ k := by rw [hJ]; have := jn_lt (m.take k); rwa [List.length_take, Nat.min_eq_left (by have := HL.out; omega)] at this
      have hTb : J + T < 18446744073709551616 := by have := HJ.out; omega
      have hor : bits .or .u64 (J : Int) (T : Int) = ((J + T : Nat) : Int) := by
        rw [u64_or J T (by omega) (by omega)]
        have h1 := Nat.shiftLeft_add_eq_or_of_lt (b := J) (i := 7 * k) (by rw [Nat.pow_mul]; exact hJ2) (x % 128)
        rw [Nat.shiftLeft_eq, Nat.pow_mul] at h1
        rw [hT, Nat.or_comm]
        show ((x % 128 * 128 ^ k ||| J : Nat) : Int) = _
        rw [← h1, Nat.add_comm]
      have hwr : IntKind.u64.wrap ((x : Int) % 128 * 2 ^ (7 * k)) = (T : Int) := by
        have e3 : ((x : Int) % 128 * 2 ^ (7 * k)) = (T : Int) := by
          rw [hT, Int.natCast_mul, Int.natCast_pow, Int.pow_mul]; rfl
        rw [e3]
        show (T : Int) % 18446744073709551616 = _
        omega
      rw [← hwr] at hor
      have HSN := Lib.hid hsnoc; have HOR := Lib.hid hor
      clear hsnoc hor hT hJ hJ2 hle hwr
      go_wp2_with fail
      go_round
      case rel => exact ⟨k + 1, by omega, by go_num, by rw [HSN.out]; exact vint HOR.out⟩
      case measure => simp [intOf]; omega
    · have FIN : Hid (m.take k = m) := List.take_of_length_le (by have := HL.out; omega)
      go_wp2_with fail
      go_ret
      exact ⟨ret_int (by rw [FIN.out]), rfl⟩

/-- What Uint answers. -/
def rdV (xs : List Nat) (i : Int) : Value := .tuple #[.int .u64 ((rd xs i).1 : Nat), .int .i64 ((rd xs i).2.1 : Nat), .int .i64 ((rd xs i).2.2 : Nat)]
theorem rdV_of {xs : List Nat} {i : Int} {n p e : Nat} (h : rd xs i = (n, p, e)) : rdV xs i = .tuple #[.int .u64 (n : Nat), .int .i64 (p : Nat), .int .i64 (e : Nat)] := by unfold rdV; rw [h]
theorem rdV_eq {xs : List Nat} {i : Int} {n p e : Nat} (h : rd xs i = (n, p, e)) {N P E : Int} (hN : N = n) (hP : P = p) (hE : E = e) : Ending.returned (.tuple #[.int .u64 N, .int .i64 P, .int .i64 E]) = .returned (rdV xs i) := by
  rw [rdV_of h, hN, hP, hE]
theorem elem8 : Try.prog.elem 48 = 5 := by kernel_rfl
theorem size8 (w : World) : (sizeOf (Try.prog.elem 48)).run Try.prog w = .ok 1 w := by
  obtain ⟨i0, hi, hz0, hz1, hz2⟩ := info_parts info32
  rw [elem8]
  simp [sizeOf, typeInfo, hi, hz1]
theorem und8 : Try.prog.underlying 48 = some (.slice (Try.prog.elem 48)) := by rw [elem8]; exact Try.underlying48
theorem slice_from (ao : Option Addr) (len cap i : Nat) (hi : i ≤ len) (w : World) : (Instr.slice 48 (.slice ao len cap) (some (.int .i64 (i : Int))) none none).run Try.prog w = .ok (sliced ao i len cap 1) w := by
  rw [run_slice_l w 48 ao len cap und8 .i64 (i : Int) (by omega) (by omega), size8, Int.toNat_natCast]
  rfl
theorem slice_span (ao : Option Addr) (len cap i j : Nat) (I J : Int) (hI : I = i) (hJ : J = j) (hi : i ≤ j) (hj : j ≤ cap) (w : World) :
    (Instr.slice 48 (.slice ao len cap) (some (.int .i64 I)) (some (.int .i64 J)) none).run Try.prog w = .ok (sliced ao i j cap 1) w := by
  subst hI hJ
  rw [run_slice_lh w 48 ao len cap und8 .i64 .i64 (i : Int) (j : Int) (by omega) (by omega) (by omega), size8, Int.toNat_natCast, Int.toNat_natCast]
  rfl
theorem slice_to (ao : Option Addr) (len cap j : Nat) (J : Int) (hJ : J = j) (hj : j ≤ cap) (w : World) :
    (Instr.slice 48 (.slice ao len cap) none (some (.int .i64 J)) none).run Try.prog w = .ok (sliced ao 0 j cap 1) w := by
  subst hJ
  rw [run_slice_h w 48 ao len cap und8 .i64 (j : Int) (by omega) (by omega), size8, Int.toNat_natCast]
  rfl

set_option maxRecDepth 100000 in
set_option maxHeartbeats 2000000 in
theorem Uint_any {v : Value} {xs : List Nat} {w : World} (hs : Sl w v xs) (i : Int) (hi : -9223372036854775808 ≤ i ∧ i ≤ 9223372036854775807) :
    Calls Try.prog 72 #[v, .int .i64 i] w fun e w' => e = .returned (rdV xs i) ∧ w = w' := by
  obtain ⟨ao, cap, rfl, hc, hm, hno⟩ := hs.open3
  obtain ⟨len, hlen⟩ : ∃ len, len = xs.length := ⟨_, rfl⟩
  rw [← hlen] at hs hc ⊢
  have hlm : len ≤ 140737488355328 := by have := hs.sm; omega
  obtain ⟨hi1, hi2⟩ := hi
  unfold maxLen at hm
  clear hno
  by_cases h0 : i < 0
  · have FIN := Lib.hid (rd_range (l := xs) (.inl h0))
    clear hs hlen
    go_enter Try.func72, Try.ntmps72
    go_wp2_with fail
    go_ret3
    exact ⟨rdV_eq FIN.out rfl rfl rfl, rfl⟩
  · obtain ⟨j, rfl⟩ : ∃ j : Nat, i = j := ⟨i.toNat, by omega⟩
    by_cases hj : len < j
    · have FIN := Lib.hid (rd_range (l := xs) (i := (j : Int)) (.inr (by omega)))
      clear hs hlen
      go_enter Try.func72, Try.ntmps72
      go_wp2_with fail
      go_ret3
      exact ⟨rdV_eq FIN.out rfl rfl rfl, rfl⟩
    · have hsl := slice_from ao len cap j (by omega)
      have hsd := hs.cut j len (by omega) (Nat.le_refl _)
      rw [List.take_of_length_le (by omega)] at hsd
      obtain ⟨V, hV⟩ : ∃ V, V = sliced ao j len cap 1 := ⟨_, rfl⟩
      rw [← hV] at hsl hsd
      have HSD := Lib.hid hsd
      clear hV hsd
      by_cases ho : on (xs.drop j) = (xs.drop j).length
      · have HIX : Hid (idxF (xs.drop j) = -1) := by show _ = _; unfold idxF; rw [if_pos ho]
        have FIN := Lib.hid (rd_end (l := xs) (i := j) (by omega) ho)
        clear hs hlen ho
        go_enter Try.func72, Try.ntmps72
        go_wp2_with fail
        refine (IndexFunc_any HSD.out).mono ?_
        rintro e w' ⟨rfl, rfl⟩
        rw [HIX.out]
        go_wp2_with fail
        go_ret3
        exact ⟨rdV_eq FIN.out rfl rfl rfl, rfl⟩
      · obtain ⟨k, hk⟩ : ∃ k, on (xs.drop j) = k := ⟨_, rfl⟩
        have hkl : k < (xs.drop j).length := by have := on_le (xs.drop j); omega
        have HIX : Hid (idxF (xs.drop j) = (k : Int)) := by show _ = _; unfold idxF; rw [if_neg ho, hk]
        have hjk : j + k + 1 ≤ len := by rw [List.length_drop] at hkl; omega
        have hsl2 := fun w => slice_span ao len cap j (j + k + 1) (j : Int) ((j : Int) + (k : Int) + 1) rfl (by omega) (by omega) (by omega) w
        have hsd2 := hs.cut j (j + k + 1) (by omega) hjk
        rw [List.drop_take, show j + k + 1 - j = k + 1 by omega] at hsd2
        obtain ⟨V2, hV2⟩ : ∃ V2, V2 = sliced ao j (j + k + 1) cap 1 := ⟨_, rfl⟩
        rw [← hV2] at hsl2 hsd2
        have hml : ((xs.drop j).take (k + 1)).length = k + 1 := by rw [List.length_take]; omega
        obtain ⟨z, hz⟩ : ∃ z, z = (xs.drop j)[k]?.getD 0 := ⟨_, rfl⟩
        have hmz : ((xs.drop j).take (k + 1))[k]?.getD 0 = z := by rw [List.getElem?_take, if_pos (by omega), ← hz]
        by_cases hsh : short k z = true
        · have hjl : jn ((xs.drop j).take (k + 1)) < 18446744073709551616 := short_lt hkl (by rw [← hz]; exact hsh)
          have FIN := Lib.hid (rd_ok (l := xs) (i := j) (by omega) hk hkl (by rw [← hz]; exact hsh))
          have hk9 := short_len hsh
          have HSH := Lib.hid hsh; have HML := Lib.hid hml; have HMZ := Lib.hid hmz; have HSD2 := Lib.hid hsd2; have HJL := Lib.hid hjl
          clear hs hlen ho hk hkl hV2 hsd2 hml hz hmz hsh hjl
          go_enter Try.func72, Try.ntmps72
          go_wp2_with fail
          refine (IndexFunc_any HSD.out).mono ?_
          rintro e w' ⟨rfl, rfl⟩
          rw [HIX.out]
          go_wp2_with fail
          refine (shortest_any HSD2.out k HML.out z HMZ.out).mono ?_
          rintro e w' ⟨rfl, rfl⟩
          rw [HSH.out]
          go_wp2_with fail
          refine (joined_any HSD2.out (by rw [HML.out]; omega) HJL.out).mono ?_
          rintro e w' ⟨rfl, rfl⟩
          go_wp2_with fail
          go_ret3
          exact ⟨rdV_eq FIN.out rfl (by omega) rfl, rfl⟩
        · have hsf : short k z = false := by simpa using hsh
          have FIN := Lib.hid (rd_text (l := xs) (i := j) (by omega) hk hkl (by rw [← hz]; exact hsf))
          have HSH := Lib.hid hsf; have HML := Lib.hid hml; have HMZ := Lib.hid hmz; have HSD2 := Lib.hid hsd2
          clear hs hlen ho hk hkl hV2 hsd2 hml hz hmz hsh hsf
          go_enter Try.func72, Try.ntmps72
          go_wp2_with fail
          refine (IndexFunc_any HSD.out).mono ?_
          rintro e w' ⟨rfl, rfl⟩
          rw [HIX.out]
          go_wp2_with fail
          refine (shortest_any HSD2.out k HML.out z HMZ.out).mono ?_
          rintro e w' ⟨rfl, rfl⟩
          rw [HSH.out]
          go_wp2_with fail
          go_ret3
          exact ⟨rdV_eq FIN.out rfl rfl rfl, rfl⟩

def rdIV (xs : List Nat) (i : Int) : Value := .tuple #[.int .i64 (unfo (rd xs i).1), .int .i64 ((rd xs i).2.1 : Nat), .int .i64 ((rd xs i).2.2 : Nat)]
end By
end Go.Proofs.Ytlfoikjbbbhbdaa
