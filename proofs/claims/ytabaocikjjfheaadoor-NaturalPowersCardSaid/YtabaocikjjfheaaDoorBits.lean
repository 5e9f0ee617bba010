/- Contracts of Bits and Uint, and of the helper that trims a law's input. Conditions: the slices hold the digits that are named. -/
import Derived.Test.YtabaocikjjfheaaDoorRMul
import Derived.Laws.BitsAllLaws
namespace Go.Proofs.YtabaocikjjfheaaDoor
open Go.RowKit LimbN

set_option maxHeartbeats 400000 in
theorem rMul_ok {xs ys : List Nat} {va vb : Value} {w : World} (ha : Sl w va xs) (hb : Sl w vb ys) (hx : wf xs = true) (hy : wf ys = true) :
    Calls Tryd.prog 28 #[va, vb] w (Made (val xs * val ys) w) := by
  have HA := Lib.hid ha; have HX := Lib.hid hx; have HB := Lib.hid hb; have HY := Lib.hid hy; clear ha hx hb hy
  go_enter Tryd.func28, Tryd.ntmps28
  go_wp2_with fail
  refine (rcheck_any HA.out).mono ?_
  rintro e w' ⟨rfl, rfl⟩
  rw [HX.out]
  go_wp2_with fail
  refine (rcheck_any HB.out).mono ?_
  rintro e w' ⟨rfl, rfl⟩
  rw [HY.out]
  go_wp2_with fail
  refine (Times_any HA.out HB.out (by have := (wf_canon HA.out.lt HX.out).2; omega) (by have := (wf_canon HB.out.lt HY.out).2; omega)).mono ?_
  rintro e w2 ⟨v, rfl, hs, hn, hk⟩
  have HS := Lib.hid hs; have HN := Lib.hid hn; have HK := Lib.hid hk; clear hs hn hk
  go_wp2_with fail
  refine (rlimited_any HS.out).mono ?_
  rintro e w' ⟨rfl, rfl⟩
  have fin : Made (val xs * val ys) w (.returned (if (limbs (val xs * val ys)).length ≤ 128 then .tuple #[v, .int .i64 0] else .tuple #[.slice none 0 0, .int .i64 2])) w2 := ⟨⟨v, rfl, HS.out, HN.out⟩, HK.out⟩
  have FIN := Lib.hid fin; clear fin
  by_cases hlen : (limbs (val xs * val ys)).length ≤ 128
  · have FIN2 := FIN.out
    rw [if_pos hlen] at FIN2 ⊢
    have FIN := Lib.hid FIN2; clear FIN2
    go_wp2
    go_ret2
    exact FIN.out
  · have FIN2 := FIN.out
    rw [if_neg hlen] at FIN2 ⊢
    have FIN := Lib.hid FIN2; clear FIN2
    go_wp2
    go_ret2
    exact FIN.out

/-- The number of binary digits of a list of digits whose last one is not 0. -/
def bitsL (xs : List Nat) : Nat := if xs.length = 0 then 0 else 32 * (xs.length - 1) + Lib.bitLen (xs[xs.length - 1]?.getD 0)
def bitsW (xs : List Nat) : Nat := if wf xs then bitsL xs else 0
theorem bitLen_top {xs : List Nat} (h : Lt xs) (i : Nat) : Lib.bitLen (xs[i]?.getD 0) ≤ 32 := Lib.bitLen_le _ 32 (by omega) (by have := h i; omega)
-- natural.Bits
set_option maxHeartbeats 400000 in
theorem Bits_any {xs : List Nat} {v : Value} {w : World} (ha : Sl w v xs) :
    Calls Tryd.prog 17 #[v] w fun e w' => e = .returned (.int .i64 (bitsW xs)) ∧ w = w' := by
  have HA := Lib.hid ha
  obtain ⟨⟨ao, ca, rfl, hca, hma, hat, _⟩, hxs, _⟩ := ha
  have HXS := Lib.hid hxs; have HAT := Lib.hid hat; clear hxs hat
  obtain ⟨l, hl⟩ : ∃ l, l = xs.length := ⟨_, rfl⟩
  rw [← hl] at hca HA
  rw [← hl]
  have HL := Lib.hid hl; clear hl
  unfold maxLen at hma
  by_cases h0 : l = 0
  · subst h0
    have hb : bitsW xs = 0 := by unfold bitsW bitsL; rw [← HL.out]; simp
    have HB := Lib.hid hb; clear hb
    go_enter Tryd.func17, Tryd.ntmps17
    go_wp2
    go_ret
    exact ⟨ret_int (by rw [HB.out]; rfl), rfl⟩
  · have h0' : ((l : Int) == 0) = false := beq_eq_false_iff_ne.2 (by omega)
    cases hx : wf xs with
    | false =>
      have HX := Lib.hid hx; clear hx
      have hb : bitsW xs = 0 := by unfold bitsW; rw [HX.out]; rfl
      have HB := Lib.hid hb; clear hb
      go_enter Tryd.func17, Tryd.ntmps17
      go_wp2_with fail
      refine (check_any HA.out).mono ?_
      rintro e w' ⟨rfl, rfl⟩
      rw [HX.out]
      go_wp2
      go_ret
      exact ⟨ret_int (by rw [HB.out]; rfl), rfl⟩
    | true =>
      have HX := Lib.hid hx; clear hx
      have hl8 : l ≤ 128 := by have := (wf_canon HXS.out HX.out).2; have := HL.out; omega
      obtain ⟨b, off, rfl, hcx⟩ := HAT.out.cells (by have := HL.out; omega)
      have hcell := hcx (l - 1) (by have := HL.out; omega)
      have hxb := HXS.out (l - 1)
      have hbl := bitLen_top HXS.out (l - 1)
      clear hcx
      obtain ⟨x, ex⟩ : ∃ x, x = xs[l - 1]?.getD 0 := ⟨_, rfl⟩
      rw [← ex] at hcell hxb hbl
      have hb : bitsW xs = 32 * (l - 1) + Lib.bitLen x := by unfold bitsW bitsL; rw [HX.out, ex, ← HL.out, if_neg h0]; rfl
      have HB := Lib.hid hb; clear hb
      have EX := Lib.hid ex; clear ex
      go_enter Tryd.func17, Tryd.ntmps17
      go_wp2_with fail
      refine (check_any HA.out).mono ?_
      rintro e w' ⟨rfl, rfl⟩
      rw [HX.out]
      go_wp2_with fail
      refine (Tryd.bits_Len32 (x : Int) _ (by omega) (by omega)).mono ?_
      rintro e w' ⟨rfl, rfl⟩
      rw [Int.toNat_natCast]
      go_wp2
      go_ret
      exact ⟨ret_int (by rw [HB.out]; omega), rfl⟩
-- the reference's Bits
set_option maxHeartbeats 400000 in
theorem rBits_any {xs : List Nat} {v : Value} {w : World} (ha : Sl w v xs) :
    Calls Tryd.prog 18 #[v] w fun e w' => e = .returned (.int .i64 (bitsW xs)) ∧ w = w' := by
  have HA := Lib.hid ha
  obtain ⟨⟨ao, ca, rfl, hca, hma, hat, _⟩, hxs, _⟩ := ha
  have HXS := Lib.hid hxs; have HAT := Lib.hid hat; clear hxs hat
  obtain ⟨l, hl⟩ : ∃ l, l = xs.length := ⟨_, rfl⟩
  rw [← hl] at hca HA
  rw [← hl]
  have HL := Lib.hid hl; clear hl
  unfold maxLen at hma
  cases hx : wf xs with
  | false =>
    have HX := Lib.hid hx; clear hx
    have hb : bitsW xs = 0 := by unfold bitsW; rw [HX.out]; rfl
    have HB := Lib.hid hb; clear hb
    go_enter Tryd.func18, Tryd.ntmps18
    go_wp2_with fail
    refine (rcheck_any HA.out).mono ?_
    rintro e w' ⟨rfl, rfl⟩
    rw [HX.out]
    go_wp2
    go_ret
    exact ⟨ret_int (by rw [HB.out]; rfl), rfl⟩
  | true =>
    have HX := Lib.hid hx; clear hx
    by_cases h0 : l = 0
    · subst h0
      have hb : bitsW xs = 0 := by unfold bitsW bitsL; rw [← HL.out]; simp
      have HB := Lib.hid hb; clear hb
      go_enter Tryd.func18, Tryd.ntmps18
      go_wp2_with fail
      refine (rcheck_any HA.out).mono ?_
      rintro e w' ⟨rfl, rfl⟩
      rw [HX.out]
      go_wp2
      go_ret
      exact ⟨ret_int (by rw [HB.out]; rfl), rfl⟩
    · have h0' : ((l : Int) == 0) = false := beq_eq_false_iff_ne.2 (by omega)
      have hl8 : l ≤ 128 := by have := (wf_canon HXS.out HX.out).2; have := HL.out; omega
      obtain ⟨b, off, rfl, hcx⟩ := HAT.out.cells (by have := HL.out; omega)
      have hcell := hcx (l - 1) (by have := HL.out; omega)
      have hxb := HXS.out (l - 1)
      have hbl := bitLen_top HXS.out (l - 1)
      clear hcx
      obtain ⟨x, ex⟩ : ∃ x, x = xs[l - 1]?.getD 0 := ⟨_, rfl⟩
      rw [← ex] at hcell hxb hbl
      have hb : bitsW xs = 32 * (l - 1) + Lib.bitLen x := by unfold bitsW bitsL; rw [HX.out, ex, ← HL.out, if_neg h0]; rfl
      have HB := Lib.hid hb; clear hb
      have EX := Lib.hid ex; clear ex
      go_enter Tryd.func18, Tryd.ntmps18
      go_wp2_with fail
      refine (rcheck_any HA.out).mono ?_
      rintro e w' ⟨rfl, rfl⟩
      rw [HX.out]
      go_wp2_with fail
      go_loop [3, 4] (fun n y => ∃ (k z : Nat), n = .int .i64 k ∧ y = .int .u32 z ∧ z < 4294967296 ∧ k + Lib.bitLen z = bitsW xs) (fun _ y => (intOf y).toNat)
      case atStart => exact ⟨32 * (l - 1), x, vint (by omega), rfl, hxb, HB.out.symm⟩
      case round =>
        obtain ⟨k, z, rfl, rfl, hzb, hk⟩ := hrel
        have hkb : k ≤ 5000 := by have := HB.out; omega
        have HK := Lib.hid hk; clear hk
        by_cases hz : 0 < z
        · have hh := Lib.bitLen_half z (by omega) (by omega)
          have HH := Lib.hid hh; clear hh
          go_wp2
          go_round
          case rel => exact ⟨k + 1, z / 2, vint (by omega), vint (by omega), by omega, by have := HK.out; have := HH.out; omega⟩
          case measure => simp [intOf]; omega
        · have hz0 : z = 0 := by omega
          subst hz0
          go_wp2
          go_ret
          exact ⟨ret_int (by have := HK.out; rw [show Lib.bitLen 0 = 0 from rfl] at this; omega), rfl⟩

/-- What Uint says. -/
def uintOk (xs : List Nat) : Bool := wf xs && decide (xs.length ≤ 2)
def uintV (xs : List Nat) : Nat := if uintOk xs then val xs else 0
theorem or_limbs {x y : Nat} (h : x < 4294967296) : x ||| y * 4294967296 = x + 4294967296 * y := by
  have := Nat.shiftLeft_add_eq_or_of_lt (i := 32) (b := x) (show x < 2 ^ 32 by omega) y
  rw [Nat.shiftLeft_eq] at this
  rw [Nat.or_comm, ← show 2 ^ 32 = 4294967296 by rfl, ← this]
  omega
theorem or_u64 {x y : Nat} (hx : x < 4294967296) (hy : y < 4294967296) : bits .or .u64 ((y : Int) * 4294967296) (x : Int) = ((x + 4294967296 * y : Nat) : Int) := by
  have e : ((y : Int) * 4294967296) = ((y * 4294967296 : Nat) : Int) := by omega
  rw [e, u64_or_nat _ _ (by omega) (by omega), Nat.or_comm, or_limbs hx]
theorem or_u64' {x y : Nat} (hx : x < 4294967296) (hy : y < 4294967296) : bits .or .u64 (x : Int) ((y : Int) * 4294967296) = ((x + 4294967296 * y : Nat) : Int) := by
  have e : ((y : Int) * 4294967296) = ((y * 4294967296 : Nat) : Int) := by omega
  rw [e, u64_or_nat _ _ (by omega) (by omega), or_limbs hx]
theorem or_zero' {x : Nat} (hx : x < 4294967296) : bits .or .u64 0 (x : Int) = (x : Int) := by
  have := u64_or_nat 0 x (by omega) (by omega)
  simpa using this
-- the reference's Uint
set_option maxHeartbeats 400000 in
theorem rUint_any {xs : List Nat} {v : Value} {w : World} (ha : Sl w v xs) :
    Calls Tryd.prog 11 #[v] w fun e w' => e = .returned (.tuple #[.int .u64 (uintV xs), .bool (uintOk xs)]) ∧ w = w' := by
  have HA := Lib.hid ha
  obtain ⟨⟨ao, ca, rfl, hca, hma, hat, _⟩, hxs, _⟩ := ha
  have HXS := Lib.hid hxs; have HAT := Lib.hid hat; clear hxs hat
  obtain ⟨l, hl⟩ : ∃ l, l = xs.length := ⟨_, rfl⟩
  rw [← hl] at hca HA
  rw [← hl]
  have HL := Lib.hid hl; clear hl
  unfold maxLen at hma
  cases hx : wf xs with
  | false =>
    have HX := Lib.hid hx; clear hx
    have ho : uintOk xs = false := by unfold uintOk; rw [HX.out]; rfl
    have hu : uintV xs = 0 := by unfold uintV; rw [ho]; rfl
    have HO := Lib.hid ho; have HU := Lib.hid hu; clear ho hu
    go_enter Tryd.func11, Tryd.ntmps11
    go_wp2_with fail
    refine (rcheck_any HA.out).mono ?_
    rintro e w' ⟨rfl, rfl⟩
    rw [HX.out]
    go_wp2
    go_ret2
    exact ⟨by rw [HO.out, HU.out]; rfl, rfl⟩
  | true =>
    have HX := Lib.hid hx; clear hx
    by_cases h2 : 2 < l
    · have ho : uintOk xs = false := by unfold uintOk; rw [HX.out, ← HL.out, decide_eq_false (by omega)]; rfl
      have hu : uintV xs = 0 := by unfold uintV; rw [ho]; rfl
      have HO := Lib.hid ho; have HU := Lib.hid hu; clear ho hu
      go_enter Tryd.func11, Tryd.ntmps11
      go_wp2_with fail
      refine (rcheck_any HA.out).mono ?_
      rintro e w' ⟨rfl, rfl⟩
      rw [HX.out]
      go_wp2
      go_ret2
      exact ⟨by rw [HO.out, HU.out]; rfl, rfl⟩
    · have ho : uintOk xs = true := by unfold uintOk; rw [HX.out, ← HL.out, decide_eq_true (by omega)]; rfl
      have hu : uintV xs = val xs := by unfold uintV; rw [ho]; rfl
      have HO := Lib.hid ho; have HU := Lib.hid hu; clear ho hu
      go_enter Tryd.func11, Tryd.ntmps11
      go_wp2_with fail
      refine (rcheck_any HA.out).mono ?_
      rintro e w' ⟨rfl, rfl⟩
      rw [HX.out]
      go_wp2_with fail
      go_loop [4, 5] (fun v i => ∃ (j : Int) (u : Nat), -1 ≤ j ∧ j < l ∧ i = .int .i64 j ∧ v = .int .u64 u ∧ u = val (xs.drop (j + 1).toNat)) (fun _ i => (intOf i + 1).toNat)
      case atStart => exact ⟨_, 0, by omega, by omega, rfl, rfl, by rw [List.drop_of_length_le (by have := HL.out; omega)]; rfl⟩
      case round =>
        obtain ⟨j, u, hj1, hj2, rfl, rfl, hu⟩ := hrel
        have HUU := Lib.hid hu; clear hu
        by_cases hj : 0 ≤ j
        · obtain ⟨m, rfl⟩ := Int.eq_ofNat_of_zero_le hj
          obtain ⟨b, off, rfl, hcx⟩ := HAT.out.cells (by have := HL.out; omega)
          have hcell := hcx m (by have := HL.out; omega)
          have hxb := HXS.out m
          clear hcx
          have hd : val (xs.drop m) = xs[m]?.getD 0 + 4294967296 * val (xs.drop (m + 1)) := by
            have hm : m < xs.length := by have := HL.out; omega
            rw [List.drop_eq_getElem_cons hm, val]; simp [List.getElem?_eq_getElem hm]
          have hub : u < 4294967296 := by
            rw [HUU.out]
            have h1 := val_lt (HXS.out.drop (m + 1))
            have h3 : ((m : Int) + 1).toNat = m + 1 := by omega
            rw [h3]
            have h4 : (xs.drop (m + 1)).length ≤ 1 := by rw [List.length_drop]; have := HL.out; omega
            have h5 := pow_max h4 h1
            omega
          obtain ⟨x, ex⟩ : ∃ x, x = xs[m]?.getD 0 := ⟨_, rfl⟩
          rw [← ex] at hcell hxb hd
          have HD := Lib.hid hd; clear hd
          have EX := Lib.hid ex; clear ex
          go_wp2
          go_round
          case rel =>
            refine ⟨(m : Int) - 1, x + 4294967296 * u, by omega, by omega, by go_num, by rw [or_u64 hxb hub], ?_⟩
            have h3 : ((m : Int) + 1).toNat = m + 1 := by omega
            have h4 : ((m : Int) - 1 + 1).toNat = m := by omega
            have := HUU.out
            rw [h3] at this
            rw [h4, HD.out, ← this]
          case measure => simp [intOf]
        · have hj' : j = -1 := by omega
          subst hj'
          go_wp2
          go_ret2
          exact ⟨by rw [HO.out, HU.out, HUU.out]; rfl, rfl⟩

theorem bits_le {xs : List Nat} (h : Lt xs) (hw : wf xs = true) : bitsW xs ≤ 64 ↔ xs.length ≤ 2 := by
  unfold bitsW bitsL
  rw [hw]
  simp only [if_true]
  by_cases h0 : xs.length = 0
  · rw [if_pos h0]; omega
  · rw [if_neg h0]
    have h1 := bitLen_top h (xs.length - 1)
    have h2 : Lib.bitLen (xs[xs.length - 1]?.getD 0) ≠ 0 := by
      intro hz
      have hne : xs[xs.length - 1]?.getD 0 ≠ 0 := by
        have := wf_pos (xs := xs) (by omega)
        rw [this] at hw
        simp only [Bool.and_eq_true, Bool.not_eq_true', beq_eq_false_iff_ne] at hw
        exact hw.2
      have := Lib.bitLen_half _ hne (by have := h (xs.length - 1); omega)
      omega
    omega
-- natural.Uint
set_option maxHeartbeats 400000 in
theorem Uint_any {xs : List Nat} {v : Value} {w : World} (ha : Sl w v xs) :
    Calls Tryd.prog 10 #[v] w fun e w' => e = .returned (.tuple #[.int .u64 (uintV xs), .bool (uintOk xs)]) ∧ w = w' := by
  have HA := Lib.hid ha
  obtain ⟨⟨ao, ca, rfl, hca, hma, hat, _⟩, hxs, _⟩ := ha
  have HXS := Lib.hid hxs; have HAT := Lib.hid hat; clear hxs hat
  obtain ⟨l, hl⟩ : ∃ l, l = xs.length := ⟨_, rfl⟩
  rw [← hl] at hca HA
  rw [← hl]
  have HL := Lib.hid hl; clear hl
  unfold maxLen at hma
  cases hx : wf xs with
  | false =>
    have HX := Lib.hid hx; clear hx
    have ho : uintOk xs = false := by unfold uintOk; rw [HX.out]; rfl
    have hu : uintV xs = 0 := by unfold uintV; rw [ho]; rfl
    have HO := Lib.hid ho; have HU := Lib.hid hu; clear ho hu
    go_enter Tryd.func10, Tryd.ntmps10
    go_wp2_with fail
    refine (check_any HA.out).mono ?_
    rintro e w' ⟨rfl, rfl⟩
    rw [HX.out]
    go_wp2
    go_ret2
    exact ⟨by rw [HO.out, HU.out]; rfl, rfl⟩
  | true =>
    have HX := Lib.hid hx; clear hx
    have hbl := bits_le HXS.out HX.out
    rw [← HL.out] at hbl
    have HBW := Lib.hid (rfl : bitsW xs = bitsW xs)
    obtain ⟨bw, hbw⟩ : ∃ bw, bw = bitsW xs := ⟨_, rfl⟩
    rw [← hbw] at hbl
    have HB := Lib.hid hbw; clear hbw
    have HBL := Lib.hid hbl; clear hbl
    by_cases h2 : 2 < l
    · have hb64 : 64 < bw := by have := HBL.out; omega
      have ho : uintOk xs = false := by unfold uintOk; rw [HX.out, ← HL.out, decide_eq_false (by omega)]; rfl
      have hu : uintV xs = 0 := by unfold uintV; rw [ho]; rfl
      have HO := Lib.hid ho; have HU := Lib.hid hu; clear ho hu
      go_enter Tryd.func10, Tryd.ntmps10
      go_wp2_with fail
      refine (check_any HA.out).mono ?_
      rintro e w' ⟨rfl, rfl⟩
      rw [HX.out]
      go_wp2_with fail
      refine (Bits_any HA.out).mono ?_
      rintro e w' ⟨rfl, rfl⟩
      rw [← HB.out]
      go_wp2
      go_ret2
      exact ⟨by rw [HO.out, HU.out]; rfl, rfl⟩
    · have hb64 : bw ≤ 64 := by have := HBL.out; omega
      have ho : uintOk xs = true := by unfold uintOk; rw [HX.out, ← HL.out, decide_eq_true (by omega)]; rfl
      have hu : uintV xs = val xs := by unfold uintV; rw [ho]; rfl
      have HO := Lib.hid ho; have HU := Lib.hid hu; clear ho hu
      go_enter Tryd.func10, Tryd.ntmps10
      go_wp2_with fail
      refine (check_any HA.out).mono ?_
      rintro e w' ⟨rfl, rfl⟩
      rw [HX.out]
      go_wp2_with fail
      refine (Bits_any HA.out).mono ?_
      rintro e w' ⟨rfl, rfl⟩
      rw [← HB.out]
      go_wp2_with fail
      go_loop [4, 17] (fun v i => ∃ (k u : Nat), k ≤ l ∧ i = .int .i64 k ∧ v = .int .u64 u ∧ u = val (xs.take k)) (fun _ i => l - (intOf i).toNat)
      case atStart => exact ⟨0, 0, by omega, rfl, rfl, rfl⟩
      case round =>
        obtain ⟨k, u, hk, rfl, rfl, hu⟩ := hrel
        have HUU := Lib.hid hu; clear hu
        by_cases hkl : k < l
        · obtain ⟨b, off, rfl, hcx⟩ := HAT.out.cells (by have := HL.out; omega)
          have hcell := hcx k (by have := HL.out; omega)
          have hxb := HXS.out k
          clear hcx
          obtain ⟨x, ex⟩ : ∃ x, x = xs[k]?.getD 0 := ⟨_, rfl⟩
          rw [← ex] at hcell hxb
          have EX := Lib.hid ex; clear ex
          have h01 : k = 0 ∨ k = 1 := by omega
          rcases h01 with rfl | rfl
          · have hu0 : u = 0 := by have := HUU.out; simpa [val] using this
            subst hu0
            rw [Nat.add_zero] at hcell
            go_wp2
            go_round
            case rel => exact ⟨1, x, by omega, rfl, by rw [or_zero' hxb], by rw [val_take_succ, ← EX.out]; simp [val]⟩
            case measure => simp [intOf]; omega
          · have hub : u < 4294967296 := by
              rw [HUU.out]
              have h1 := val_lt (HXS.out.take 1)
              exact pow_max (k := 1) (by rw [List.length_take]; omega) h1
            go_wp2
            go_round
            case rel => exact ⟨2, u + 4294967296 * x, by omega, rfl, by rw [or_u64' hub hxb], by rw [val_take_succ, ← EX.out, HUU.out, Nat.pow_one]⟩
            case measure => simp [intOf]; omega
        · have hkl' : k = l := by omega
          subst hkl'
          go_wp2
          go_ret2
          exact ⟨by rw [HO.out, HU.out, HUU.out, List.take_of_length_le (by have := HL.out; omega)]; rfl, rfl⟩

-- the laws' own trimmed
def lenOf : Value → Nat | .slice _ n _ => n | _ => 0
set_option maxHeartbeats 400000 in
theorem ltrim_walk (ao : Option Addr) (cap : Nat) (xs : List Nat) (w : World) (hc : xs.length ≤ cap) (hm : cap ≤ maxLen) (ha : At w ao xs) :
    Calls Tryd.prog 29 #[.slice ao xs.length cap] w fun e w' =>
      (∃ k, k ≤ min 20 xs.length ∧ ZeroFrom k (xs.take 20) ∧ (k = 0 ∨ xs[k - 1]?.getD 0 ≠ 0) ∧ e = .returned (.slice ao k cap)) ∧ w = w' := by
  unfold maxLen at hm
  have HAT := Lib.hid ha; clear ha
  obtain ⟨len, hlen⟩ : ∃ len, len = xs.length := ⟨_, rfl⟩
  rw [← hlen] at hc
  rw [← hlen]
  have HL := Lib.hid hlen; clear hlen
  by_cases h20 : 20 < len
  all_goals
    go_enter Tryd.func29, Tryd.ntmps29
    go_wp2_with fail
    go_loop [0] (fun s => ∃ k : Nat, k ≤ min 20 len ∧ s = .slice ao k cap ∧ ZeroFrom k (xs.take 20)) (fun s => lenOf s)
    case atStart => exact ⟨min 20 len, Nat.le_refl _, by first | rw [show min 20 len = 20 by omega] | rw [show min 20 len = len by omega], by have := ZeroFrom.all (xs.take 20); rw [List.length_take] at this; rw [HL.out]; exact this⟩
    case round =>
      obtain ⟨k, hk, rfl, hz⟩ := hrel
      have HZ := Lib.hid hz; clear hz
      by_cases h0 : k = 0
      · subst h0
        go_wp2
        go_ret
        exact ⟨⟨0, Nat.zero_le _, HZ.out, .inl rfl, rfl⟩, rfl⟩
      · obtain ⟨b, off, rfl, hcells⟩ := HAT.out.cells (by have := HL.out; omega)
        have hcell := hcells (k - 1) (by have := HL.out; omega)
        clear hcells
        obtain ⟨z, ez⟩ : ∃ z, z = xs[k - 1]?.getD 0 := ⟨_, rfl⟩
        rw [← ez] at hcell
        have EZ := Lib.hid ez; clear ez
        have hk0 : (0 : Int) < (k : Int) := by omega
        have hkf : ((k : Int) == 0) = false := beq_eq_false_iff_ne.2 (by omega)
        by_cases hz0 : z = 0
        · subst hz0
          go_wp2
          go_round
          case rel =>
            refine ⟨k - 1, by omega, by first | rfl | (congr 1; omega), ZeroFrom.down (by have := HZ.out; rwa [show k - 1 + 1 = k by omega]) ?_⟩
            rw [List.getElem?_take, if_pos (by omega)]; exact EZ.out.symm
          case measure => simp [lenOf]; omega
        · have hzf : ((z : Int) == 0) = false := beq_eq_false_iff_ne.2 (by omega)
          go_wp2
          go_ret
          exact ⟨⟨k, by omega, HZ.out, .inr (by rw [← EZ.out]; exact hz0), rfl⟩, rfl⟩
theorem ltrim_any {v : Value} {xs : List Nat} {w : World} (hs : Sl w v xs) :
    Calls Tryd.prog 29 #[v] w fun e w' => (∃ v', e = .returned v' ∧ Sl w v' (limbs (val (xs.take 20)))) ∧ w = w' := by
  obtain ⟨⟨ao, cap, rfl, hcap, hm, ha, hno⟩, hl, hsm⟩ := hs
  refine (ltrim_walk ao cap xs w hcap hm ha).mono ?_
  rintro e w' ⟨⟨k, hk, hz, he, rfl⟩, rfl⟩
  refine ⟨⟨_, rfl, ?_⟩, rfl⟩
  have hk2 : k ≤ (xs.take 20).length := by rw [List.length_take]; exact hk
  rw [trim_eq (hl.take 20) k hk2 hz ?_, List.take_take, Nat.min_eq_left (by omega)]
  · exact Sl.cut hcap hm ha hl hsm hno k (by omega)
  · rcases he with he | he
    · exact .inl he
    · by_cases h0 : k = 0
      · exact .inl h0
      · right; rw [List.getElem?_take, if_pos (by omega)]; exact he
end Go.Proofs.YtabaocikjjfheaaDoor
