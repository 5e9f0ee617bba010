/- Contracts of the functions that divide by one limb. Conditions: the slices hold the digits that are named; the divisor is from 1 to 2^32 - 1. -/
import Derived.Test.YtdoponlhiidimaaGreatDoorBits
namespace Go.Proofs.YtdoponlhiidimaaGreatDoor
open Go.RowKit LimbN

set_option maxRecDepth 100000 in
set_option maxHeartbeats 1000000 in
theorem byLimb_any {xs : List Nat} {va : Value} {d : Nat} {w : World} (ha : Sl w va xs) (hd0 : 0 < d) (hd : d < 4294967296) :
    Calls Tryz.prog 76 #[va, .int .u32 d] w fun e w' => ∃ v', e = .returned (.tuple #[v', .int .u32 (val xs % d : Nat)]) ∧ Sl w' v' (limbs (val xs / d)) ∧ New w.heap.size v' ∧ Kp w w' := by
  have hsm := ha.sm
  have HSA := Lib.hid ha
  obtain ⟨⟨ao, ca, rfl, hca, hma, hat, _⟩, hxs, _⟩ := ha
  unfold maxLen at hma
  obtain ⟨la, hla⟩ : ∃ la, la = xs.length := ⟨_, rfl⟩
  rw [← hla] at hca hsm HSA
  rw [← hla]
  have HLA := Lib.hid hla; have HAT := Lib.hid hat; have HXS := Lib.hid hxs
  clear hla hat hxs
  go_enter Tryz.func76, Tryz.ntmps76
  go_wp2_with (at_make; refine wpList_mk rfl (.tmp 10) (.tmp 10) 22 rfl Tryz.underlying22 _ la rfl rfl rfl hsm ?_)
  intro w1 hrow hk1
  have HROW := Lib.hid hrow; have HK1 := Lib.hid hk1
  clear hrow hk1
  go_wp2_with fail
  go_loopw [7, 8] (fun rv i wr => ∃ (j : Int) (r : Nat) (zr : List Nat), -1 ≤ j ∧ j < la ∧ i = .int .i64 j ∧ rv = .int .u64 r ∧ r < d ∧ DivRel xs d (j + 1).toNat zr r ∧ Row wr w.heap.size 43 zr ∧ Only w.heap.size w1 wr) (fun _ i _ => (intOf i + 1).toNat)
  case atStart => exact ⟨_, 0, _, by omega, by omega, rfl, rfl, hd0, by have := DivRel.start xs d; rw [← HLA.out] at this; rwa [show ((la : Int) - 1 + 1).toNat = la by omega], HROW.out, Only.refl _ _⟩
  case round =>
    obtain ⟨j, r, zr, hj1, hj2, rfl, rfl, hr, hrel', hrow, honly⟩ := hrel
    have HKR : Hid (Kp w wr) := Only.kp HK1.out honly (Nat.le_refl _)
    have HREL := Lib.hid hrel'; have HROWR := Lib.hid hrow; have HON := Lib.hid honly
    clear hrel' hrow honly
    by_cases hj : 0 ≤ j
    · obtain ⟨m, rfl⟩ := Int.eq_ofNat_of_zero_le hj
      have hrel2 := HREL.out
      rw [show ((m : Int) + 1).toNat = m + 1 by omega] at hrel2
      have HREL2 := Lib.hid hrel2; clear hrel2
      obtain ⟨b, off, rfl, hcx⟩ := (HAT.out.keep HKR.out).cells (by have := HLA.out; omega)
      have hcell := hcx m (by have := HLA.out; omega)
      have hxb := HXS.out m
      clear hcx
      have hcellz := HROWR.out.cell m (by have := HREL.out.len; have := HLA.out; omega)
      have hfree : wr.frozen? ⟨w.heap.size, m, none⟩ = false := HROWR.out.free _
      obtain ⟨z, ez⟩ : ∃ z, z = zr[m]?.getD 0 := ⟨_, rfl⟩
      rw [← ez] at hcellz
      clear ez
      have hst := HREL2.out.step hd0 (by have := HLA.out; omega) hxb _ rfl
      obtain ⟨x, ex⟩ : ∃ x, x = xs[m]?.getD 0 := ⟨_, rfl⟩
      rw [← ex] at hcell hxb hst
      have EX := Lib.hid ex; clear ex
      obtain ⟨s, hs⟩ : ∃ s, s = x + 4294967296 * r := ⟨_, rfl⟩
      rw [← hs] at hst
      have hsb : s < 18446744073709551616 := by omega
      have hor : bits .or .u64 ((r : Int) * 4294967296) (x : Int) = (s : Int) := by rw [or_u64 hxb (by omega), hs]
      have hq1 := hst.1
      have hq2 : s % d < d := Nat.mod_lt _ hd0
      have HST := Lib.hid hst.2
      clear hst hs
      have hdi : (1 : Int) ≤ (d : Int) := by omega
      have hsi : (0 : Int) ≤ (s : Int) := by omega
      have hq3 : (s : Int) / (d : Int) = ((s / d : Nat) : Int) := by simp
      have hq4 : (s : Int) % (d : Int) = ((s % d : Nat) : Int) := by simp
      obtain ⟨q, hq⟩ : ∃ q, q = s / d := ⟨_, rfl⟩
      obtain ⟨t, ht⟩ : ∃ t, t = s % d := ⟨_, rfl⟩
      rw [← hq] at hq1 hq3 HST
      rw [← ht] at hq2 hq4 HST
      clear hq ht
      go_wp2
      go_roundw
      case rel => exact ⟨(m : Int) - 1, t, zr.set m q, by omega, by omega, by go_num, vint hq4, hq2, by rw [show ((m : Int) - 1 + 1).toNat = m by omega]; exact HST.out, HROWR.out.set' _ q _ (by first | rfl | exact hq3), HON.out.set _ _⟩
      case measure => simp [intOf]
    · have hj' : j = -1 := by omega
      subst hj'
      have hrel2 := HREL.out
      rw [show ((-1 : Int) + 1).toNat = 0 by omega] at hrel2
      have hv : val zr = val xs / d := by simpa using hrel2.quo
      have hrr : r = val xs % d := by simpa using hrel2.rem
      have hsl := HROWR.out.sl hrel2.lt (by rw [hrel2.len, ← HLA.out]; exact hsm)
      rw [hrel2.len, ← HLA.out] at hsl
      have HSL := Lib.hid hsl; have HV := Lib.hid hv; have HRR := Lib.hid hrr
      clear hsl hv hrr hrel2
      go_wp2_with fail
      refine (trimmed_any HSL.out).mono ?_
      rintro e w' ⟨⟨v', rfl, hs', hn'⟩, rfl⟩
      rw [HV.out] at hs'
      have HS' := Lib.hid hs'; have HN' := Lib.hid (hn' w.heap.size (by intro a l c e; simp only [Value.slice.injEq, Option.some.injEq] at e; rw [← e.1]; exact Nat.le_refl _))
      clear hs' hn'
      go_wp2
      go_ret2
      exact ⟨v', by rw [← HRR.out]; rfl, HS'.out, HN'.out, HKR.out⟩
set_option maxRecDepth 100000 in
set_option maxHeartbeats 1000000 in
theorem small_any {xs : List Nat} {va : Value} {d : Nat} {w : World} (ha : Sl w va xs) (hd0 : 0 < d) (hd : d < 4294967296) :
    Calls Tryz.prog 81 #[va, .int .u64 d] w fun e w' => ∃ v', e = .returned (.tuple #[v', .int .u64 (val xs % d : Nat)]) ∧ Sl w' v' (limbs (val xs / d)) ∧ New w.heap.size v' ∧ Kp w w' := by
  have hsm := ha.sm
  have HSA := Lib.hid ha
  obtain ⟨⟨ao, ca, rfl, hca, hma, hat, _⟩, hxs, _⟩ := ha
  unfold maxLen at hma
  obtain ⟨la, hla⟩ : ∃ la, la = xs.length := ⟨_, rfl⟩
  rw [← hla] at hca hsm HSA
  rw [← hla]
  have HLA := Lib.hid hla; have HAT := Lib.hid hat; have HXS := Lib.hid hxs
  clear hla hat hxs
  go_enter Tryz.func81, Tryz.ntmps81
  go_wp2_with (at_make; refine wpList_mk rfl (.tmp 10) (.tmp 10) 24 rfl Tryz.underlying24 _ la rfl rfl rfl hsm ?_)
  intro w1 hrow hk1
  have HROW := Lib.hid hrow; have HK1 := Lib.hid hk1
  clear hrow hk1
  go_wp2_with fail
  go_loopw [7, 8] (fun rv i wr => ∃ (j : Int) (r : Nat) (zr : List Nat), -1 ≤ j ∧ j < la ∧ i = .int .i64 j ∧ rv = .int .u64 r ∧ r < d ∧ DivRel xs d (j + 1).toNat zr r ∧ Row wr w.heap.size 43 zr ∧ Only w.heap.size w1 wr) (fun _ i _ => (intOf i + 1).toNat)
  case atStart => exact ⟨_, 0, _, by omega, by omega, rfl, rfl, hd0, by have := DivRel.start xs d; rw [← HLA.out] at this; rwa [show ((la : Int) - 1 + 1).toNat = la by omega], HROW.out, Only.refl _ _⟩
  case round =>
    obtain ⟨j, r, zr, hj1, hj2, rfl, rfl, hr, hrel', hrow, honly⟩ := hrel
    have HKR : Hid (Kp w wr) := Only.kp HK1.out honly (Nat.le_refl _)
    have HREL := Lib.hid hrel'; have HROWR := Lib.hid hrow; have HON := Lib.hid honly
    clear hrel' hrow honly
    by_cases hj : 0 ≤ j
    · obtain ⟨m, rfl⟩ := Int.eq_ofNat_of_zero_le hj
      have hrel2 := HREL.out
      rw [show ((m : Int) + 1).toNat = m + 1 by omega] at hrel2
      have HREL2 := Lib.hid hrel2; clear hrel2
      obtain ⟨b, off, rfl, hcx⟩ := (HAT.out.keep HKR.out).cells (by have := HLA.out; omega)
      have hcell := hcx m (by have := HLA.out; omega)
      have hxb := HXS.out m
      clear hcx
      have hcellz := HROWR.out.cell m (by have := HREL.out.len; have := HLA.out; omega)
      have hfree : wr.frozen? ⟨w.heap.size, m, none⟩ = false := HROWR.out.free _
      obtain ⟨z, ez⟩ : ∃ z, z = zr[m]?.getD 0 := ⟨_, rfl⟩
      rw [← ez] at hcellz
      clear ez
      have hst := HREL2.out.step hd0 (by have := HLA.out; omega) hxb _ rfl
      obtain ⟨x, ex⟩ : ∃ x, x = xs[m]?.getD 0 := ⟨_, rfl⟩
      rw [← ex] at hcell hxb hst
      have EX := Lib.hid ex; clear ex
      obtain ⟨s, hs⟩ : ∃ s, s = x + 4294967296 * r := ⟨_, rfl⟩
      rw [← hs] at hst
      have hsb : s < 18446744073709551616 := by omega
      have hor : bits .or .u64 ((r : Int) * 4294967296) (x : Int) = (s : Int) := by rw [or_u64 hxb (by omega), hs]
      have hq1 := hst.1
      have hq2 : s % d < d := Nat.mod_lt _ hd0
      have HST := Lib.hid hst.2
      clear hst hs
      have hdi : (1 : Int) ≤ (d : Int) := by omega
      have hsi : (0 : Int) ≤ (s : Int) := by omega
      have hq3 : (s : Int) / (d : Int) = ((s / d : Nat) : Int) := by simp
      have hq4 : (s : Int) % (d : Int) = ((s % d : Nat) : Int) := by simp
      obtain ⟨q, hq⟩ : ∃ q, q = s / d := ⟨_, rfl⟩
      obtain ⟨t, ht⟩ : ∃ t, t = s % d := ⟨_, rfl⟩
      rw [← hq] at hq1 hq3 HST
      rw [← ht] at hq2 hq4 HST
      clear hq ht
      go_wp2
      go_roundw
      case rel => exact ⟨(m : Int) - 1, t, zr.set m q, by omega, by omega, by go_num, vint hq4, hq2, by rw [show ((m : Int) - 1 + 1).toNat = m by omega]; exact HST.out, HROWR.out.set' _ q _ (by first | rfl | exact hq3), HON.out.set _ _⟩
      case measure => simp [intOf]
    · have hj' : j = -1 := by omega
      subst hj'
      have hrel2 := HREL.out
      rw [show ((-1 : Int) + 1).toNat = 0 by omega] at hrel2
      have hv : val zr = val xs / d := by simpa using hrel2.quo
      have hrr : r = val xs % d := by simpa using hrel2.rem
      have hsl := HROWR.out.sl hrel2.lt (by rw [hrel2.len, ← HLA.out]; exact hsm)
      rw [hrel2.len, ← HLA.out] at hsl
      have HSL := Lib.hid hsl; have HV := Lib.hid hv; have HRR := Lib.hid hrr
      clear hsl hv hrr hrel2
      go_wp2_with fail
      refine (trim_any HSL.out).mono ?_
      rintro e w' ⟨v', rfl, hs', hn', hk'⟩
      rw [HV.out] at hs'
      have HS' := Lib.hid hs'; have HN' := Lib.hid (hn'.mono HKR.out.size); have HK' := Lib.hid (Kp.trans HKR.out hk')
      clear hs' hn' hk'
      go_wp2
      go_ret2
      exact ⟨v', by rw [← HRR.out]; rfl, HS'.out, HN'.out, HK'.out⟩
end Go.Proofs.YtdoponlhiidimaaGreatDoor
