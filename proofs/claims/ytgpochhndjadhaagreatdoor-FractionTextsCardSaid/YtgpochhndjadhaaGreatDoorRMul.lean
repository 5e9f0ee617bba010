/- Contracts of the reference's products. Conditions: the slices hold the digits that are named. -/
import Derived.Test.YtgpochhndjadhaaGreatDoorRSum
namespace Go.Proofs.YtgpochhndjadhaaGreatDoor
open Go.RowKit LimbN

set_option maxRecDepth 100000 in
set_option maxHeartbeats 2000000 in
theorem Times_any {xs ys : List Nat} {va vb : Value} {w : World} (ha : Sl w va xs) (hb : Sl w vb ys) (hsx : xs.length ≤ 1000000) (hsy : ys.length ≤ 1000000) :
    Calls Tryz.prog 53 #[va, vb] w fun e w' => ∃ v', e = .returned v' ∧ Sl w' v' (limbs (val xs * val ys)) ∧ New w.heap.size v' ∧ Kp w w' := by
  obtain ⟨⟨ao, ca, rfl, hca, hma, hat, _⟩, hxs, _⟩ := ha
  obtain ⟨⟨bo, cb, rfl, hcb, hmb, hbt, _⟩, hys, _⟩ := hb
  unfold maxLen at hma hmb
  obtain ⟨la, hla⟩ : ∃ la, la = xs.length := ⟨_, rfl⟩
  obtain ⟨lb, hlb⟩ : ∃ lb, lb = ys.length := ⟨_, rfl⟩
  rw [← hla] at hca hsx; rw [← hlb] at hcb hsy
  rw [← hla, ← hlb]
  have HLA := Lib.hid hla; have HLB := Lib.hid hlb; have HAT := Lib.hid hat; have HBT := Lib.hid hbt; have HXS := Lib.hid hxs; have HYS := Lib.hid hys
  clear hla hlb hat hbt hxs hys
  go_enter Tryz.func53, Tryz.ntmps53
  go_wp2_with (at_make; refine wpList_mk rfl (.tmp 13) (.tmp 13) 23 rfl Tryz.underlying23 _ (la + lb) rfl rfl (by omega) (by omega) ?_)
  intro w1 hrow hk1
  have HROW := Lib.hid hrow; have HK1 := Lib.hid hk1
  clear hrow hk1
  go_wp2_with fail
  go_loopw [6] (fun i wr => ∃ (k : Nat) (zr : List Nat), k ≤ la ∧ i = .int .i64 k ∧ TimesRel xs ys (la + lb) k zr ∧ Row wr w.heap.size 59 zr ∧ Only w.heap.size w1 wr) (fun i _ => la - (intOf i).toNat)
  case atStart => exact ⟨0, _, by omega, rfl, TimesRel.start xs ys (la + lb), HROW.out, Only.refl _ _⟩
  case round =>
    obtain ⟨i, zs, hi, rfl, hrel', hrow, honly⟩ := hrel
    have HREL := Lib.hid hrel'; have HROWS := Lib.hid hrow; have HON := Lib.hid honly
    have HKR : Hid (Kp w wr) := Only.kp HK1.out honly (Nat.le_refl _)
    clear hrel' hrow honly
    by_cases hia : i < la
    · obtain ⟨b, off, rfl, hcx⟩ := HAT.out.cells (by have := HLA.out; omega)
      have hcellx := hcx i (by have := HLA.out; omega)
      have hbsz := World.block_lt_of_cell? w _ hcellx
      have hbg : b ≠ w.heap.size := by simp only at hbsz; omega
      have hxb := HXS.out i
      clear hcx hbsz
      obtain ⟨x, ex⟩ : ∃ x, x = xs[i]?.getD 0 := ⟨_, rfl⟩
      rw [← ex] at hcellx hxb
      have EX := Lib.hid ex; clear ex
      have HCX := Lib.hid hcellx; clear hcellx
      obtain ⟨wo, rfl⟩ : ∃ wo : World, wo = wr := ⟨_, rfl⟩
      go_wp2_with fail
      go_loopw [7, 8] (fun c k wr => ∃ (k' c' : Nat) (zr : List Nat), k' ≤ lb + 1 ∧ (k' = lb + 1 → c' = 0) ∧ k = .int .i64 k' ∧ c = .int .u64 c' ∧ c' < 4294967296 ∧ AddRel zs i k' c' (x * val (ys.take k')) zr ∧ Row wr w.heap.size 59 zr ∧ Only w.heap.size w1 wr) (fun _ k _ => lb + 1 - (intOf k).toNat)
      case atStart => exact ⟨0, 0, zs, by omega, fun _ => rfl, rfl, rfl, by omega, by simpa [val] using AddRel.start zs i HREL.out.lt, HROWS.out, HON.out⟩
      case round =>
        obtain ⟨k, c', zr, hk, hk2, rfl, rfl, hc1, hrel', hrow, honly⟩ := hrel
        have HKK : Hid (Kp w wr) := Only.kp HK1.out honly (Nat.le_refl _)
        have HZL : Hid (zr.length = la + lb) := hrel'.len.trans HREL.out.len
        have HK2 := Lib.hid hk2
        have HRELI := Lib.hid hrel'; have HROWI := Lib.hid hrow; have HONI := Lib.hid honly
        clear hrel' hrow honly hk2
        by_cases hkb : k < lb
        · have hcellx := (World.cell?_of_block (HKK.out.block b (World.block_lt_of_cell? w _ HCX.out))).trans HCX.out
          obtain ⟨b', off', rfl, hcy⟩ := (HBT.out.keep HKK.out).cells (by have := HLB.out; omega)
          have hcelly := hcy k (by have := HLB.out; omega)
          have hyb := HYS.out k
          clear hcy
          obtain ⟨y, ey⟩ : ∃ y, y = ys[k]?.getD 0 := ⟨_, rfl⟩
          rw [← ey] at hcelly hyb
          have EY := Lib.hid ey; clear ey
          have hcellz := HROWI.out.cell (i + k) (by have := HZL.out; omega)
          have hzb := HRELI.out.lt (i + k)
          have hfree : wr.frozen? ⟨w.heap.size, i + k, none⟩ = false := HROWI.out.free _
          obtain ⟨z, ez⟩ : ∃ z, z = zr[i + k]?.getD 0 := ⟨_, rfl⟩
          rw [← ez] at hcellz hzb
          have EZ := Lib.hid ez; clear ez
          have hm := mul_small hxb hyb
          have hm0 : (0 : Int) ≤ (x : Int) * (y : Int) := by rw [← Int.natCast_mul]; exact Int.natCast_nonneg _
          have hm1 : (x : Int) * (y : Int) ≤ 18446744065119617025 := by rw [← Int.natCast_mul]; omega
          obtain ⟨sm, hsm⟩ : ∃ sm, sm = c' + (z + x * y) := ⟨_, rfl⟩
          have hsb : sm < 18446744073709551616 := by omega
          have SM := Lib.hid hsm; clear hsm
          go_wp2_with fail
          go_quiet (fail)
          go_wp2
          go_roundw
          case rel =>
            refine ⟨k + 1, sm / 4294967296, _, by omega, fun h => by omega, vint (by omega), vint (by have := SM.out; omega), by omega, ?_, Row.drewN (HROWI.out.set' _ (sm % 4294967296) _ (by have := SM.out; omega)) _, Only.drewN (HONI.out.set _ _) _⟩
            rw [val_take_succ, ← EY.out, Nat.mul_add, Nat.mul_left_comm]
            exact HRELI.out.step (by have := HZL.out; have := HREL.out.len; omega) (x * y) _ (by rw [← EZ.out]; exact SM.out)
          case measure => simp [intOf]; omega
        · by_cases hc0 : 0 < c'
          · have hkl : k = lb := by have := HK2.out; omega
            have hcellz := HROWI.out.cell (i + k) (by have := HZL.out; omega)
            have hz0 : zr[i + k]?.getD 0 = 0 := by rw [HRELI.out.other _ (.inr (Nat.le_refl _))]; exact HREL.out.zero _ (by have := HLB.out; omega)
            rw [hz0] at hcellz
            have HZ0 := Lib.hid hz0; clear hz0
            have hfree : wr.frozen? ⟨w.heap.size, i + k, none⟩ = false := HROWI.out.free _
            have hkle : k ≤ lb := by omega
            have HKL := Lib.hid hkl; clear hkl
            go_wp2
            go_roundw
            case rel =>
              refine ⟨k + 1, c' / 4294967296, _, by omega, fun h => by omega, vint (by omega), vint (by omega), by omega, ?_, HROWI.out.set' _ (c' % 4294967296) _ (by omega), HONI.out.set _ _⟩
              have hst := HRELI.out.step (by have := HZL.out; have := HREL.out.len; have := HKL.out; omega) 0 (c' + (0 + 0)) (by rw [HZ0.out])
              rw [List.take_of_length_le (by have := HLB.out; omega), Nat.mul_zero] at hst
              rw [List.take_of_length_le (by have := HLB.out; omega)]
              exact hst
            case measure => simp [intOf]; omega
          · have hc00 : c' = 0 := by omega
            subst hc00
            go_wp2
            go_roundw
            case rel =>
              refine ⟨i + 1, zr, by omega, vint (by omega), HREL.out.step (m := k) (by have := HLB.out; omega) (by omega) ?_, HROWI.out, HONI.out⟩
              have hr := HRELI.out
              rw [List.take_of_length_le (by have := HLB.out; omega), EX.out] at hr
              exact hr
            case measure => simp [intOf]; omega
    · have hil : i = la := by omega
      subst hil
      have hv : val zs = val xs * val ys := by rw [HREL.out.sum, List.take_of_length_le (by have := HLA.out; omega)]
      have hsl := HROWS.out.sl HREL.out.lt (by rw [HREL.out.len]; omega)
      rw [HREL.out.len] at hsl
      have HSL := Lib.hid hsl; have HV := Lib.hid hv
      clear hsl hv
      go_wp2_with fail
      refine (trim_any HSL.out).mono ?_
      rintro e w' ⟨v', rfl, hs', hn', hk'⟩
      rw [HV.out] at hs'
      have HS' := Lib.hid hs'; have HN' := Lib.hid (hn'.mono HKR.out.size); have HK' := Lib.hid (Kp.trans HKR.out hk')
      clear hs' hn' hk'
      go_wp2
      go_ret
      exact ⟨v', rfl, HS'.out, HN'.out, HK'.out⟩
end Go.Proofs.YtgpochhndjadhaaGreatDoor
