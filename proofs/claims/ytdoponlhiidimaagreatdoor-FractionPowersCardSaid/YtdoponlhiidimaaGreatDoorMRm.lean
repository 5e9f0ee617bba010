/- Contracts of the reference's sums, differences and products. Conditions: the slices hold the digits that are named. -/
import Derived.Test.YtdoponlhiidimaaGreatDoorMSm
namespace Go.Proofs.YtdoponlhiidimaaGreatDoor
open Go.RowKit LimbN

/-- A slice of the call's own that is appended to. -/
structure Own (w wr : World) (v : Value) (k : Nat) (zs : List Nat) : Prop where
  owns : wr.ownsRow w.heap.size 43 1 v k (U zs)
  len : zs.length = k
  lt : Lt zs
  kp : Kp w wr
theorem Own.start (w : World) : Own w w (.slice none 0 0) 0 [] := ⟨World.ownsRow_nil _ _ _ _, rfl, Lt.nil, Kp.refl _⟩
theorem at_one {w : World} {D : Int} {e : TypeId} {d : Nat} (h : D = (d : Int)) : At (w.alloc (.cells #[.int .u32 D] e)) (some ⟨w.heap.size, 0, none⟩) [d] := by
  subst h
  refine .inr ⟨w.heap.size, 0, rfl, fun i hi => ?_⟩
  obtain rfl : i = 0 := by simpa using hi
  rw [cell_of_row _ w.heap.size 0 _ e (0, 0) (heap_alloc_new w _)]
  simp
theorem Own.app {w wr w1 : World} {v v' : Value} {k d : Nat} {zs : List Nat} {o : Obj} (h : Own w wr v k zs) (hd : d < 4294967296) (h1 : w1.ownsRow w.heap.size 43 1 v' (k + 1) (U (zs ++ [d]))) (h2 : (wr.alloc o).grownBy w1 v.ownBlock) : Own w w1 v' (k + 1) (zs ++ [d]) := by
  refine ⟨h1, by simp [h.len], h.lt.append (Lt.cons hd Lt.nil), ?_⟩
  refine Below.grown (Below.alloc h.kp h.kp.size _) h2 (by have := h.kp.size; simp; omega) (fun k hk => (h.owns.lt k hk).1)

set_option maxRecDepth 100000 in
set_option maxHeartbeats 1000000 in
theorem Plus_any {xs ys : List Nat} {va vb : Value} {w : World} (ha : Sl w va xs) (hb : Sl w vb ys) (hsx : xs.length ≤ 1000000) (hsy : ys.length ≤ 1000000) :
    Calls Tryz.prog 74 #[va, vb] w fun e w' => ∃ v', e = .returned v' ∧ Sl w' v' (limbs (val xs + val ys)) ∧ New w.heap.size v' ∧ Kp w w' := by
  obtain ⟨⟨ao, ca, rfl, hca, hma, hat, _⟩, hxs, _⟩ := ha
  obtain ⟨⟨bo, cb, rfl, hcb, hmb, hbt, _⟩, hys, _⟩ := hb
  unfold maxLen at hma hmb
  obtain ⟨la, hla⟩ : ∃ la, la = xs.length := ⟨_, rfl⟩
  obtain ⟨lb, hlb⟩ : ∃ lb, lb = ys.length := ⟨_, rfl⟩
  rw [← hla] at hca hsx; rw [← hlb] at hcb hsy
  rw [← hla, ← hlb]
  have HLA := Lib.hid hla; have HLB := Lib.hid hlb; have HAT := Lib.hid hat; have HBT := Lib.hid hbt; have HXS := Lib.hid hxs; have HYS := Lib.hid hys
  clear hla hlb hat hbt hxs hys
  obtain ⟨M, hM1, hM2, hM3, hM4⟩ : ∃ M : Nat, la ≤ M ∧ lb ≤ M ∧ M ≤ 1000000 ∧ (la < M → lb = M) := ⟨max la lb, by omega, by omega, by omega, by omega⟩
  have HM4 := Lib.hid hM4; clear hM4
  go_enter Tryz.func74, Tryz.ntmps74
  go_wp2_with fail
  go_loopw [5, 6, 7] (fun v c i wr => ∃ (k c' : Nat) (zs : List Nat), k ≤ M + 1 ∧ (k = M + 1 → c' = 0) ∧ i = .int .i64 k ∧ c = .int .u64 c' ∧ c' ≤ 1 ∧ val zs + 4294967296 ^ k * c' = val (xs.take k) + val (ys.take k) ∧ Own w wr v k zs) (fun _ _ i _ => M + 1 - (intOf i).toNat)
  case atStart => exact ⟨0, 0, [], by omega, fun _ => rfl, rfl, rfl, by omega, by simp [val], Own.start w⟩
  case round =>
    obtain ⟨k, c', zs, hk, hk2, rfl, rfl, hc1, hsum, hown⟩ := hrel
    have HSUM := Lib.hid hsum; have HOWN := Lib.hid hown; have HK2 := Lib.hid hk2
    have hsz := hown.kp.size
    clear hsum hown hk2
    by_cases hka : k < la
    · obtain ⟨b, off, rfl, hcx⟩ := (HAT.out.keep HOWN.out.kp).cells (by have := HLA.out; omega)
      have hcellx := hcx k (by have := HLA.out; omega)
      have hxb := HXS.out k
      clear hcx
      obtain ⟨x, ex⟩ : ∃ x, x = xs[k]?.getD 0 := ⟨_, rfl⟩
      rw [← ex] at hcellx hxb
      have EX := Lib.hid ex; clear ex
      by_cases hkb : k < lb
      · obtain ⟨b', off', rfl, hcy⟩ := (HBT.out.keep HOWN.out.kp).cells (by have := HLB.out; omega)
        have hcelly := hcy k (by have := HLB.out; omega)
        have hyb := HYS.out k
        clear hcy
        obtain ⟨y, ey⟩ : ∃ y, y = ys[k]?.getD 0 := ⟨_, rfl⟩
        rw [← ey] at hcelly hyb
        have EY := Lib.hid ey; clear ey
        obtain ⟨sm, hsm⟩ : ∃ sm, sm = c' + (x + y) := ⟨_, rfl⟩
        have hsb : sm < 8589934592 := by omega
        have SM := Lib.hid hsm; clear hsm
        go_wp2_with (at_builtin; refine wpList_app rfl (.tmp 46) (.tmp 49) 24 rfl Tryz.underlying24 w.heap.size _ k zs rfl (HOWN.out.owns.alloc _) (some ⟨wr.heap.size, 0, none⟩) 1 1 [sm % 4294967296] rfl rfl (at_one (by have := SM.out; omega)) (fun h => nomatch h) (by omega) (by simp; omega) ?_)
        intro v' w1 hown' hgr
        have HOWN1 := Lib.hid (HOWN.out.app (by omega) hown' hgr)
        clear hown' hgr
        go_wp2
        go_roundw
        case rel => exact ⟨k + 1, sm / 4294967296, _, by omega, fun _ => by have := SM.out; omega, vint (by omega), vint (by have := SM.out; omega), by omega, plus_step _ HOWN.out.len HSUM.out EX.out EY.out SM.out, HOWN1.out⟩
        case measure => simp [intOf]; omega
      · have EY : Hid (0 = ys[k]?.getD 0) := by have := HLB.out; show _ = _; rw [List.getElem?_eq_none (by omega)]; rfl
        obtain ⟨sm, hsm⟩ : ∃ sm, sm = c' + (x + 0) := ⟨_, rfl⟩
        have hsb : sm < 8589934592 := by omega
        have SM := Lib.hid hsm; clear hsm
        go_wp2_with (at_builtin; refine wpList_app rfl (.tmp 46) (.tmp 49) 24 rfl Tryz.underlying24 w.heap.size _ k zs rfl (HOWN.out.owns.alloc _) (some ⟨wr.heap.size, 0, none⟩) 1 1 [sm % 4294967296] rfl rfl (at_one (by have := SM.out; omega)) (fun h => nomatch h) (by omega) (by simp; omega) ?_)
        intro v' w1 hown' hgr
        have HOWN1 := Lib.hid (HOWN.out.app (by omega) hown' hgr)
        clear hown' hgr
        go_wp2
        go_roundw
        case rel => exact ⟨k + 1, sm / 4294967296, _, by omega, fun _ => by have := SM.out; omega, vint (by omega), vint (by have := SM.out; omega), by omega, plus_step _ HOWN.out.len HSUM.out EX.out EY.out SM.out, HOWN1.out⟩
        case measure => simp [intOf]; omega
    · by_cases hkb : k < lb
      · obtain ⟨b', off', rfl, hcy⟩ := (HBT.out.keep HOWN.out.kp).cells (by have := HLB.out; omega)
        have hcelly := hcy k (by have := HLB.out; omega)
        have hyb := HYS.out k
        clear hcy
        obtain ⟨y, ey⟩ : ∃ y, y = ys[k]?.getD 0 := ⟨_, rfl⟩
        rw [← ey] at hcelly hyb
        have EY := Lib.hid ey; clear ey
        have EX : Hid (0 = xs[k]?.getD 0) := by have := HLA.out; show _ = _; rw [List.getElem?_eq_none (by omega)]; rfl
        obtain ⟨sm, hsm⟩ : ∃ sm, sm = c' + (0 + y) := ⟨_, rfl⟩
        have hsb : sm < 8589934592 := by omega
        have SM := Lib.hid hsm; clear hsm
        go_wp2_with (at_builtin; refine wpList_app rfl (.tmp 46) (.tmp 49) 24 rfl Tryz.underlying24 w.heap.size _ k zs rfl (HOWN.out.owns.alloc _) (some ⟨wr.heap.size, 0, none⟩) 1 1 [sm % 4294967296] rfl rfl (at_one (by have := SM.out; omega)) (fun h => nomatch h) (by omega) (by simp; omega) ?_)
        intro v' w1 hown' hgr
        have HOWN1 := Lib.hid (HOWN.out.app (by omega) hown' hgr)
        clear hown' hgr
        go_wp2
        go_roundw
        case rel => exact ⟨k + 1, sm / 4294967296, _, by omega, fun _ => by have := SM.out; omega, vint (by omega), vint (by have := SM.out; omega), by omega, plus_step _ HOWN.out.len HSUM.out EX.out EY.out SM.out, HOWN1.out⟩
        case measure => simp [intOf]; omega
      · by_cases hc0 : 0 < c'
        · have hkM : k ≤ M := by have := HK2.out; omega
          have EX : Hid (0 = xs[k]?.getD 0) := by have := HLA.out; show _ = _; rw [List.getElem?_eq_none (by omega)]; rfl
          have EY : Hid (0 = ys[k]?.getD 0) := by have := HLB.out; show _ = _; rw [List.getElem?_eq_none (by omega)]; rfl
          obtain ⟨sm, hsm⟩ : ∃ sm, sm = c' + (0 + 0) := ⟨_, rfl⟩
          have hsb : sm < 8589934592 := by omega
          have SM := Lib.hid hsm; clear hsm
          go_wp2_with (at_builtin; refine wpList_app rfl (.tmp 46) (.tmp 49) 24 rfl Tryz.underlying24 w.heap.size _ k zs rfl (HOWN.out.owns.alloc _) (some ⟨wr.heap.size, 0, none⟩) 1 1 [sm % 4294967296] rfl rfl (at_one (by have := SM.out; omega)) (fun h => nomatch h) (by omega) (by simp; omega) ?_)
          intro v' w1 hown' hgr
          have HOWN1 := Lib.hid (HOWN.out.app (by omega) hown' hgr)
          clear hown' hgr
          go_wp2
          go_roundw
          case rel => exact ⟨k + 1, sm / 4294967296, _, by omega, fun _ => by have := SM.out; omega, vint (by omega), vint (by have := SM.out; omega), by omega, plus_step _ HOWN.out.len HSUM.out EX.out EY.out SM.out, HOWN1.out⟩
          case measure => simp [intOf]; omega
        · have hc00 : c' = 0 := by omega
          subst hc00
          have hfin : val zs = val xs + val ys := by
            have := HSUM.out
            rwa [List.take_of_length_le (by have := HLA.out; omega), List.take_of_length_le (by have := HLB.out; omega), Nat.mul_zero, Nat.add_zero] at this
          have HFIN := Lib.hid hfin; clear hfin
          have hs1 := sl_of_owns HOWN.out.owns HOWN.out.lt (by have := HOWN.out.len; omega)
          have HS := Lib.hid hs1.1; have HN := Lib.hid hs1.2; clear hs1
          go_wp2_with fail
          refine (trim_any HS.out).mono ?_
          rintro e w' ⟨v', rfl, hs', hn', hk'⟩
          rw [HFIN.out] at hs'
          have HS' := Lib.hid hs'; have HN' := Lib.hid (hn'.mono hsz); have HK' := Lib.hid (Kp.trans HOWN.out.kp hk')
          clear hs' hn' hk'
          go_wp2
          go_ret
          exact ⟨v', rfl, HS'.out, HN'.out, HK'.out⟩

theorem wf_len {xs ys : List Nat} (hxl : Lt xs) (hyl : Lt ys) (hx : wf xs = true) (hy : wf ys = true) (hle : val ys ≤ val xs) : ys.length ≤ xs.length := by
  have h1 := (wf_canon hyl hy).1
  have h2 := (wf_canon hxl hx).1
  rw [← h1, limbs_len_le]
  have h3 : (limbs (val xs)).length ≤ xs.length := by rw [h2]; exact Nat.le_refl _
  rw [limbs_len_le] at h3
  omega
theorem limbs_mono {m n : Nat} (h : m ≤ n) : (limbs m).length ≤ (limbs n).length := by
  rw [limbs_len_le]
  have h3 : (limbs n).length ≤ (limbs n).length := Nat.le_refl _
  rw [limbs_len_le] at h3
  omega
end Go.Proofs.YtdoponlhiidimaaGreatDoor

/- Contracts of the reference's products. Conditions: the slices hold the digits that are named. -/
namespace Go.Proofs.YtdoponlhiidimaaGreatDoor
open Go.RowKit LimbN

set_option maxRecDepth 100000 in
set_option maxHeartbeats 2000000 in
theorem Times_any {xs ys : List Nat} {va vb : Value} {w : World} (ha : Sl w va xs) (hb : Sl w vb ys) (hsx : xs.length ≤ 1000000) (hsy : ys.length ≤ 1000000) :
    Calls Tryz.prog 47 #[va, vb] w fun e w' => ∃ v', e = .returned v' ∧ Sl w' v' (limbs (val xs * val ys)) ∧ New w.heap.size v' ∧ Kp w w' := by
  obtain ⟨⟨ao, ca, rfl, hca, hma, hat, _⟩, hxs, _⟩ := ha
  obtain ⟨⟨bo, cb, rfl, hcb, hmb, hbt, _⟩, hys, _⟩ := hb
  unfold maxLen at hma hmb
  obtain ⟨la, hla⟩ : ∃ la, la = xs.length := ⟨_, rfl⟩
  obtain ⟨lb, hlb⟩ : ∃ lb, lb = ys.length := ⟨_, rfl⟩
  rw [← hla] at hca hsx; rw [← hlb] at hcb hsy
  rw [← hla, ← hlb]
  have HLA := Lib.hid hla; have HLB := Lib.hid hlb; have HAT := Lib.hid hat; have HBT := Lib.hid hbt; have HXS := Lib.hid hxs; have HYS := Lib.hid hys
  clear hla hlb hat hbt hxs hys
  go_enter Tryz.func47, Tryz.ntmps47
  go_wp2_with (at_make; refine wpList_mk rfl (.tmp 13) (.tmp 13) 24 rfl Tryz.underlying24 _ (la + lb) rfl rfl (by omega) (by omega) ?_)
  intro w1 hrow hk1
  have HROW := Lib.hid hrow; have HK1 := Lib.hid hk1
  clear hrow hk1
  go_wp2_with fail
  go_loopw [6] (fun i wr => ∃ (k : Nat) (zr : List Nat), k ≤ la ∧ i = .int .i64 k ∧ TimesRel xs ys (la + lb) k zr ∧ Row wr w.heap.size 43 zr ∧ Only w.heap.size w1 wr) (fun i _ => la - (intOf i).toNat)
  case atStart => exact ⟨0, _, by omega, rfl, TimesRel.start xs ys (la + lb), HROW.out, Only.refl _ _⟩
  case round =>
    obtain ⟨i, zs, hi, rfl, hrel', hrow, honly⟩ := hrel
    have HREL := Lib.hid hrel'; have HROWS := Lib.hid hrow; have HON := Lib.hid honly
    have HKR : Hid (Kp w wr) := Only.kp HK1.out honly (Nat.le_refl _)
    clear hrel' hrow honly
    by_cases hia : i < la
    · obtain ⟨b, off, rfl, hcx⟩ := HAT.out.cells (by have := HLA.out; omega)
      have hcellx := hcx i (by have := HLA.out; omega)
      have hbsz := World.block_lt_of_cell? w _ hcellx
      have hbg : b ≠ w.heap.size := by simp only at hbsz; omega
      have hxb := HXS.out i
      clear hcx hbsz
      obtain ⟨x, ex⟩ : ∃ x, x = xs[i]?.getD 0 := ⟨_, rfl⟩
      rw [← ex] at hcellx hxb
      have EX := Lib.hid ex; clear ex
      have HCX := Lib.hid hcellx; clear hcellx
      obtain ⟨wo, rfl⟩ : ∃ wo : World, wo = wr := ⟨_, rfl⟩
      go_wp2_with fail
      go_loopw [7, 8] (fun c k wr => ∃ (k' c' : Nat) (zr : List Nat), k' ≤ lb + 1 ∧ (k' = lb + 1 → c' = 0) ∧ k = .int .i64 k' ∧ c = .int .u64 c' ∧ c' < 4294967296 ∧ AddRel zs i k' c' (x * val (ys.take k')) zr ∧ Row wr w.heap.size 43 zr ∧ Only w.heap.size w1 wr) (fun _ k _ => lb + 1 - (intOf k).toNat)
      case atStart => exact ⟨0, 0, zs, by omega, fun _ => rfl, rfl, rfl, by omega, by simpa [val] using AddRel.start zs i HREL.out.lt, HROWS.out, HON.out⟩
      case round =>
        obtain ⟨k, c', zr, hk, hk2, rfl, rfl, hc1, hrel', hrow, honly⟩ := hrel
        have HKK : Hid (Kp w wr) := Only.kp HK1.out honly (Nat.le_refl _)
        have HZL : Hid (zr.length = la + lb) := hrel'.len.trans HREL.out.len
        have HK2 := Lib.hid hk2
        have HRELI := Lib.hid hrel'; have HROWI := Lib.hid hrow; have HONI := Lib.hid honly
        clear hrel' hrow honly hk2
        by_cases hkb : k < lb
        · have hcellx := (World.cell?_of_block (HKK.out.block b (World.block_lt_of_cell? w _ HCX.out))).trans HCX.out
          obtain ⟨b', off', rfl, hcy⟩ := (HBT.out.keep HKK.out).cells (by have := HLB.out; omega)
          have hcelly := hcy k (by have := HLB.out; omega)
          have hyb := HYS.out k
          clear hcy
          obtain ⟨y, ey⟩ : ∃ y, y = ys[k]?.getD 0 := ⟨_, rfl⟩
          rw [← ey] at hcelly hyb
          have EY := Lib.hid ey; clear ey
          have hcellz := HROWI.out.cell (i + k) (by have := HZL.out; omega)
          have hzb := HRELI.out.lt (i + k)
          have hfree : wr.frozen? ⟨w.heap.size, i + k, none⟩ = false := HROWI.out.free _
          obtain ⟨z, ez⟩ : ∃ z, z = zr[i + k]?.getD 0 := ⟨_, rfl⟩
          rw [← ez] at hcellz hzb
          have EZ := Lib.hid ez; clear ez
          have hm := mul_small hxb hyb
          have hm0 : (0 : Int) ≤ (x : Int) * (y : Int) := by rw [← Int.natCast_mul]; exact Int.natCast_nonneg _
          have hm1 : (x : Int) * (y : Int) ≤ 18446744065119617025 := by rw [← Int.natCast_mul]; omega
          obtain ⟨sm, hsm⟩ : ∃ sm, sm = c' + (z + x * y) := ⟨_, rfl⟩
          have hsb : sm < 18446744073709551616 := by omega
          have SM := Lib.hid hsm; clear hsm
          go_wp2_with fail
          go_quiet (fail)
          go_wp2
          go_roundw
          case rel =>
            refine ⟨k + 1, sm / 4294967296, _, by omega, fun h => by omega, vint (by omega), vint (by have := SM.out; omega), by omega, ?_, Row.drewN (HROWI.out.set' _ (sm % 4294967296) _ (by have := SM.out; omega)) _, Only.drewN (HONI.out.set _ _) _⟩
            rw [val_take_succ, ← EY.out, Nat.mul_add, Nat.mul_left_comm]
            exact HRELI.out.step (by have := HZL.out; have := HREL.out.len; omega) (x * y) _ (by rw [← EZ.out]; exact SM.out)
          case measure => simp [intOf]; omega
        · by_cases hc0 : 0 < c'
          · have hkl : k = lb := by have := HK2.out; omega
            have hcellz := HROWI.out.cell (i + k) (by have := HZL.out; omega)
            have hz0 : zr[i + k]?.getD 0 = 0 := by rw [HRELI.out.other _ (.inr (Nat.le_refl _))]; exact HREL.out.zero _ (by have := HLB.out; omega)
            rw [hz0] at hcellz
            have HZ0 := Lib.hid hz0; clear hz0
            have hfree : wr.frozen? ⟨w.heap.size, i + k, none⟩ = false := HROWI.out.free _
            have hkle : k ≤ lb := by omega
            have HKL := Lib.hid hkl; clear hkl
            go_wp2
            go_roundw
            case rel =>
              refine ⟨k + 1, c' / 4294967296, _, by omega, fun h => by omega, vint (by omega), vint (by omega), by omega, ?_, HROWI.out.set' _ (c' % 4294967296) _ (by omega), HONI.out.set _ _⟩
              have hst := HRELI.out.step (by have := HZL.out; have := HREL.out.len; have := HKL.out; omega) 0 (c' + (0 + 0)) (by rw [HZ0.out])
              rw [List.take_of_length_le (by have := HLB.out; omega), Nat.mul_zero] at hst
              rw [List.take_of_length_le (by have := HLB.out; omega)]
              exact hst
            case measure => simp [intOf]; omega
          · have hc00 : c' = 0 := by omega
            subst hc00
            go_wp2
            go_roundw
            case rel =>
              refine ⟨i + 1, zr, by omega, vint (by omega), HREL.out.step (m := k) (by have := HLB.out; omega) (by omega) ?_, HROWI.out, HONI.out⟩
              have hr := HRELI.out
              rw [List.take_of_length_le (by have := HLB.out; omega), EX.out] at hr
              exact hr
            case measure => simp [intOf]; omega
    · have hil : i = la := by omega
      subst hil
      have hv : val zs = val xs * val ys := by rw [HREL.out.sum, List.take_of_length_le (by have := HLA.out; omega)]
      have hsl := HROWS.out.sl HREL.out.lt (by rw [HREL.out.len]; omega)
      rw [HREL.out.len] at hsl
      have HSL := Lib.hid hsl; have HV := Lib.hid hv
      clear hsl hv
      go_wp2_with fail
      refine (trim_any HSL.out).mono ?_
      rintro e w' ⟨v', rfl, hs', hn', hk'⟩
      rw [HV.out] at hs'
      have HS' := Lib.hid hs'; have HN' := Lib.hid (hn'.mono HKR.out.size); have HK' := Lib.hid (Kp.trans HKR.out hk')
      clear hs' hn' hk'
      go_wp2
      go_ret
      exact ⟨v', rfl, HS'.out, HN'.out, HK'.out⟩
end Go.Proofs.YtdoponlhiidimaaGreatDoor
