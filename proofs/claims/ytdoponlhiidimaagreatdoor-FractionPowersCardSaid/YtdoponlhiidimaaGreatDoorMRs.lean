/- The reference's division: quotient and remainder. Conditions: the slices hold the numbers that are named, of at most 1000 limbs; the divisor is not 0. -/
import Derived.Test.YtdoponlhiidimaaGreatDoorMRc
import Derived.Deep.RegionHeld3
namespace Go.Proofs.YtdoponlhiidimaaGreatDoor
open Go.RowKit LimbN

theorem cmp_n {w : World} {a b : Nat} {va vb : Value} (ha : Sl w va (limbs a)) (hb : Sl w vb (limbs b)) :
    Calls Tryz.prog 45 #[va, vb] w fun e w' => e = .returned (.int .i64 (if a < b then -1 else if b < a then 1 else 0)) ∧ Kp w w' := by
  refine (order_any ha hb).mono ?_
  rintro e w' ⟨rfl, hd⟩
  rw [cmp_val]
  exact ⟨rfl, hd.kp⟩
set_option maxRecDepth 100000 in
set_option maxHeartbeats 1000000 in
theorem Split_less {a b : Nat} {va vb : Value} {w : World} (ha : Sl w va (limbs a)) (hb : Sl w vb (limbs b)) (hla : (limbs a).length ≤ 1000) (hlt : a < b) :
    Calls Tryz.prog 57 #[va, vb] w (Quot a b w) := by
  have e1 : limbs (a / b) = [] := by rw [Nat.div_eq_of_lt hlt]; rfl
  have e2 : limbs (a % b) = limbs a := by rw [Nat.mod_eq_of_lt hlt]
  have FIN : Hid (∀ v w', Sl w' v (limbs a) → New w.heap.size v → Kp w w' → Quot a b w (.returned (.tuple #[.slice none 0 0, v])) w') := fun v w' h1 h2 h3 => ⟨⟨_, v, rfl, by rw [e1]; exact Sl.nil _, by rw [e2]; exact h1, New.nil _, h2⟩, h3⟩
  obtain ⟨Q, hQ⟩ : ∃ Q, Q = Quot a b w := ⟨_, rfl⟩
  rw [← hQ] at FIN ⊢
  have HC := cmp_n ha hb
  rw [if_pos hlt] at HC
  have HCC := Lib.hid HC
  obtain ⟨⟨ao, ca, rfl, hca, hma, hat, hano⟩, -, -⟩ := ha
  obtain ⟨la, ela⟩ : ∃ la, la = (limbs a).length := ⟨_, rfl⟩
  rw [← ela] at hca hla HCC ⊢
  unfold maxLen at hma
  have HAT := Lib.hid hat; have HANO := Lib.hid hano; have ELA := Lib.hid ela
  clear hat hano ela hQ e1 e2 hlt hb HC
  go_enter Tryz.func57, Tryz.ntmps57
  go_wp2_with fail
  refine HCC.out.mono ?_
  rintro e w1 ⟨rfl, hk⟩
  have HK := Lib.hid hk; clear hk
  have HAT1 := Lib.hid (HAT.out.keep HK.out)
  go_wp2_with (at_builtin; refine wpList_app rfl (.const (.slice none 0 0)) (.tmp 20) 24 rfl Tryz.underlying24 w1.heap.size _ 0 [] rfl (World.ownsRow_nil _ _ _ _) ao la ca (limbs a) rfl ELA.out.symm HAT1.out HANO.out (by omega) (Nat.le_refl _) ?_)
  intro v2 w2 hown hgr
  have hs := sl_of_owns (zs := limbs a) hown (Lt.limbs _) (by have := ELA.out; omega)
  have FIN2 := Lib.hid (FIN.out v2 w2 hs.1 (hs.2.mono HK.out.size) (Kp.trans HK.out (Kp.grown hgr (by simp [Value.ownBlock]))))
  clear hs hown hgr
  go_wp2
  (try go_ret2)
  exact FIN2.out
set_option maxRecDepth 100000 in
set_option maxHeartbeats 1000000 in
theorem Split_one {a b : Nat} {va vb : Value} {w : World} (ha : Sl w va (limbs a)) (hb : Sl w vb (limbs b)) (h0 : b ≠ 0) (h1 : (limbs b).length = 1) (hle : b ≤ a) :
    Calls Tryz.prog 57 #[va, vb] w (Quot a b w) := by
  have hb1 : b < 4294967296 := by have := (limbs_len_le (n := b) (k := 1)).1 (by omega); omega
  have hbl : limbs b = [b] := by
    rw [limbs_pos h0, Nat.mod_eq_of_lt hb1, Nat.div_eq_of_lt hb1]; rfl
  have FIN : Hid (∀ e vq vr w', e = .returned (.tuple #[vq, vr]) → Sl w' vq (limbs (a / b)) → Sl w' vr (limbs (a % b)) → New w.heap.size vq → New w.heap.size vr → Kp w w' → Quot a b w e w') := fun e vq vr w' h1 h2 h3 h4 h5 h6 => ⟨⟨vq, vr, h1, h2, h3, h4, h5⟩, h6⟩
  obtain ⟨Q, hQ⟩ : ∃ Q, Q = Quot a b w := ⟨_, rfl⟩
  rw [← hQ] at FIN ⊢
  have HC := cmp_n ha hb
  obtain ⟨c, hc⟩ : ∃ c : Int, c = if a < b then -1 else if b < a then 1 else 0 := ⟨_, rfl⟩
  have hcn : ¬ c < 0 := by rw [hc, if_neg (by omega)]; split <;> omega
  rw [← hc] at HC
  have HCC := Lib.hid HC; have HA := Lib.hid ha
  obtain ⟨⟨bo, cb, rfl, hcb, hmb, hbt, -⟩, -, -⟩ := hb
  rw [hbl] at hbt
  obtain ⟨bl, off, rfl, hcells⟩ := hbt.cells (by simp)
  have hcell0 := hcells 0 (by simp)
  simp only [List.getElem?_cons_zero, Option.getD_some, Nat.add_zero] at hcell0
  have HC0 := Lib.hid hcell0
  rw [h1] at HCC hcb ⊢
  unfold maxLen at hmb
  have B0 := Lib.hid (Nat.pos_of_ne_zero h0)
  clear ha hbt hcells hcell0 hc hQ HC h0 h1 hle hbl
  go_enter Tryz.func57, Tryz.ntmps57
  go_wp2_with fail
  refine HCC.out.mono ?_
  rintro e w1 ⟨rfl, hk⟩
  have HK := Lib.hid hk; clear hk
  have HA1 := Lib.hid (HA.out.keep HK.out)
  have hcell : w1.cell? ⟨bl, off, none⟩ = some (.int .u32 (b : Nat)) := (HK.out.cell (World.block_lt_of_cell? w _ HC0.out)).trans HC0.out
  go_wp2_with fail
  refine (small_any HA1.out B0.out hb1).mono ?_
  rintro e w2 ⟨vq, rfl, hs2, hn2, hk2⟩
  rw [val_limbs] at hs2 ⊢
  have HS2 := Lib.hid hs2; have HN2 := Lib.hid (hn2.mono HK.out.size); have HK2 := Lib.hid (Kp.trans HK.out hk2)
  clear hs2 hn2 hk2 hcell
  have hrb : a % b < 18446744073709551616 := by have := Nat.mod_lt a B0.out; omega
  obtain ⟨r, er⟩ : ∃ r, r = a % b := ⟨_, rfl⟩
  rw [← er] at hrb ⊢
  have ER := Lib.hid er; clear er
  go_wp2_with fail
  refine (rof_any r w2 hrb).mono ?_
  rintro e w3 ⟨vr, rfl, hs3, hn3, hk3⟩
  rw [ER.out] at hs3
  have FIN2 := Lib.hid (FIN.out _ vq vr w3 rfl (HS2.out.keep hk3) hs3 HN2.out (hn3.mono HK2.out.size) (Kp.trans HK2.out hk3))
  clear hs3 hn3 hk3
  go_wp2
  (try go_ret2)
  exact FIN2.out

theorem norm_gap {dt s : Nat} (hs : s < 32) (h : dt * 2 ^ s < 4294967296) : (dt + 1) * 2 ^ s ≤ 4294967296 := by
  have e := pow32 hs
  have h1 : dt < 2 ^ (32 - s) := by
    rw [← e, Nat.mul_comm (2 ^ s)] at h
    exact Nat.lt_of_mul_lt_mul_right h
  have := Nat.mul_le_mul_right (2 ^ s) (show dt + 1 ≤ 2 ^ (32 - s) from h1)
  rw [Nat.mul_comm (2 ^ (32 - s)), e] at this
  exact this
/-- The estimate's limbs. -/
theorem two_of {zr dv : List Nat} {o m R D : Nat} (hz : Lt zr) (hd : Lt dv) (hdl : dv.length = m + 2) (hR : R = seg zr o (m + 3)) (hD : D = val dv) (hlt : R < 4294967296 * D) (hn : 4294967296 ^ (m + 1) * 2147483648 ≤ D) :
    Two R D (4294967296 ^ m) (zr[o + m]?.getD 0) (zr[o + (m + 1)]?.getD 0 + 4294967296 * zr[o + (m + 2)]?.getD 0) (dv[m]?.getD 0) (dv[m + 1]?.getD 0) := by
  have hp : 0 < 4294967296 ^ m := Nat.pow_pos (by omega)
  have e1 : R = seg zr o m + 4294967296 ^ m * (zr[o + m]?.getD 0 + 4294967296 * (zr[o + (m + 1)]?.getD 0 + 4294967296 * zr[o + (m + 2)]?.getD 0)) := by
    rw [hR, seg_succ, seg_succ, seg_succ]
    simp only [Nat.pow_succ, Nat.mul_add, Nat.mul_assoc]; omega
  have e2 := seg_lt hz o m
  have e3 : D = val (dv.take m) + 4294967296 ^ m * (dv[m]?.getD 0 + 4294967296 * dv[m + 1]?.getD 0) := by
    have h := val_take_succ dv (m + 1)
    rw [List.take_of_length_le (by omega), val_take_succ] at h
    rw [hD, h]
    simp only [Nat.pow_succ, Nat.mul_add, Nat.mul_assoc]; omega
  have e4 : val (dv.take m) < 4294967296 ^ m := by have := val_lt (hd.take m); rwa [List.length_take, Nat.min_eq_left (by omega)] at this
  refine ⟨by omega, by rw [Nat.mul_add]; omega, by omega, by rw [Nat.mul_add]; omega, hp, hlt, hz _, hd _, hd _, ?_⟩
  refine Nat.le_of_not_lt fun h => ?_
  have h1 : 4294967296 ^ m * (dv[m]?.getD 0 + 4294967296 * dv[m + 1]?.getD 0 + 1) ≤ 4294967296 ^ m * (4294967296 * 2147483648) := Nat.mul_le_mul_left _ (by have := hd m; omega)
  rw [Nat.mul_add] at h1
  rw [Nat.pow_succ, Nat.mul_assoc] at hn
  omega
theorem est_bound {top v1 : Nat} (h : 2147483648 ≤ v1) (ht : top < 18446744073709551616) : top / v1 ≤ 8589934591 := by
  have : top / v1 < 8589934592 := by
    rw [Nat.div_lt_iff_lt_mul (by omega)]
    have := Nat.mul_le_mul_left 8589934592 h
    omega
  omega
end Go.Proofs.YtdoponlhiidimaaGreatDoor

/- The reference's division by a divisor of two limbs or more. Conditions: the slices hold the numbers that are named, of at most 1000 limbs. -/
namespace Go.Proofs.YtdoponlhiidimaaGreatDoor
open Go.RowKit LimbN

theorem wrap_in64 {n : Int} (h0 : -9223372036854775808 ≤ n) (h1 : n ≤ 9223372036854775807) : IntKind.i64.wrap n = n := by rw [IntKind.wrap_i64]; omega
theorem wrap_inu {n : Int} (h0 : 0 ≤ n) (h1 : n ≤ 18446744073709551615) : IntKind.u64.wrap n = n := by rw [IntKind.wrap_u64]; omega
theorem LongSt.drawn {xs dv : List Nat} {D m g2 g3 : Nat} {vd : Value} {w wr wy : World} {k : Nat} {zr ds : List Nat} {n : Nat} (h : LongSt xs dv D m g2 g3 vd w wr k zr ds n) (hd : Drawn wr wy) : LongSt xs dv D m g2 g3 vd w wy k zr ds n := by
  obtain ⟨h1, h2, h3, h4, h5, h6⟩ := h
  exact ⟨h1, h2, h3.keep hd.kp, h4.keep hd.kp, h5.keep hd.kp, Kp.trans h6 hd.kp⟩
theorem Sl.cells {w : World} {g o n c : Nat} {xs : List Nat} (h : Sl w (.slice (some ⟨g, o, none⟩) n c) xs) (i : Nat) (hi : i < n) (hn : xs.length = n) : w.cell? ⟨g, o + i, none⟩ = some (.int .u32 (xs[i]?.getD 0 : Nat)) := by
  obtain ⟨⟨ao, cap, e, _, _, hat, _⟩, _, _⟩ := h
  simp only [Value.slice.injEq] at e
  obtain ⟨b', off', h6, h7⟩ := hat.cells (by omega)
  rw [← e.1] at h6
  simp only [Option.some.injEq, Addr.mk.injEq, and_true] at h6
  rw [h6.1, h6.2]
  exact h7 i (by omega)
set_option maxRecDepth 100000 in
set_option maxHeartbeats 8000000 in
theorem Split_more {a b : Nat} {va vb : Value} {w : World} (ha : Sl w va (limbs a)) (hb : Sl w vb (limbs b)) (hla : (limbs a).length ≤ 1000) (h2 : 2 ≤ (limbs b).length) (hle : b ≤ a) :
    Calls Tryz.prog 57 #[va, vb] w (Quot a b w) := by
  have hb0 : b ≠ 0 := fun h => by subst h; simp [limbs_zero] at h2
  have hll := limbs_mono hle
  obtain ⟨m, hm⟩ : ∃ m, (limbs b).length = m + 2 := ⟨(limbs b).length - 2, by omega⟩
  obtain ⟨K, hK⟩ : ∃ K, (limbs a).length = K + (m + 2) := ⟨(limbs a).length - (m + 2), by omega⟩
  have hdt : (limbs b)[m + 1]?.getD 0 ≠ 0 := by
    have := limbs_last hb0
    rwa [hm] at this
  have hdb := Lt.limbs b (m + 1)
  have FIN : Hid (∀ e vq vr w', e = .returned (.tuple #[vq, vr]) → Sl w' vq (limbs (a / b)) → Sl w' vr (limbs (a % b)) → New w.heap.size vq → New w.heap.size vr → Kp w w' → Quot a b w e w') := fun e vq vr w' h1 h2 h3 h4 h5 h6 => ⟨⟨vq, vr, h1, h2, h3, h4, h5⟩, h6⟩
  obtain ⟨Q, hQ⟩ : ∃ Q, Q = Quot a b w := ⟨_, rfl⟩
  rw [← hQ] at FIN ⊢
  have HC := cmp_n ha hb
  obtain ⟨c, hc⟩ : ∃ c : Int, c = if a < b then -1 else if b < a then 1 else 0 := ⟨_, rfl⟩
  have hcn : ¬ c < 0 := by rw [hc, if_neg (by omega)]; split <;> omega
  rw [← hc] at HC
  have HCC := Lib.hid HC; have HA := Lib.hid ha; have HB := Lib.hid hb
  obtain ⟨⟨ao, ca, rfl, hca, hma, -, -⟩, -, -⟩ := ha
  obtain ⟨⟨bo, cb, rfl, hcb, hmb, hbt, -⟩, -, -⟩ := hb
  rw [hK] at hca hla HA HCC ⊢
  rw [hm] at hcb HB HCC ⊢
  unfold maxLen at hma hmb
  have hKb : K + (m + 2) ≤ 1000 := hla
  obtain ⟨bl, off, rfl, hcy⟩ := hbt.cells (by omega)
  have hcd := hcy (m + 1) (by omega)
  obtain ⟨n, en⟩ : ∃ n, n = m + 2 := ⟨_, rfl⟩
  obtain ⟨dt, edt⟩ : ∃ dt, dt = (limbs b)[m + 1]?.getD 0 := ⟨_, rfl⟩
  rw [← edt] at hcd hdb hdt
  have HBT := Lib.hid hcd; have HM := Lib.hid hm; have HKK := Lib.hid hK; have EDT := Lib.hid edt
  have hlz : (((m + 2 : Nat) : Int) == 1) = false := beq_eq_false_iff_ne.2 (by omega)
  rw [show m + 1 = n - 1 by omega] at HBT
  rw [← en] at HB HCC hcb hKb hca HA hlz ⊢
  clear hQ HC hc hbt hcy hcd hm hK edt hla h2 hll hle
  have hn2 : 2 ≤ n := by omega
  have EN := Lib.hid en; clear en
  go_enter Tryz.func57, Tryz.ntmps57
  go_wp2_with fail
  refine HCC.out.mono ?_
  rintro e w1 ⟨rfl, hk⟩
  have HK1 := Lib.hid hk; clear hk
  have HA1 := Lib.hid (HA.out.keep HK1.out); have HB1 := Lib.hid (HB.out.keep HK1.out)
  have hcell : w1.cell? ⟨bl, off + (n - 1), none⟩ = some (.int .u32 (dt : Nat)) := (HK1.out.cell (World.block_lt_of_cell? w _ HBT.out)).trans HBT.out
  go_wp2_with fail
  go_loop [8] (fun sv => ∃ s : Nat, sv = .int .i64 s ∧ s < 32 ∧ dt * 2 ^ s < 4294967296) (fun sv => 32 - (intOf sv).toNat)
  case atStart => exact ⟨0, rfl, by omega, by simpa using hdb⟩
  case round =>
    obtain ⟨s, rfl, hs, hlt⟩ := hrel
    obtain ⟨T, eT⟩ : ∃ T, T = dt * 2 ^ s := ⟨_, rfl⟩
    have hsh : (dt : Int) * 2 ^ s = (T : Int) := by rw [eT, Int.natCast_mul, Int.natCast_pow]; rfl
    have hTb : T < 4294967296 := by omega
    by_cases hT : (T : Int) < 2147483648
    · have hs31 : s + 1 < 32 := by
        refine Nat.lt_of_not_le fun h => ?_
        have hs31 : s = 31 := by omega
        have h31 := Nat.mul_le_mul_right (2 ^ s) (Nat.pos_of_ne_zero hdt)
        have h32 : 2147483648 ≤ 2 ^ s := by rw [hs31]; decide +kernel
        omega
      have NX : Hid (dt * 2 ^ (s + 1) < 4294967296) := by show _ < _; rw [Nat.pow_succ, ← Nat.mul_assoc]; omega
      clear eT hlt
      go_wp2
      go_round
      case rel => exact ⟨s + 1, vint (by omega), hs31, NX.out⟩
      case measure => simp [intOf]; omega
    · have hnorm := norm_of (ys := limbs b) hs (Lt.limbs b) HM.out (by rw [← EDT.out]; omega) (by rw [← EDT.out]; exact norm_gap hs hlt)
      have HN := Lib.hid hnorm
      clear eT hlt hnorm
      go_wp2_with fail
      have hi0 : (0 : Int) ≤ (n : Int) := by omega
      have hi1 : (n : Int) ≤ ((n + 1 : Nat) : Int) := by omega
      have hi2 : (n : Int) ≤ (n : Int) + 1 := by omega
      have hi3 : n ≤ n + 1 := by omega
      go_region_held3 (fun w' => Kp w1 w')
        (first | exact Kp.refl _ | assumption | exact Kp.trans (by assumption) (by assumption) | exact Kp.trans (by assumption) (Kp.drewN _ 1) | exact Kp.drewN _ 1)
        (first
          | (go_at_call_of 83 (Value.slice ao (K + n) ca); refine (up_any (HA1.out.keep (Kp.drewN w1 1)) (by have := HKK.out; have := EN.out; omega) s hs).mono ?_; intro e w3 hsh; obtain ⟨⟨z2, rfl, hr2, hz2, hl2, hv2, ht2⟩, hk3⟩ := hsh; rw [HKK.out, ← EN.out] at hl2 ht2 ⊢)
          | (go_at_call_of 83 (Value.slice (some ⟨bl, off, none⟩) n cb); refine (up_any (HB1.out.keep (Kp.trans (Kp.drewN w1 1) (by assumption))) (by have := HM.out; have := EN.out; omega) s hs).mono ?_; intro e w4 hsh; obtain ⟨⟨z1, rfl, hr1, hz1, hl1, hv1, -⟩, hk4⟩ := hsh; rw [HM.out, ← EN.out] at hl1 ⊢))
      obtain ⟨D, eD⟩ : ∃ D, D = val (limbs b) * 2 ^ s := ⟨_, rfl⟩
      have hn0 := HN.out
      obtain ⟨hn1, -⟩ := norm_row hn0 hz1 (by rw [hl1, EN.out]) hv1
      rw [← eD] at hn0 hn1
      have hls := long_start (K := K) hn0 hz2 (by rw [hl2, EN.out]; omega) (by rw [EN.out] at ht2; exact ht2)
      rw [show m + 1 + 1 = n by have := EN.out; omega] at hn1
      have hdv : Sl w4 (.slice (some ⟨w3.heap.size, 0, none⟩) n (n + 1)) (z1.take n) :=
        Sl.cut (ao := some ⟨w3.heap.size, 0, none⟩) (by rw [hl1]; exact Nat.le_refl _) (by unfold maxLen; omega) (by simpa using hr1.at 0) hz1 (by rw [hl1]; omega) (fun h => nomatch h) n (by rw [hl1]; omega)
      have hdl : (z1.take n).length = n := by rw [List.length_take, hl1]; omega
      obtain ⟨dv, edv⟩ : ∃ dv, dv = z1.take n := ⟨_, rfl⟩
      rw [← edv] at hn1 hdv hdl
      obtain ⟨g2, eg2⟩ : ∃ g2, g2 = w1.heap.size := ⟨_, rfl⟩
      obtain ⟨g1, eg1⟩ : ∃ g1, g1 = w3.heap.size := ⟨_, rfl⟩
      have hr2' : Row w3 g2 43 z2 := by rw [eg2]; exact hr2
      have hg12 : g2 < g1 := by rw [eg1]; exact hr2'.lt
      have hg14 : g1 < w4.heap.size := by rw [eg1]; exact hr1.lt
      have hg2w : w.heap.size ≤ g2 := by rw [eg2]; exact HK1.out.size
      rw [← eg1] at hdv ⊢
      rw [← eg2]
      have hk04 : Kp w w4 := Kp.trans HK1.out (Kp.trans (Kp.trans (Kp.drewN w1 1) hk3) hk4)
      have HR2 := Lib.hid (hr2'.keep hk4); have HDV := Lib.hid hdv; have HDL := Lib.hid hdl; have HN1 := Lib.hid hn1; have HN0 := Lib.hid hn0; have HLS := Lib.hid hls; have HK4 := Lib.hid hk04; have HL2 := Lib.hid hl2; have HZ2 := Lib.hid hz2; have ED := Lib.hid eD
      have HV2 : Hid (val z2 = a * 2 ^ s) := by show _ = _; rw [hv2, val_limbs]
      clear hr2 hz2 hl2 hv2 ht2 hk3 hr1 hz1 hl1 hv1 hk4 hn0 hn1 hls hdv hdl edv eg2 eg1 hr2' hk04 eD hi0 hi1 hi2 hi3
      clear hsh hTb hT hcell
      go_wp2_with (at_make; refine wpList_mk rfl (.tmp 62) (.tmp 62) 24 rfl Tryz.underlying24 _ (K + 1) rfl rfl (by omega) (by omega) ?_)
      intro w5 hr3 hk5
      obtain ⟨g3, eg3⟩ : ∃ g3, g3 = w4.heap.size := ⟨_, rfl⟩
      rw [← eg3] at hr3 ⊢
      have hg13 : g1 < g3 := by omega
      have ST0 : Hid (LongSt z2 dv D 0 g2 g3 (.slice (some ⟨g1, 0, none⟩) n (n + 1)) w w5 (K + 1) z2 (List.replicate (K + 1) 0) (K + 1)) := ⟨HLS.out, by simp, HR2.out.keep hk5, hr3, HDV.out.keep hk5, Kp.trans HK4.out hk5⟩
      have hg3w : w.heap.size ≤ g3 := by omega
      clear hr3 hk5 eg3
      go_wp2_with fail
      go_loopw [12] (fun jv wr => ∃ (j : Int) (zr ds : List Nat), -1 ≤ j ∧ j ≤ K ∧ jv = .int .i64 j ∧ LongSt z2 dv D 0 g2 g3 (.slice (some ⟨g1, 0, none⟩) n (n + 1)) w wr (j + 1).toNat zr ds (K + 1)) (fun jv _ => (intOf jv + 1).toNat)
      case atStart => exact ⟨(K : Int), z2, _, by omega, by omega, vint (by omega), by rw [show ((K : Int) + 1).toNat = K + 1 by omega]; exact ST0.out⟩
      case round =>
        obtain ⟨j, zr, ds, hj1, hj2, rfl, hst⟩ := hrel
        rename World => wr
        by_cases hj : 0 ≤ j
        · obtain ⟨i, rfl⟩ := Int.eq_ofNat_of_zero_le hj
          rw [show ((i : Int) + 1).toNat = i + 1 by omega] at hst
          have hzl : zr.length = K + n + 1 := by rw [hst.rel.len, HL2.out]
          have hDb : D < 4294967296 ^ n := by have := HN0.out.hi; rwa [show m + 1 + 1 = n by have := EN.out; omega] at this
          have hwin := (hst.rel.window (n := n) (by rw [HL2.out]; omega) HN0.out.pos (Nat.le_of_lt hDb)).1
          have hlt : seg zr i (n + 1) < 4294967296 * D := by
            rw [hwin]
            have h1 := Nat.mod_lt (val (z2.drop (i + 1))) HN0.out.pos
            have h2 := HZ2.out i
            have h3 := Nat.mul_le_mul_left 4294967296 (show val (z2.drop (i + 1)) % D + 1 ≤ D from h1)
            rw [Nat.mul_add] at h3
            omega
          have htwo := two_of (zr := zr) (dv := dv) (o := i) (m := m) (R := seg zr i (n + 1)) (D := D) hst.rel.lt hst.dv.lt (by rw [HDL.out, EN.out]) (by rw [EN.out]) HN1.out.symm hlt HN0.out.lo
          have hc0 := hst.r2.cell (i + n) (by omega)
          have hc1 := hst.r2.cell (i + n - 1) (by omega)
          have hc2 := hst.r2.cell (i + n - 2) (by omega)
          have hd1 := hst.dv.cells (n - 1) (by omega) HDL.out
          have hd2 := hst.dv.cells (n - 2) (by omega) HDL.out
          rw [Nat.zero_add] at hd1 hd2
          rw [show i + n = i + (m + 2) by have := EN.out; omega] at hc0
          rw [show i + n - 1 = i + (m + 1) by have := EN.out; omega] at hc1
          rw [show i + n - 2 = i + m by have := EN.out; omega] at hc2
          rw [show n - 1 = m + 1 by have := EN.out; omega] at hd1
          rw [show n - 2 = m by have := EN.out; omega] at hd2
          obtain ⟨x0, ex0⟩ : ∃ x, x = zr[i + (m + 2)]?.getD 0 := ⟨_, rfl⟩
          obtain ⟨x1, ex1⟩ : ∃ x, x = zr[i + (m + 1)]?.getD 0 := ⟨_, rfl⟩
          obtain ⟨x2, ex2⟩ : ∃ x, x = zr[i + m]?.getD 0 := ⟨_, rfl⟩
          obtain ⟨y1, ey1⟩ : ∃ x, x = dv[m + 1]?.getD 0 := ⟨_, rfl⟩
          obtain ⟨y2, ey2⟩ : ∃ x, x = dv[m]?.getD 0 := ⟨_, rfl⟩
          have hx0b := hst.rel.lt (i + (m + 2))
          have hx1b := hst.rel.lt (i + (m + 1))
          rw [← ex0] at hc0 htwo hx0b; rw [← ex1] at hc1 htwo hx1b; rw [← ex2] at hc2 htwo; rw [← ey1] at hd1 htwo; rw [← ey2] at hd2 htwo
          have hx2b := htwo.hu2; have hy1b := htwo.hv1; have hy2b := htwo.hv2; have hy1n := htwo.nm
          obtain ⟨p0, ep0⟩ : ∃ p, p = i + (m + 2) := ⟨_, rfl⟩
          obtain ⟨p1, ep1⟩ : ∃ p, p = i + (m + 1) := ⟨_, rfl⟩
          obtain ⟨p2, ep2⟩ : ∃ p, p = i + m := ⟨_, rfl⟩
          obtain ⟨n1, en1⟩ : ∃ p, p = m + 1 := ⟨_, rfl⟩
          obtain ⟨n2, en2⟩ : ∃ p, p = m := ⟨_, rfl⟩
          rw [← ep0] at hc0; rw [← ep1] at hc1; rw [← ep2] at hc2; rw [← en1] at hd1; rw [← en2] at hd2
          have HST := Lib.hid hst; have HLT := Lib.hid hlt; have HZL := Lib.hid hzl; have HDB := Lib.hid hDb
          obtain ⟨tp, etp⟩ : ∃ tp, tp = x1 + 4294967296 * x0 := ⟨_, rfl⟩
          rw [← etp] at htwo
          have htpb : tp < 18446744073709551616 := by omega
          have hor : bits .or .u64 ((x0 : Int) * 4294967296) (x1 : Int) = (tp : Int) := by rw [or_u64 hx1b hx0b, etp]
          have TWO := Lib.hid htwo
          have hq0b := est_bound hy1n htpb
          have EST0 := Lib.hid (est_start htwo.start)
          have hr0b : tp % y1 < y1 := Nat.mod_lt _ (by omega)
          have hEN := EN.out
          have hP0 : (p0 : Int) = (i : Int) + (n : Int) := by omega
          have hP1 : (p1 : Int) = (i : Int) + (n : Int) - 1 := by omega
          have hP2 : (p2 : Int) = (i : Int) + (n : Int) - 2 := by omega
          have hN1 : (n1 : Int) = (n : Int) - 1 := by omega
          have hN2 : (n2 : Int) = (n : Int) - 2 := by omega
          have hp0b : p0 < K + n + 1 := by omega
          have hp1b : p1 < K + n + 1 := by omega
          have hp2b : p2 < K + n + 1 := by omega
          have hn1b : n1 < n := by omega
          have hn2b : n2 < n := by omega
          obtain ⟨q0, eq0⟩ : ∃ q, q = tp / y1 := ⟨_, rfl⟩
          obtain ⟨r0, er0⟩ : ∃ r, r = tp % y1 := ⟨_, rfl⟩
          rw [← eq0] at hq0b EST0; rw [← er0] at hr0b EST0
          have EQ0 := Lib.hid eq0; have ER0 := Lib.hid er0
          clear hst hzl hDb hwin hlt htwo ex0 ex1 ex2 ey1 ey2 ep0 ep1 ep2 en1 en2 etp eq0 er0 hEN
          have hw0 : IntKind.i64.wrap ((i : Int) + (n : Int)) = (p0 : Int) := by rw [IntKind.wrap_i64]; omega
          have hw1 : IntKind.i64.wrap ((p0 : Int) - 1) = (p1 : Int) := by rw [IntKind.wrap_i64]; omega
          have hw2 : IntKind.i64.wrap ((p0 : Int) - 2) = (p2 : Int) := by rw [IntKind.wrap_i64]; omega
          have hw3 : IntKind.i64.wrap ((n : Int) - 1) = (n1 : Int) := by rw [IntKind.wrap_i64]; omega
          have hw4 : IntKind.i64.wrap ((n : Int) - 2) = (n2 : Int) := by rw [IntKind.wrap_i64]; omega
          have hP0i : (p0 : Int) < ((K + n + 1 : Nat) : Int) := by omega
          have hq1 : (tp : Int) / (y1 : Int) = (q0 : Int) := by rw [EQ0.out]; simp
          have hq2 : (tp : Int).tdiv (y1 : Int) = (q0 : Int) := by rw [EQ0.out]; rfl
          have hr1 : (tp : Int) % (y1 : Int) = (r0 : Int) := by rw [ER0.out]; simp
          have hr2 : (tp : Int).tmod (y1 : Int) = (r0 : Int) := by rw [ER0.out]; rfl
          have hyz : ((y1 : Int) == 0) = false := beq_eq_false_iff_ne.2 (by omega)
          have hyi : (1 : Int) ≤ (y1 : Int) := by omega
          clear hP0 hP1 hP2 hN1 hN2
          have HW0 := Lib.hid hw0
          have HOFF2 : Hid (Off g2 (.slice (some ⟨g1, 0, none⟩) n (n + 1)) dv) := by intro _ u l c e; simp only [Value.slice.injEq, Option.some.injEq] at e; rw [← e.1]; simp only; omega
          have HOFF3 : Hid (Off g3 (.slice (some ⟨g1, 0, none⟩) n (n + 1)) dv) := by intro _ u l c e; simp only [Value.slice.injEq, Option.some.injEq] at e; rw [← e.1]; simp only; omega
          go_wp2_with fail
          go_quiet (fail)
          go_wp2_with fail
          go_quiet (fail)
          go_wp2_with fail
          clear hw0 hw1 hq1 hq2 hr1 hr2 hor
          go_loopw [14, 15] (fun dd rr wy => ∃ d rest : Nat, dd = .int .u64 d ∧ rr = .int .u64 rest ∧ EstSt (seg zr i (n + 1) / D) y1 tp d rest ∧ d ≤ 8589934591 ∧ rest < 8589934592 ∧ Drawn wr wy) (fun dd _ _ => (intOf dd).toNat)
          case atStart => exact ⟨q0, r0, rfl, rfl, EST0.out, hq0b, by omega, (by repeat (first | exact Drawn.refl _ | assumption | apply Drawn.drew | apply Drawn.one))⟩
          case round =>
            obtain ⟨d, rest, rfl, rfl, hest, hdb, hrb, hdr⟩ := hrel
            rename World => wy
            have hcu2 : wy.cell? ⟨g2, p2, none⟩ = some (.int .u32 (x2 : Nat)) := (hdr.kp.cell (World.block_lt_of_cell? wr _ hc2)).trans hc2
            have hcv2 : wy.cell? ⟨g1, n2, none⟩ = some (.int .u32 (y2 : Nat)) := (hdr.kp.cell (World.block_lt_of_cell? wr _ hd2)).trans hd2
            have hcv1 : wy.cell? ⟨g1, n1, none⟩ = some (.int .u32 (y1 : Nat)) := (hdr.kp.cell (World.block_lt_of_cell? wr _ hd1)).trans hd1
            have HEST := Lib.hid hest; have HDR := Lib.hid hdr
            clear hest hdr
            have hw0 : IntKind.i64.wrap ((i : Int) + (n : Int)) = (p0 : Int) := HW0.out
            by_cases h1 : (rest : Int) < 4294967296
            · have hdec1 : decide ((rest : Int) < 4294967296) = true := decide_eq_true h1
              by_cases h2 : (4294967296 : Int) ≤ (d : Int)
              · have hdec2 : decide ((4294967296 : Int) ≤ (d : Int)) = true := decide_eq_true h2
                obtain ⟨hd0, hnx⟩ := TWO.out.step HEST.out (.inl (by omega))
                have NX := Lib.hid hnx; clear hnx
                have hw5 : IntKind.u64.wrap ((d : Int) - 1) = ((d - 1 : Nat) : Int) := by rw [IntKind.wrap_u64]; omega
                have hw6 : IntKind.u64.wrap ((rest : Int) + (y1 : Int)) = ((rest + y1 : Nat) : Int) := by rw [IntKind.wrap_u64]; omega
                go_wp2_with fail
                go_quiet (fail)
                go_wp2_with fail
                go_quiet (fail)
                clear hw5 hw6
                go_wp2_with fail
                go_roundw
                case rel => exact ⟨d - 1, rest + y1, by first | rfl | exact vint (by omega), by first | rfl | exact vint (by omega), NX.out, by omega, by omega, by have := HDR.out; (repeat (first | exact Drawn.refl _ | assumption | apply Drawn.drew | apply Drawn.one))⟩
                case measure => simp [intOf]; omega
              · have hdec2 : decide ((4294967296 : Int) ≤ (d : Int)) = false := decide_eq_false h2
                have hmul := mul_small (y := d) (f := y2) (by omega) hy2b
                obtain ⟨P, eP⟩ : ∃ P, P = d * y2 := ⟨_, rfl⟩
                have hP : (d : Int) * (y2 : Int) = (P : Int) := by rw [eP, Int.natCast_mul]
                rw [← eP] at hmul
                have hPw : IntKind.u64.wrap (P : Int) = (P : Int) := by rw [IntKind.wrap_u64]; omega
                obtain ⟨E, eE⟩ : ∃ E, E = x2 + 4294967296 * rest := ⟨_, rfl⟩
                have hor2 : bits .or .u64 ((rest : Int) * 4294967296) (x2 : Int) = (E : Int) := by rw [or_u64 hx2b (by omega), eE]
                have hrw : IntKind.u64.wrap ((rest : Int) * 4294967296) = (rest : Int) * 4294967296 := by rw [IntKind.wrap_u64]; omega
                have EPP := Lib.hid eP; have EEE := Lib.hid eE
                clear eP eE
                by_cases h3 : E < P
                · have hdec3 : decide (E < P) = true := decide_eq_true h3
                  obtain ⟨hd0, hnx⟩ := TWO.out.step HEST.out (.inr (by have := EPP.out; have := EEE.out; omega))
                  have NX := Lib.hid hnx; clear hnx
                  have hw5 : IntKind.u64.wrap ((d : Int) - 1) = ((d - 1 : Nat) : Int) := by rw [IntKind.wrap_u64]; omega
                  have hw6 : IntKind.u64.wrap ((rest : Int) + (y1 : Int)) = ((rest + y1 : Nat) : Int) := by rw [IntKind.wrap_u64]; omega
                  go_wp2_with fail
                  go_quiet (fail)
                  go_wp2_with fail
                  go_quiet (fail)
                  clear hw5 hw6
                  go_wp2_with fail
                  go_roundw
                  case rel => exact ⟨d - 1, rest + y1, by first | rfl | exact vint (by omega), by first | rfl | exact vint (by omega), NX.out, by omega, by omega, by have := HDR.out; (repeat (first | exact Drawn.refl _ | assumption | apply Drawn.drew | apply Drawn.one))⟩
                  case measure => simp [intOf]; omega
                · have hdec3 : decide (E < P) = false := decide_eq_false h3
                  obtain ⟨hf1, hf2, hf3⟩ := TWO.out.fin HEST.out (.inr ⟨by omega, by have := EPP.out; have := EEE.out; omega⟩)
                  have HF1 := Lib.hid hf1; have HF2 := Lib.hid hf2; have HF3 := Lib.hid hf3; clear hf1 hf2 hf3
                  have HSY := Lib.hid (HST.out.drawn HDR.out)
                  go_wp2_with fail
                  go_quiet (fail)
                  clear hw0 hw2 hw3 hw4 hdec1 hdec2 hmul hP hPw hor2 hrw h1 h2 h3
                  go_wp2_with fail
                  refine (place_any g2 i n (K + n + 1) d _ 43 zr dv _ _ (HSY.out.r2.drewN _) HSY.out.rel.lt HZL.out (by omega) (by rw [HZL.out]; omega) (HSY.out.dv.keep (Kp.drewN _ _)) HOFF2.out HDL.out HF1.out (by rw [HN1.out]; exact HN0.out.pos) (by rw [HN1.out]; exact HF2.out) (by rw [HN1.out]; exact HF3.out)).mono ?_
                  intro e w6 htk
                  obtain ⟨⟨q, zr2, rfl, hqb, hdig, hrow6⟩, ho6⟩ := htk
                  have ho6' : Only g2 wy w6 := ((Only.refl g2 wy).drewN _).trans ho6
                  rw [HN1.out] at hdig
                  have hstep := HSY.out.rel.step (n := n) (by rw [HL2.out]; omega) (by rw [HSY.out.len]; omega) HN0.out.pos (Nat.le_of_lt HDB.out) hqb hdig
                  have hr36 : Row w6 g3 43 ds := HSY.out.r3.other ho6' (by omega)
                  have hcell3 := hr36.cell i (by rw [HSY.out.len]; omega)
                  have hfree3 : w6.frozen? ⟨g3, i, none⟩ = false := hr36.free _
                  have HR6 := Lib.hid hrow6; have HR36 := Lib.hid hr36; have HO6 := Lib.hid ho6'; have HSTEP := Lib.hid hstep
                  obtain ⟨z, ez⟩ : ∃ z, z = ds[i]?.getD 0 := ⟨_, rfl⟩
                  rw [← ez] at hcell3
                  clear hrow6 hr36 ho6 ho6' hdig hstep ez
                  go_wp2_with fail
                  go_roundw
                  case rel =>
                    refine ⟨(i : Int) - 1, zr2, ds.set i q, by omega, by omega, by go_num, ?_⟩
                    rw [show ((i : Int) - 1 + 1).toNat = i by omega]
                    refine ⟨HSTEP.out, by rw [List.length_set]; exact HSY.out.len, HR6.out.other ((Only.refl _ _).set i _) (by omega), HR36.out.set' _ q _ rfl, (HSY.out.dv.only HO6.out HOFF2.out).only ((Only.refl _ _).set i _) HOFF3.out, Only.kp (Only.kp HSY.out.kp HO6.out hg2w) ((Only.refl _ _).set i _) hg3w⟩
                  case measure => simp [intOf]
            · have hdec1 : decide ((rest : Int) < 4294967296) = false := decide_eq_false h1
              obtain ⟨hf1, hf2, hf3⟩ := TWO.out.fin HEST.out (.inl (by omega))
              have HF1 := Lib.hid hf1; have HF2 := Lib.hid hf2; have HF3 := Lib.hid hf3; clear hf1 hf2 hf3
              have HSY := Lib.hid (HST.out.drawn HDR.out)
              go_wp2_with fail
              go_quiet (fail)
              clear hw0 hw2 hw3 hw4
              go_wp2_with fail
              refine (place_any g2 i n (K + n + 1) d _ 43 zr dv _ _ (HSY.out.r2.drewN _) HSY.out.rel.lt HZL.out (by omega) (by rw [HZL.out]; omega) (HSY.out.dv.keep (Kp.drewN _ _)) HOFF2.out HDL.out HF1.out (by rw [HN1.out]; exact HN0.out.pos) (by rw [HN1.out]; exact HF2.out) (by rw [HN1.out]; exact HF3.out)).mono ?_
              intro e w6 htk
              obtain ⟨⟨q, zr2, rfl, hqb, hdig, hrow6⟩, ho6⟩ := htk
              have ho6' : Only g2 wy w6 := ((Only.refl g2 wy).drewN _).trans ho6
              rw [HN1.out] at hdig
              have hstep := HSY.out.rel.step (n := n) (by rw [HL2.out]; omega) (by rw [HSY.out.len]; omega) HN0.out.pos (Nat.le_of_lt HDB.out) hqb hdig
              have hr36 : Row w6 g3 43 ds := HSY.out.r3.other ho6' (by omega)
              have hcell3 := hr36.cell i (by rw [HSY.out.len]; omega)
              have hfree3 : w6.frozen? ⟨g3, i, none⟩ = false := hr36.free _
              have HR6 := Lib.hid hrow6; have HR36 := Lib.hid hr36; have HO6 := Lib.hid ho6'; have HSTEP := Lib.hid hstep
              obtain ⟨z, ez⟩ : ∃ z, z = ds[i]?.getD 0 := ⟨_, rfl⟩
              rw [← ez] at hcell3
              clear hrow6 hr36 ho6 ho6' hdig hstep ez
              go_wp2_with fail
              go_roundw
              case rel =>
                refine ⟨(i : Int) - 1, zr2, ds.set i q, by omega, by omega, by go_num, ?_⟩
                rw [show ((i : Int) - 1 + 1).toNat = i by omega]
                refine ⟨HSTEP.out, by rw [List.length_set]; exact HSY.out.len, HR6.out.other ((Only.refl _ _).set i _) (by omega), HR36.out.set' _ q _ rfl, (HSY.out.dv.only HO6.out HOFF2.out).only ((Only.refl _ _).set i _) HOFF3.out, Only.kp (Only.kp HSY.out.kp HO6.out hg2w) ((Only.refl _ _).set i _) hg3w⟩
              case measure => simp [intOf]
        · have hj' : j = -1 := by omega
          subst hj'
          rw [show ((-1 : Int) + 1).toNat = 0 by omega] at hst
          have hrem : val zr = val z2 % D := by simpa using hst.rel.rem
          have hquo : val ds = val z2 / D := by simpa using hst.rel.quo
          have hzl : zr.length = K + n + 1 := by rw [hst.rel.len, HL2.out]
          rw [HV2.out, ED.out, val_limbs] at hrem hquo
          have hun := unshift a b s
          rw [hun.1] at hquo
          have hds := hst.r3.sl hst.rel.ltq (by rw [hst.len]; omega)
          rw [hst.len] at hds
          have HST := Lib.hid hst; have HZL := Lib.hid hzl; have HREM := Lib.hid hrem; have HQUO := Lib.hid hquo; have HUN := Lib.hid hun.2; have HDS := Lib.hid hds
          clear hst hzl hrem hquo hun hds
          go_wp2_with fail
          refine (trim_any HDS.out).mono ?_
          rintro e w6 ⟨vq, rfl, hs6, hn6, hk6⟩
          rw [HQUO.out] at hs6
          have HOQ : Hid (∀ u l c, vq = .slice (some u) l c → u.block ≠ g2) := by intro u l c e; have h1 := hn6 u l c e; have h2 := HST.out.r2.lt; omega
          have hp6 := (Part.of_row HST.out.r2).keep hk6
          have hdn := down_any (cap := K + n + 1) hp6 HST.out.rel.lt (by rw [HZL.out]; exact Nat.le_refl _) (by unfold maxLen; omega) (by rw [HZL.out]; omega) 0 s (by rw [HZL.out]; omega) hs s (by omega)
          rw [HZL.out, HREM.out, HUN.out] at hdn
          have HS6 := Lib.hid hs6; have HN6 := Lib.hid (hn6.mono HST.out.kp.size); have HK6 := Lib.hid (Kp.trans HST.out.kp hk6); have HDN := Lib.hid hdn
          clear hs6 hn6 hk6 hp6 hdn
          go_wp2_with fail
          refine HDN.out.mono ?_
          rintro e w7 ⟨⟨o7, c7, rfl, hp7, hl7, hc7⟩, ho7⟩
          have hs7 := hp7.sl (Lt.limbs _) hl7 (by unfold maxLen; omega) (by omega)
          have HS7 := Lib.hid hs7; have HK7 := Lib.hid (Only.kp HK6.out ho7 hg2w)
          have HQ7 : Hid (Sl w7 vq (limbs (a / b))) := by
            refine HS6.out.only ho7 ?_
            intro hne u l c e
            exact HOQ.out u l c e
          clear hp7 hl7 hc7 ho7 hs7
          go_wp2_with fail
          refine (trim_any HS7.out).mono ?_
          rintro e w8 ⟨vr, rfl, hs8, hn8, hk8⟩
          rw [val_limbs] at hs8
          have FIN2 := Lib.hid (FIN.out _ vq vr w8 rfl (HQ7.out.keep hk8) hs8 HN6.out (hn8.mono HK7.out.size) (Kp.trans HK7.out hk8))
          clear hs8 hn8 hk8
          go_wp2_with fail
          (try go_ret2)
          exact FIN2.out
end Go.Proofs.YtdoponlhiidimaaGreatDoor

/- The reference's Divide and Gcd, and what both sides' operations answer: a value and an error. Condition: the slices hold the digits that are named. -/
namespace Go.Proofs.YtdoponlhiidimaaGreatDoor
open Go.RowKit LimbN

theorem Split_any {a b : Nat} {va vb : Value} {w : World} (ha : Sl w va (limbs a)) (hb : Sl w vb (limbs b)) (hla : (limbs a).length ≤ 1000) (h0 : b ≠ 0) :
    Calls Tryz.prog 57 #[va, vb] w (Quot a b w) := by
  by_cases hlt : a < b
  · exact Split_less ha hb hla hlt
  · by_cases h1 : (limbs b).length = 1
    · exact Split_one ha hb h0 h1 (by omega)
    · have := limbs_len_pos.2 h0
      exact Split_more ha hb hla (by omega) (by omega)
/-- A value and an error. -/
structure OpR (E : Int) (V : List Nat) (w : World) (e : Ending) (w' : World) : Prop where
  ex : ∃ v, e = .returned (.tuple #[v, .int .i64 E]) ∧ Sl w' v V
  kp : Kp w w'
open Classical in
/-- the error of a result n: not well-formed arguments, or too large. -/
noncomputable def resE (ok : Bool) (n : Nat) : Int := if ok = false then 1 else if (limbs n).length ≤ 128 then 0 else 2
open Classical in
noncomputable def resV (ok : Bool) (n : Nat) : List Nat := if resE ok n = 0 then limbs n else []
theorem OpR.bad1 {ok : Bool} {n : Nat} {w w' : World} {e : Ending} (h : ok = false) (he : e = Bad1) (hk : Kp w w') : OpR (resE ok n) (resV ok n) w e w' := by
  have e1 : resE ok n = 1 := by unfold resE; rw [if_pos h]
  have e2 : resV ok n = [] := by unfold resV; rw [if_neg (by rw [e1]; decide)]
  exact ⟨⟨_, by rw [he, e1]; rfl, by rw [e2]; exact Sl.nil _⟩, hk⟩
theorem OpR.made {ok : Bool} {n : Nat} {w w' : World} {e : Ending} (h : ok = true) (hm : Made n w e w') : OpR (resE ok n) (resV ok n) w e w' := by
  obtain ⟨⟨v, rfl, hs, -⟩, hk⟩ := hm
  by_cases hl : (limbs n).length ≤ 128
  · have e1 : resE ok n = 0 := by unfold resE; rw [if_neg (by rw [h]; decide), if_pos hl]
    have e2 : resV ok n = limbs n := by unfold resV; rw [if_pos e1]
    exact ⟨⟨v, by rw [if_pos hl, e1], by rw [e2]; exact hs⟩, hk⟩
  · have e1 : resE ok n = 2 := by unfold resE; rw [if_neg (by rw [h]; decide), if_neg hl]
    have e2 : resV ok n = [] := by unfold resV; rw [if_neg (by rw [e1]; decide)]
    exact ⟨⟨_, by rw [if_neg hl, e1], by rw [e2]; exact Sl.nil _⟩, hk⟩
open Classical in
noncomputable def subE (ok : Bool) (a b : Nat) : Int := if ok = true ∧ a < b then 5 else resE ok (a - b)
open Classical in
noncomputable def subV (ok : Bool) (a b : Nat) : List Nat := if ok = true ∧ a < b then [] else resV ok (a - b)
theorem OpR.bad5 {ok : Bool} {a b : Nat} {w w' : World} {e : Ending} (h : ok = true) (hlt : a < b) (he : e = Bad5) (hk : Kp w w') : OpR (subE ok a b) (subV ok a b) w e w' := by
  have e1 : subE ok a b = 5 := by unfold subE; rw [if_pos ⟨h, hlt⟩]
  have e2 : subV ok a b = [] := by unfold subV; rw [if_pos ⟨h, hlt⟩]
  exact ⟨⟨_, by rw [he, e1]; rfl, by rw [e2]; exact Sl.nil _⟩, hk⟩
theorem OpR.sub {ok : Bool} {a b : Nat} {w w' : World} {e : Ending} (h : ¬ (ok = true ∧ a < b)) (hr : OpR (resE ok (a - b)) (resV ok (a - b)) w e w') : OpR (subE ok a b) (subV ok a b) w e w' := by
  have e1 : subE ok a b = resE ok (a - b) := by unfold subE; rw [if_neg h]
  have e2 : subV ok a b = resV ok (a - b) := by unfold subV; rw [if_neg h]
  rw [e1, e2]; exact hr
theorem OpR.one {ok : Bool} {n : Nat} {w w' : World} {e : Ending} (h : ok = true) (hl : (limbs n).length ≤ 128) (hm : One n w e w') : OpR (resE ok n) (resV ok n) w e w' := by
  obtain ⟨⟨v, rfl, hs, -⟩, hk⟩ := hm
  have e1 : resE ok n = 0 := by unfold resE; rw [if_neg (by rw [h]; decide), if_pos hl]
  have e2 : resV ok n = limbs n := by unfold resV; rw [if_pos e1]
  exact ⟨⟨v, by rw [e1], by rw [e2]; exact hs⟩, hk⟩
set_option maxHeartbeats 400000 in
theorem Gcd_bad1 {xs : List Nat} {va vb : Value} {w : World} (ha : Sl w va xs) (hx : wf xs = false) :
    Calls Tryz.prog 41 #[va, vb] w fun e w' => e = Bad1 ∧ w = w' := by
  have HA := Lib.hid ha; have HX := Lib.hid hx; clear ha hx
  go_enter Tryz.func41, Tryz.ntmps41
  go_wp2_with fail
  refine (check_any HA.out).mono ?_
  rintro e w' ⟨rfl, rfl⟩
  rw [HX.out]
  go_wp2
  go_ret2
  exact ⟨rfl, rfl⟩
set_option maxHeartbeats 400000 in
theorem Gcd_bad2 {xs ys : List Nat} {va vb : Value} {w : World} (ha : Sl w va xs) (hb : Sl w vb ys) (hx : wf xs = true) (hy : wf ys = false) :
    Calls Tryz.prog 41 #[va, vb] w fun e w' => e = Bad1 ∧ w = w' := by
  have HA := Lib.hid ha; have HX := Lib.hid hx; have HB := Lib.hid hb; have HY := Lib.hid hy; clear ha hx hb hy
  go_enter Tryz.func41, Tryz.ntmps41
  go_wp2_with fail
  refine (check_any HA.out).mono ?_
  rintro e w' ⟨rfl, rfl⟩
  rw [HX.out]
  go_wp2_with fail
  refine (check_any HB.out).mono ?_
  rintro e w' ⟨rfl, rfl⟩
  rw [HY.out]
  go_wp2
  go_ret2
  exact ⟨rfl, rfl⟩
/-- both arguments are well-formed. -/
def okB (xs ys : List Nat) : Bool := wf xs && wf ys
theorem okB_false {xs ys : List Nat} (h : wf xs = false ∨ wf ys = false) : okB xs ys = false := by unfold okB; rcases h with h | h <;> simp [h]
theorem okB_true {xs ys : List Nat} (h : wf xs = true) (k : wf ys = true) : okB xs ys = true := by unfold okB; simp [h, k]
theorem Add_any {xs ys : List Nat} {va vb : Value} {w : World} (ha : Sl w va xs) (hb : Sl w vb ys) : Calls Tryz.prog 52 #[va, vb] w (OpR (resE (okB xs ys) (val xs + val ys)) (resV (okB xs ys) (val xs + val ys)) w) := by
  cases hx : wf xs with
  | false => exact (Add_bad1 ha hx).mono fun e w' h => OpR.bad1 (okB_false (.inl hx)) h.1 (Kp.of_eq h.2)
  | true =>
    cases hy : wf ys with
    | false => exact (Add_bad2 ha hb hx hy).mono fun e w' h => OpR.bad1 (okB_false (.inr hy)) h.1 (Kp.of_eq h.2)
    | true => exact (Add_ok ha hb hx hy).mono fun e w' h => OpR.made (okB_true hx hy) h
theorem Mul_any {xs ys : List Nat} {va vb : Value} {w : World} (ha : Sl w va xs) (hb : Sl w vb ys) : Calls Tryz.prog 72 #[va, vb] w (OpR (resE (okB xs ys) (val xs * val ys)) (resV (okB xs ys) (val xs * val ys)) w) := by
  cases hx : wf xs with
  | false => exact (Mul_bad1 ha hx).mono fun e w' h => OpR.bad1 (okB_false (.inl hx)) h.1 (Kp.of_eq h.2)
  | true =>
    cases hy : wf ys with
    | false => exact (Mul_bad2 ha hb hx hy).mono fun e w' h => OpR.bad1 (okB_false (.inr hy)) h.1 (Kp.of_eq h.2)
    | true => exact (Mul_ok ha hb hx hy).mono fun e w' h => OpR.made (okB_true hx hy) h
theorem Sub_any {xs ys : List Nat} {va vb : Value} {w : World} (ha : Sl w va xs) (hb : Sl w vb ys) : Calls Tryz.prog 92 #[va, vb] w (OpR (subE (okB xs ys) (val xs) (val ys)) (subV (okB xs ys) (val xs) (val ys)) w) := by
  cases hx : wf xs with
  | false => exact (Sub_bad1 ha hx).mono fun e w' h => OpR.sub (by rw [okB_false (.inl hx)]; simp) (OpR.bad1 (okB_false (.inl hx)) h.1 (Kp.of_eq h.2))
  | true =>
    cases hy : wf ys with
    | false => exact (Sub_bad2 ha hb hx hy).mono fun e w' h => OpR.sub (by rw [okB_false (.inr hy)]; simp) (OpR.bad1 (okB_false (.inr hy)) h.1 (Kp.of_eq h.2))
    | true =>
      by_cases hlt : val xs < val ys
      · exact (Sub_neg ha hb hx hy hlt).mono fun e w' h => OpR.bad5 (okB_true hx hy) hlt h.1 h.2.kp
      · exact (Sub_ok ha hb hx hy (by omega)).mono fun e w' h => OpR.sub (fun h => hlt h.2) (OpR.made (okB_true hx hy) h)
theorem Gcd_any {xs ys : List Nat} {va vb : Value} {w : World} (ha : Sl w va xs) (hb : Sl w vb ys) : Calls Tryz.prog 41 #[va, vb] w (OpR (resE (okB xs ys) (Nat.gcd (val xs) (val ys))) (resV (okB xs ys) (Nat.gcd (val xs) (val ys))) w) := by
  cases hx : wf xs with
  | false => exact (Gcd_bad1 ha hx).mono fun e w' h => OpR.bad1 (okB_false (.inl hx)) h.1 (Kp.of_eq h.2)
  | true =>
    cases hy : wf ys with
    | false => exact (Gcd_bad2 ha hb hx hy).mono fun e w' h => OpR.bad1 (okB_false (.inr hy)) h.1 (Kp.of_eq h.2)
    | true =>
      have hcx := wf_canon ha.lt hx
      have hcy := wf_canon hb.lt hy
      exact (Gcd_ok ha hb hx hy).mono fun e w' h => OpR.one (okB_true hx hy) (gcd_len (by rw [hcx.1]; exact hcx.2) (by rw [hcy.1]; exact hcy.2)) h
end Go.Proofs.YtdoponlhiidimaaGreatDoor
