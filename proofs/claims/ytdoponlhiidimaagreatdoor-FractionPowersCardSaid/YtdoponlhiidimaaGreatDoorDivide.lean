/- The program's division: quotient and remainder of two numbers. Conditions: the slices hold the digits that are named. -/
import Derived.Test.YtdoponlhiidimaaGreatDoorMDd
import Derived.Test.YtdoponlhiidimaaGreatDoorMNp
namespace Go.Proofs.YtdoponlhiidimaaGreatDoor
open Go.RowKit LimbN

/-- Quotient and remainder, both in new memory. -/
structure Quot (a b : Nat) (w : World) (e : Ending) (w' : World) : Prop where
  ex : ∃ vq vr, e = .returned (.tuple #[vq, vr]) ∧ Sl w' vq (limbs (a / b)) ∧ Sl w' vr (limbs (a % b)) ∧ New w.heap.size vq ∧ New w.heap.size vr
  kp : Kp w w'
set_option maxHeartbeats 400000 in
theorem divide_less {xs ys : List Nat} {va vb : Value} {w : World} (ha : Sl w va xs) (hb : Sl w vb ys) (hx : wf xs = true) (hy : wf ys = true) (hlt : val xs < val ys) :
    Calls Tryz.prog 59 #[va, vb] w (Quot (val xs) (val ys) w) := by
  have e1 : limbs (val xs / val ys) = [] := by rw [Nat.div_eq_of_lt hlt]; rfl
  have e2 : limbs (val xs % val ys) = xs := by rw [Nat.mod_eq_of_lt hlt]; exact (wf_canon ha.lt hx).1
  have FIN : Hid (∀ v w', Sl w' v xs → New w.heap.size v → Kp w w' → Quot (val xs) (val ys) w (.returned (.tuple #[.slice none 0 0, v])) w') := fun v w' h1 h2 h3 => ⟨⟨_, v, rfl, by rw [e1]; exact Sl.nil _, by rw [e2]; exact h1, New.nil _, h2⟩, h3⟩
  obtain ⟨Q, hQ⟩ : ∃ Q, Q = Quot (val xs) (val ys) w := ⟨_, rfl⟩
  rw [← hQ] at FIN ⊢
  have HC : Hid (cmpL xs ys = -1) := by show _ = _; rw [cmp_wf ha.lt hb.lt hx hy, if_pos hlt]
  have HA := Lib.hid ha; have HB := Lib.hid hb
  clear ha hb hx hy hlt e1 e2 hQ
  go_enter Tryz.func59, Tryz.ntmps59
  go_wp2_with fail
  refine (compare_any HA.out HB.out).mono ?_
  rintro e w1 ⟨rfl, hd⟩
  have HK := Lib.hid hd.kp; clear hd
  rw [HC.out]
  have HA1 := Lib.hid (HA.out.keep HK.out)
  go_wp2_with fail
  refine (cloneN_any HA1.out).mono ?_
  rintro e w2 ⟨v, rfl, hs, hn, hk⟩
  have FIN2 := Lib.hid (FIN.out v w2 hs (hn.mono HK.out.size) (Kp.trans HK.out hk))
  clear hs hn hk
  go_wp2
  (try go_ret2)
  exact FIN2.out

/-- The shift that makes the top limb's highest bit 1. -/
theorem norm_shift {dt : Nat} (h0 : 0 < dt) (hb : dt < 4294967296) : ∃ s : Nat, s < 32 ∧ (32 - (Lib.bitLen dt : Int)) = (s : Int) ∧ 2147483648 ≤ dt * 2 ^ s ∧ (dt + 1) * 2 ^ s ≤ 4294967296 := by
  obtain ⟨h1, h2, h3⟩ := Lib.bitLenAux_bounds 64 dt (by omega) (by omega)
  have hle := Lib.bitLen_le dt 32 (by omega) (by omega)
  obtain ⟨L, hL⟩ : ∃ L, L = Lib.bitLen dt := ⟨_, rfl⟩
  have hL' : Lib.bitLenAux 64 dt = L := hL.symm
  rw [hL'] at h1 h2 h3
  rw [← hL] at hle ⊢
  refine ⟨32 - L, by omega, by omega, ?_, ?_⟩
  · have := Nat.mul_le_mul_right (2 ^ (32 - L)) h2
    rw [← Nat.pow_add, show L - 1 + (32 - L) = 31 by omega] at this
    exact this
  · have := Nat.mul_le_mul_right (2 ^ (32 - L)) (show dt + 1 ≤ 2 ^ L from h3)
    rw [← Nat.pow_add, show L + (32 - L) = 32 by omega] at this
    exact this
/-- The divisor, shifted up. -/
structure Norm (ys : List Nat) (m s D : Nat) : Prop where
  hs : s < 32
  eq : D = val ys * 2 ^ s
  pos : 0 < D
  lo : 4294967296 ^ m * 2147483648 ≤ D
  hi : D < 4294967296 ^ (m + 1)
theorem norm_of {ys : List Nat} {m s : Nat} (hs : s < 32) (hl : Lt ys) (hlen : ys.length = m + 1) (h1 : 2147483648 ≤ ys[m]?.getD 0 * 2 ^ s) (h2 : (ys[m]?.getD 0 + 1) * 2 ^ s ≤ 4294967296) : Norm ys m s (val ys * 2 ^ s) := by
  obtain ⟨e, hlt⟩ := top_one hl hlen
  have hp : 0 < 4294967296 ^ m := Nat.pow_pos (by omega)
  have hk := (pow_lt32 hs).1
  have hlo : 4294967296 ^ m * 2147483648 ≤ val ys * 2 ^ s := by
    have h3 := Nat.mul_le_mul_left (4294967296 ^ m) h1
    rw [← Nat.mul_assoc] at h3
    have h4 : 4294967296 ^ m * ys[m]?.getD 0 * 2 ^ s ≤ val ys * 2 ^ s := Nat.mul_le_mul_right _ (by omega)
    omega
  refine ⟨hs, rfl, by omega, hlo, ?_⟩
  have h5 : val ys < 4294967296 ^ m * (ys[m]?.getD 0 + 1) := by rw [Nat.mul_add]; omega
  have h6 := Nat.mul_lt_mul_of_pos_right h5 hk
  have h7 := Nat.mul_le_mul_left (4294967296 ^ m) h2
  rw [← Nat.mul_assoc] at h7
  rw [Nat.pow_succ]
  omega
theorem norm_row {ys zr : List Nat} {m s : Nat} (h : Norm ys m s (val ys * 2 ^ s)) (hl : Lt zr) (hlen : zr.length = m + 1 + 1) (hv : val zr = val ys * 2 ^ s) : val (zr.take (m + 1)) = val ys * 2 ^ s ∧ 0 < (zr.take (m + 1))[m]?.getD 0 := by
  have hz := high_zero (n := m + 1) (by rw [hv]; exact h.hi)
  have e := val_take (xs := zr) (m + 1) hz
  rw [hv] at e
  refine ⟨e, ?_⟩
  obtain ⟨e1, hlt⟩ := top_one (m := m) (hl.take (m + 1)) (by rw [List.length_take]; omega)
  have := h.lo
  rcases Nat.eq_zero_or_pos ((zr.take (m + 1))[m]?.getD 0) with h0 | h0
  · rw [h0] at e1; omega
  · exact h0
theorem long_start {zr : List Nat} {K m s D : Nat} {ys : List Nat} (h : Norm ys m s D) (hl : Lt zr) (hlen : zr.length = K + 1 + (m + 1)) (ht : zr[K + (m + 1)]?.getD 0 < 2 ^ s) : LongRel zr D (K + 1) zr (List.replicate (K + 1) 0) := by
  refine LongRel.start _ hl ?_
  obtain ⟨e1, hlt⟩ := top_one (m := m) (hl.drop (K + 1)) (by rw [List.length_drop]; omega)
  rw [List.getElem?_drop, show K + 1 + m = K + (m + 1) by omega] at e1
  have h1 := h.lo
  have h2 := (pow_lt32 h.hs).2
  have h3 := Nat.mul_le_mul_left (4294967296 ^ m) (show zr[K + (m + 1)]?.getD 0 + 1 ≤ 2147483648 by omega)
  rw [Nat.mul_add] at h3
  omega
/-- How the loop of the digits stands. -/
structure LongSt (xs dv : List Nat) (D m g2 g3 : Nat) (vd : Value) (w wr : World) (k : Nat) (zr ds : List Nat) (n : Nat) : Prop where
  rel : LongRel xs D k zr ds
  len : ds.length = n
  r2 : Row wr g2 43 zr
  r3 : Row wr g3 43 ds
  dv : Sl wr vd dv
  kp : Kp w wr
set_option maxRecDepth 100000 in
set_option maxHeartbeats 4000000 in
theorem divide_more {xs ys : List Nat} {va vb : Value} {w : World} (ha : Sl w va xs) (hb : Sl w vb ys) (hx : wf xs = true) (hy : wf ys = true) (h0 : 0 < val ys) (hle : val ys ≤ val xs) :
    Calls Tryz.prog 59 #[va, vb] w (Quot (val xs) (val ys) w) := by
  have hyc := wf_canon hb.lt hy
  have hxc := wf_canon ha.lt hx
  have hll := wf_len ha.lt hb.lt hx hy hle
  have hylen : 0 < ys.length := by
    rw [← hyc.1]; exact limbs_len_pos.2 (by omega)
  obtain ⟨m, hm⟩ : ∃ m, ys.length = m + 1 := ⟨ys.length - 1, by omega⟩
  obtain ⟨K, hK⟩ : ∃ K, xs.length = K + (m + 1) := ⟨xs.length - (m + 1), by omega⟩
  have hdt : ys[m]?.getD 0 ≠ 0 := by
    have := limbs_last (n := val ys) (by omega)
    rwa [hyc.1, hm, Nat.add_sub_cancel] at this
  have hdb := hb.lt m
  obtain ⟨s, hs, hse, hs1, hs2⟩ := norm_shift (dt := ys[m]?.getD 0) (by omega) hdb
  have hnorm := norm_of hs hb.lt hm hs1 hs2
  have FIN : Hid (∀ e vq vr w', e = .returned (.tuple #[vq, vr]) → Sl w' vq (limbs (val xs / val ys)) → Sl w' vr (limbs (val xs % val ys)) → New w.heap.size vq → New w.heap.size vr → Kp w w' → Quot (val xs) (val ys) w e w') := fun e vq vr w' h1 h2 h3 h4 h5 h6 => ⟨⟨vq, vr, h1, h2, h3, h4, h5⟩, h6⟩
  obtain ⟨Q, hQ⟩ : ∃ Q, Q = Quot (val xs) (val ys) w := ⟨_, rfl⟩
  rw [← hQ] at FIN ⊢
  clear hQ
  have HC : Hid (¬ cmpL xs ys < 0) := by
    show ¬ _
    rw [cmp_wf ha.lt hb.lt hx hy, if_neg (by omega)]
    split <;> omega
  have HA := Lib.hid ha; have HB := Lib.hid hb; have HX := Lib.hid hxc.2; have HM := Lib.hid hm; have HKK := Lib.hid hK; have HN := Lib.hid hnorm
  obtain ⟨⟨ao, ca, rfl, hca, hma, -, -⟩, -, -⟩ := ha
  obtain ⟨⟨bo, cb, rfl, hcb, hmb, hbt, -⟩, -, -⟩ := hb
  rw [hK] at hca HA ⊢
  rw [hm] at hcb HB ⊢
  unfold maxLen at hma hmb
  have hKb : K + (m + 1) ≤ 128 := by have := hxc.2; omega
  obtain ⟨b, off, rfl, hcy⟩ := hbt.cells (by omega)
  have hcd := hcy m (by omega)
  have HBT := Lib.hid hcd
  obtain ⟨q, hq⟩ : ∃ q, q = cmpL xs ys := ⟨_, rfl⟩
  have HQ := Lib.hid hq
  rw [← hq] at HC
  have hqn := HC.out
  obtain ⟨dt, edt⟩ : ∃ dt, dt = ys[m]?.getD 0 := ⟨_, rfl⟩
  rw [← edt] at HBT hdb hse
  have HS := Lib.hid hse
  clear hxc hyc hll hylen hm hK hdt hs1 hs2 hnorm hbt hcy hcd hq edt hx hy h0 hle hse
  go_enter Tryz.func59, Tryz.ntmps59
  go_wp2_with fail
  refine (compare_any HA.out HB.out).mono ?_
  rintro e w1 ⟨rfl, hd⟩
  have HK1 := Lib.hid hd.kp; clear hd
  rw [← HQ.out]
  have hcell : w1.cell? ⟨b, off + m, none⟩ = some (.int .u32 (dt : Nat)) := (HK1.out.cell (World.block_lt_of_cell? w _ HBT.out)).trans HBT.out
  have HA1 := Lib.hid (HA.out.keep HK1.out); have HB1 := Lib.hid (HB.out.keep HK1.out)
  go_wp2_with fail
  refine (Tryz.bits_LeadingZeros32 dt w1 (by omega) (by omega)).mono ?_
  rintro e w1' ⟨rfl, hw1⟩
  obtain rfl := hw1.symm
  rw [Int.toNat_natCast, HS.out]
  go_wp2_with fail
  refine (shiftedUp_any HB1.out (by have := HM.out; omega) s hs).mono ?_
  intro e w2 hsh
  obtain ⟨⟨z1, rfl, hr1, hz1, hl1, hv1, -⟩, hk2⟩ := hsh
  obtain ⟨hn1, hn2⟩ := norm_row HN.out hz1 (by rw [hl1, HM.out]) hv1
  have hdv : Sl w2 (.slice (some ⟨w1.heap.size, 0, none⟩) (m + 1) (m + 1 + 1)) (z1.take (m + 1)) :=
    Sl.cut (ao := some ⟨w1.heap.size, 0, none⟩) (by rw [hl1, HM.out]; exact Nat.le_refl _) (by unfold maxLen; omega) (by simpa using hr1.at 0) hz1 (by rw [hl1, HM.out]; omega) (fun h => nomatch h) (m + 1) (by rw [hl1, HM.out]; omega)
  have hdl : (z1.take (m + 1)).length = m + 1 := by rw [List.length_take, hl1, HM.out]; omega
  rw [HM.out]
  obtain ⟨dv, edv⟩ : ∃ dv, dv = z1.take (m + 1) := ⟨_, rfl⟩
  rw [← edv] at hn1 hn2 hdv hdl
  have HDV := Lib.hid hdv; have HDL := Lib.hid hdl; have HN1 := Lib.hid hn1; have HN2 := Lib.hid hn2
  have HK2 := Lib.hid (Kp.trans HK1.out hk2)
  have hg1 : w.heap.size ≤ w1.heap.size := HK1.out.size
  have HA2 := Lib.hid (HA1.out.keep hk2)
  clear hr1 hz1 hl1 hv1 hn1 hn2 hdv hdl edv hk2
  go_wp2_with fail
  refine (shiftedUp_any HA2.out (by have := HKK.out; omega) s hs).mono ?_
  intro e w3 hsh
  obtain ⟨⟨z2, rfl, hr2, hz2, hl2, hv2, ht2⟩, hk3⟩ := hsh
  rw [HKK.out] at hl2 ht2 ⊢
  have hls := long_start (K := K) HN.out hz2 (by rw [hl2]; omega) ht2
  have HDV3 := Lib.hid (HDV.out.keep hk3); have HK3 := Lib.hid (Kp.trans HK2.out hk3)
  have hg2 : w.heap.size ≤ w2.heap.size := HK2.out.size
  have hg12 : w1.heap.size < w2.heap.size := by
    obtain ⟨⟨ao', cap', hv', _, _, hat', _⟩, _, _⟩ := HDV.out
    simp only [Value.slice.injEq] at hv'
    obtain ⟨b', off', h6, h7⟩ := hat'.cells (by rw [HDL.out]; omega)
    rw [← hv'.1] at h6
    simp only [Option.some.injEq, Addr.mk.injEq] at h6
    have h8 := h7 0 (by rw [HDL.out]; omega)
    have h9 := World.block_lt_of_cell? w2 _ h8
    simp only at h9
    omega
  have HR2 := Lib.hid hr2; have HZ2 := Lib.hid hz2; have HL2 := Lib.hid hl2; have HV2 := Lib.hid hv2; have HLS := Lib.hid hls
  clear hr2 hz2 hl2 hv2 ht2 hk3 hls
  go_wp2_with (at_make; refine wpList_mk rfl (.tmp 38) (.tmp 38) 22 rfl Tryz.underlying22 _ (K + 1) rfl rfl (by omega) (by omega) ?_)
  intro w4 hr3 hk4
  have hst : LongSt z2 dv (val ys * 2 ^ s) m w2.heap.size w3.heap.size (.slice (some ⟨w1.heap.size, 0, none⟩) (m + 1) (m + 1 + 1)) w w4 (K + 1) z2 (List.replicate (K + 1) 0) (K + 1) :=
    ⟨HLS.out, by simp, HR2.out.keep hk4, hr3, HDV3.out.keep hk4, Kp.trans HK3.out hk4⟩
  have HST := Lib.hid hst
  have hg3 : w2.heap.size < w3.heap.size := HR2.out.lt
  clear hst hr3 hk4
  go_wp2_with fail
  go_loopw [10] (fun i wr => ∃ (j : Int) (zr ds : List Nat), -1 ≤ j ∧ j ≤ K ∧ i = .int .i64 j ∧ LongSt z2 dv (val ys * 2 ^ s) m w2.heap.size w3.heap.size (.slice (some ⟨w1.heap.size, 0, none⟩) (m + 1) (m + 1 + 1)) w wr (j + 1).toNat zr ds (K + 1)) (fun i _ => (intOf i + 1).toNat)
  case atStart => exact ⟨_, z2, _, by omega, by omega, rfl, by rw [show ((K : Int) + 1).toNat = K + 1 by omega]; exact HST.out⟩
  case round =>
    obtain ⟨j, zr, ds, hj1, hj2, rfl, hst⟩ := hrel
    rename World => wr
    by_cases hj : 0 ≤ j
    · obtain ⟨i, rfl⟩ := Int.eq_ofNat_of_zero_le hj
      rw [show ((i : Int) + 1).toNat = i + 1 by omega] at hst
      have hzl : zr.length = K + (m + 1) + 1 := by rw [hst.rel.len, HL2.out]
      have hwin := (hst.rel.window (n := m + 1) (by rw [HL2.out]; omega) HN.out.pos (Nat.le_of_lt HN.out.hi)).1
      have hlt : seg zr i (m + 1 + 1) < 4294967296 * val dv := by
        rw [HN1.out, hwin]
        have h1 := Nat.mod_lt (val (z2.drop (i + 1))) HN.out.pos
        have h2 := HZ2.out i
        have h3 := Nat.mul_le_mul_left 4294967296 (show val (z2.drop (i + 1)) % (val ys * 2 ^ s) + 1 ≤ val ys * 2 ^ s from h1)
        rw [Nat.mul_add] at h3
        omega
      have HST2 := Lib.hid hst; have HZL := Lib.hid hzl; have HLT := Lib.hid hlt
      clear hst hzl hwin hlt
      have hoff2 : Off w2.heap.size (.slice (some ⟨w1.heap.size, 0, none⟩) (m + 1) (m + 1 + 1)) dv := by
        intro _ a l c e
        simp only [Value.slice.injEq, Option.some.injEq] at e
        rw [← e.1]; simp only; omega
      have hoff3 : Off w3.heap.size (.slice (some ⟨w1.heap.size, 0, none⟩) (m + 1) (m + 1 + 1)) dv := by
        intro _ a l c e
        simp only [Value.slice.injEq, Option.some.injEq] at e
        rw [← e.1]; simp only; omega
      have HOFF2 := Lib.hid hoff2; have HOFF3 := Lib.hid hoff3
      clear hoff2 hoff3
      go_wp2_with fail
      rw [show i + (m + 1) + 1 - i = m + 2 by omega]
      refine (takeDigit_any w2.heap.size i m _ 43 zr dv _ wr HST2.out.r2 HST2.out.rel.lt (by have := HZL.out; omega) (by have := HZL.out; omega) HST2.out.dv HOFF2.out HDL.out HN2.out HLT.out).mono ?_
      intro e w5 htk
      obtain ⟨⟨q, zr2, rfl, hqb, hdig, hrow5⟩, ho5⟩ := htk
      rw [HN1.out] at hdig
      have hstep := HST2.out.rel.step (n := m + 1) (by rw [HL2.out]; omega) (by rw [HST2.out.len]; omega) HN.out.pos (Nat.le_of_lt HN.out.hi) hqb hdig
      have hr35 : Row w5 w3.heap.size 43 ds := HST2.out.r3.other ho5 (by omega)
      have hcell3 := hr35.cell i (by rw [HST2.out.len]; omega)
      have hfree3 : w5.frozen? ⟨w3.heap.size, i, none⟩ = false := hr35.free _
      have HR5 := Lib.hid hrow5; have HR35 := Lib.hid hr35; have HO5 := Lib.hid ho5; have HSTEP := Lib.hid hstep
      obtain ⟨z, ez⟩ : ∃ z, z = ds[i]?.getD 0 := ⟨_, rfl⟩
      rw [← ez] at hcell3
      clear hrow5 hr35 ho5 hdig hstep ez
      go_wp2
      go_roundw
      case rel =>
        refine ⟨(i : Int) - 1, zr2, ds.set i q, by omega, by omega, by go_num, ?_⟩
        rw [show ((i : Int) - 1 + 1).toNat = i by omega]
        have hk5 : Kp w w5 := Only.kp HST2.out.kp HO5.out hg2
        refine ⟨HSTEP.out, by rw [List.length_set]; exact HST2.out.len, ?_, HR35.out.set' _ q _ rfl, ?_, ?_⟩
        · exact HR5.out.other ((Only.refl _ _).set i _) (by omega)
        · exact (HST2.out.dv.only HO5.out HOFF2.out).only ((Only.refl _ _).set i _) HOFF3.out
        · exact Only.kp hk5 ((Only.refl _ _).set i _) (by omega)
      case measure => simp [intOf]
    · have hj' : j = -1 := by omega
      subst hj'
      rw [show ((-1 : Int) + 1).toNat = 0 by omega] at hst
      have hrem : val zr = val z2 % (val ys * 2 ^ s) := by simpa using hst.rel.rem
      have hquo : val ds = val z2 / (val ys * 2 ^ s) := by simpa using hst.rel.quo
      have hzl : zr.length = K + (m + 1) + 1 := by rw [hst.rel.len, HL2.out]
      rw [HV2.out] at hrem hquo
      have hun := unshift (val xs) (val ys) s
      rw [hun.1] at hquo
      have HST2 := Lib.hid hst; have HZL := Lib.hid hzl; have HREM := Lib.hid hrem; have HQUO := Lib.hid hquo; have HUN := Lib.hid hun.2
      clear hst hzl hrem hquo hun
      go_wp2_with fail
      refine (shiftDown_any w2.heap.size (K + (m + 1) + 1) _ 43 zr wr HST2.out.r2 HST2.out.rel.lt HZL.out (by omega) s hs).mono ?_
      intro e w5 hlow
      obtain ⟨rfl, ⟨z5, hr5, hz5, hl5, hv5⟩, ho5⟩ := hlow
      rw [HREM.out, HUN.out] at hv5
      have hr35 : Row w5 w3.heap.size 43 ds := HST2.out.r3.other ho5 (by omega)
      have hs5 := hr5.sl hz5 (by rw [hl5, HZL.out]; omega)
      rw [hl5, HZL.out] at hs5
      have hs35 := hr35.sl HST2.out.rel.ltq (by rw [HST2.out.len]; omega)
      rw [HST2.out.len] at hs35
      have HS5 := Lib.hid hs5; have HS35 := Lib.hid hs35; have HV5 := Lib.hid hv5; have HK5 := Lib.hid (Only.kp HST2.out.kp ho5 hg2)
      clear hr5 hz5 hl5 hv5 ho5 hr35 hs5 hs35
      go_wp2_with fail
      refine (trimmed_any HS35.out).mono ?_
      rintro e w6 ⟨⟨vq, rfl, hs6, hn6⟩, rfl⟩
      rw [HQUO.out] at hs6
      have HS6 := Lib.hid hs6; have HN6 := Lib.hid (hn6 w.heap.size (by intro a l c e; simp only [Value.slice.injEq, Option.some.injEq] at e; rw [← e.1]; simp only; omega))
      clear hs6 hn6
      go_wp2_with fail
      refine (trimmed_any HS5.out).mono ?_
      rintro e w7 ⟨⟨vr, rfl, hs7, hn7⟩, rfl⟩
      rw [HV5.out] at hs7
      have FIN2 := Lib.hid (FIN.out _ vq vr w5 rfl HS6.out hs7 HN6.out (hn7 w.heap.size (by intro a l c e; simp only [Value.slice.injEq, Option.some.injEq] at e; rw [← e.1]; simp only; omega)) HK5.out)
      clear hs7 hn7
      go_wp2
      (try go_ret2)
      exact FIN2.out
theorem divide_any {xs ys : List Nat} {va vb : Value} {w : World} (ha : Sl w va xs) (hb : Sl w vb ys) (hx : wf xs = true) (hy : wf ys = true) (h0 : 0 < val ys) :
    Calls Tryz.prog 59 #[va, vb] w (Quot (val xs) (val ys) w) := by
  by_cases h : val xs < val ys
  · exact divide_less ha hb hx hy h
  · exact divide_more ha hb hx hy h0 (by omega)
end Go.Proofs.YtdoponlhiidimaaGreatDoor
