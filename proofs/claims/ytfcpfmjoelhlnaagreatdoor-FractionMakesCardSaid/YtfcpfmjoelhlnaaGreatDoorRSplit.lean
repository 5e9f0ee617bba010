/- The reference's division: quotient and remainder. Conditions: the slices hold the numbers that are named, of at most 1000 limbs; the divisor is not 0. -/
import Derived.Test.YtfcpfmjoelhlnaaGreatDoorRCommon
import Derived.Deep.RegionHeld3
namespace Go.Proofs.YtfcpfmjoelhlnaaGreatDoor
open Go.RowKit LimbN

theorem cmp_n {w : World} {a b : Nat} {va vb : Value} (ha : Sl w va (limbs a)) (hb : Sl w vb (limbs b)) :
    Calls Tryz.prog 56 #[va, vb] w fun e w' => e = .returned (.int .i64 (if a < b then -1 else if b < a then 1 else 0)) ∧ Kp w w' := by
  refine (order_any ha hb).mono ?_
  rintro e w' ⟨rfl, hd⟩
  rw [cmp_val]
  exact ⟨rfl, hd.kp⟩
set_option maxRecDepth 100000 in
set_option maxHeartbeats 1000000 in
theorem Split_less {a b : Nat} {va vb : Value} {w : World} (ha : Sl w va (limbs a)) (hb : Sl w vb (limbs b)) (hla : (limbs a).length ≤ 1000) (hlt : a < b) :
    Calls Tryz.prog 81 #[va, vb] w (Quot a b w) := by
  have e1 : limbs (a / b) = [] := by rw [Nat.div_eq_of_lt hlt]; rfl
  have e2 : limbs (a % b) = limbs a := by rw [Nat.mod_eq_of_lt hlt]
  have FIN : Hid (∀ v w', Sl w' v (limbs a) → New w.heap.size v → Kp w w' → Quot a b w (.returned (.tuple #[.slice none 0 0, v])) w') := fun v w' h1 h2 h3 => ⟨⟨_, v, rfl, by rw [e1]; exact Sl.nil _, by rw [e2]; exact h1, New.nil _, h2⟩, h3⟩
  obtain ⟨Q, hQ⟩ : ∃ Q, Q = Quot a b w := ⟨_, rfl⟩
  rw [← hQ] at FIN ⊢
  have HC := cmp_n ha hb
  rw [if_pos hlt] at HC
  have HCC := Lib.hid HC
  obtain ⟨⟨ao, ca, rfl, hca, hma, hat, hano⟩, -, -⟩ := ha
  obtain ⟨la, ela⟩ : ∃ la, la = (limbs a).length := ⟨_, rfl⟩
  rw [← ela] at hca hla HCC ⊢
  unfold maxLen at hma
  have HAT := Lib.hid hat; have HANO := Lib.hid hano; have ELA := Lib.hid ela
  clear hat hano ela hQ e1 e2 hlt hb HC
  go_enter Tryz.func81, Tryz.ntmps81
  go_wp2_with fail
  refine HCC.out.mono ?_
  rintro e w1 ⟨rfl, hk⟩
  have HK := Lib.hid hk; clear hk
  have HAT1 := Lib.hid (HAT.out.keep HK.out)
  go_wp2_with (at_builtin; refine wpList_app rfl (.const (.slice none 0 0)) (.tmp 20) 23 rfl Tryz.underlying23 w1.heap.size _ 0 [] rfl (World.ownsRow_nil _ _ _ _) ao la ca (limbs a) rfl ELA.out.symm HAT1.out HANO.out (by omega) (Nat.le_refl _) ?_)
  intro v2 w2 hown hgr
  have hs := sl_of_owns (zs := limbs a) hown (Lt.limbs _) (by have := ELA.out; omega)
  have FIN2 := Lib.hid (FIN.out v2 w2 hs.1 (hs.2.mono HK.out.size) (Kp.trans HK.out (Kp.grown hgr (by simp [Value.ownBlock]))))
  clear hs hown hgr
  go_wp2
  (try go_ret2)
  exact FIN2.out
set_option maxRecDepth 100000 in
set_option maxHeartbeats 1000000 in
theorem Split_one {a b : Nat} {va vb : Value} {w : World} (ha : Sl w va (limbs a)) (hb : Sl w vb (limbs b)) (h0 : b ≠ 0) (h1 : (limbs b).length = 1) (hle : b ≤ a) :
    Calls Tryz.prog 81 #[va, vb] w (Quot a b w) := by
  have hb1 : b < 4294967296 := by have := (limbs_len_le (n := b) (k := 1)).1 (by omega); omega
  have hbl : limbs b = [b] := by
    rw [limbs_pos h0, Nat.mod_eq_of_lt hb1, Nat.div_eq_of_lt hb1]; rfl
  have FIN : Hid (∀ e vq vr w', e = .returned (.tuple #[vq, vr]) → Sl w' vq (limbs (a / b)) → Sl w' vr (limbs (a % b)) → New w.heap.size vq → New w.heap.size vr → Kp w w' → Quot a b w e w') := fun e vq vr w' h1 h2 h3 h4 h5 h6 => ⟨⟨vq, vr, h1, h2, h3, h4, h5⟩, h6⟩
  obtain ⟨Q, hQ⟩ : ∃ Q, Q = Quot a b w := ⟨_, rfl⟩
  rw [← hQ] at FIN ⊢
  have HC := cmp_n ha hb
  obtain ⟨c, hc⟩ : ∃ c : Int, c = if a < b then -1 else if b < a then 1 else 0 := ⟨_, rfl⟩
  have hcn : ¬ c < 0 := by rw [hc, if_neg (by omega)]; split <;> omega
  rw [← hc] at HC
  have HCC := Lib.hid HC; have HA := Lib.hid ha
  obtain ⟨⟨bo, cb, rfl, hcb, hmb, hbt, -⟩, -, -⟩ := hb
  rw [hbl] at hbt
  obtain ⟨bl, off, rfl, hcells⟩ := hbt.cells (by simp)
  have hcell0 := hcells 0 (by simp)
  simp only [List.getElem?_cons_zero, Option.getD_some, Nat.add_zero] at hcell0
  have HC0 := Lib.hid hcell0
  rw [h1] at HCC hcb ⊢
  unfold maxLen at hmb
  have B0 := Lib.hid (Nat.pos_of_ne_zero h0)
  clear ha hbt hcells hcell0 hc hQ HC h0 h1 hle hbl
  go_enter Tryz.func81, Tryz.ntmps81
  go_wp2_with fail
  refine HCC.out.mono ?_
  rintro e w1 ⟨rfl, hk⟩
  have HK := Lib.hid hk; clear hk
  have HA1 := Lib.hid (HA.out.keep HK.out)
  have hcell : w1.cell? ⟨bl, off, none⟩ = some (.int .u32 (b : Nat)) := (HK.out.cell (World.block_lt_of_cell? w _ HC0.out)).trans HC0.out
  go_wp2_with fail
  refine (small_any HA1.out B0.out hb1).mono ?_
  rintro e w2 ⟨vq, rfl, hs2, hn2, hk2⟩
  rw [val_limbs] at hs2 ⊢
  have HS2 := Lib.hid hs2; have HN2 := Lib.hid (hn2.mono HK.out.size); have HK2 := Lib.hid (Kp.trans HK.out hk2)
  clear hs2 hn2 hk2 hcell
  have hrb : a % b < 18446744073709551616 := by have := Nat.mod_lt a B0.out; omega
  obtain ⟨r, er⟩ : ∃ r, r = a % b := ⟨_, rfl⟩
  rw [← er] at hrb ⊢
  have ER := Lib.hid er; clear er
  go_wp2_with fail
  refine (rof_any r w2 hrb).mono ?_
  rintro e w3 ⟨vr, rfl, hs3, hn3, hk3⟩
  rw [ER.out] at hs3
  have FIN2 := Lib.hid (FIN.out _ vq vr w3 rfl (HS2.out.keep hk3) hs3 HN2.out (hn3.mono HK2.out.size) (Kp.trans HK2.out hk3))
  clear hs3 hn3 hk3
  go_wp2
  (try go_ret2)
  exact FIN2.out

theorem norm_gap {dt s : Nat} (hs : s < 32) (h : dt * 2 ^ s < 4294967296) : (dt + 1) * 2 ^ s ≤ 4294967296 := by
  have e := pow32 hs
  have h1 : dt < 2 ^ (32 - s) := by
    rw [← e, Nat.mul_comm (2 ^ s)] at h
    exact Nat.lt_of_mul_lt_mul_right h
  have := Nat.mul_le_mul_right (2 ^ s) (show dt + 1 ≤ 2 ^ (32 - s) from h1)
  rw [Nat.mul_comm (2 ^ (32 - s)), e] at this
  exact this
/-- The estimate's limbs. -/
theorem two_of {zr dv : List Nat} {o m R D : Nat} (hz : Lt zr) (hd : Lt dv) (hdl : dv.length = m + 2) (hR : R = seg zr o (m + 3)) (hD : D = val dv) (hlt : R < 4294967296 * D) (hn : 4294967296 ^ (m + 1) * 2147483648 ≤ D) :
    Two R D (4294967296 ^ m) (zr[o + m]?.getD 0) (zr[o + (m + 1)]?.getD 0 + 4294967296 * zr[o + (m + 2)]?.getD 0) (dv[m]?.getD 0) (dv[m + 1]?.getD 0) := by
  have hp : 0 < 4294967296 ^ m := Nat.pow_pos (by omega)
  have e1 : R = seg zr o m + 4294967296 ^ m * (zr[o + m]?.getD 0 + 4294967296 * (zr[o + (m + 1)]?.getD 0 + 4294967296 * zr[o + (m + 2)]?.getD 0)) := by
    rw [hR, seg_succ, seg_succ, seg_succ]
    simp only [Nat.pow_succ, Nat.mul_add, Nat.mul_assoc]; omega
  have e2 := seg_lt hz o m
  have e3 : D = val (dv.take m) + 4294967296 ^ m * (dv[m]?.getD 0 + 4294967296 * dv[m + 1]?.getD 0) := by
    have h := val_take_succ dv (m + 1)
    rw [List.take_of_length_le (by omega), val_take_succ] at h
    rw [hD, h]
    simp only [Nat.pow_succ, Nat.mul_add, Nat.mul_assoc]; omega
  have e4 : val (dv.take m) < 4294967296 ^ m := by have := val_lt (hd.take m); rwa [List.length_take, Nat.min_eq_left (by omega)] at this
  refine ⟨by omega, by rw [Nat.mul_add]; omega, by omega, by rw [Nat.mul_add]; omega, hp, hlt, hz _, hd _, hd _, ?_⟩
  refine Nat.le_of_not_lt fun h => ?_
  have h1 : 4294967296 ^ m * (dv[m]?.getD 0 + 4294967296 * dv[m + 1]?.getD 0 + 1) ≤ 4294967296 ^ m * (4294967296 * 2147483648) := Nat.mul_le_mul_left _ (by have := hd m; omega)
  rw [Nat.mul_add] at h1
  rw [Nat.pow_succ, Nat.mul_assoc] at hn
  omega
theorem est_bound {top v1 : Nat} (h : 2147483648 ≤ v1) (ht : top < 18446744073709551616) : top / v1 ≤ 8589934591 := by
  have : top / v1 < 8589934592 := by
    rw [Nat.div_lt_iff_lt_mul (by omega)]
    have := Nat.mul_le_mul_left 8589934592 h
    omega
  omega
end Go.Proofs.YtfcpfmjoelhlnaaGreatDoor
