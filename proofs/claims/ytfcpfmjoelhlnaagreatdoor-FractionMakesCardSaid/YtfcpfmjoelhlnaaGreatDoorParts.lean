/- The sum of two fractions by parts. Conditions: the slices hold the numbers that are named, in lowest terms, and the sum in lowest terms has room. -/
import Derived.Test.YtfcpfmjoelhlnaaGreatDoorCalc
import Derived.Deep.RegionHeld3
namespace Go.Proofs.YtfcpfmjoelhlnaaGreatDoor
open Go.RowKit LimbN

/-- Three numbers in new memory. -/
structure PartR (x y z : Nat) (w : World) (e : Ending) (w' : World) : Prop where
  ex : ∃ vx vy vz, e = .returned (.tuple #[vx, vy, vz]) ∧ Sl w' vx (limbs x) ∧ Sl w' vy (limbs y) ∧ Sl w' vz (limbs z) ∧ New w.heap.size vx ∧ New w.heap.size vy ∧ New w.heap.size vz
  kp : Kp w w'
/-- The numbers of a sum by parts. -/
structure PN (a b c d g fa fb k den : Nat) : Prop where
  b0 : b ≠ 0
  d0 : d ≠ 0
  eg : g = Nat.gcd b d
  efa : fa = d / g
  efb : fb = b / g
  ek : k = Nat.gcd (a * fa + c * fb) g
  eden : den = fb * (d / k)
  la : (limbs a).length ≤ 128
  lb : (limbs b).length ≤ 128
  lc : (limbs c).length ≤ 128
  ld : (limbs d).length ≤ 128
  lnum : (limbs ((a * fa + c * fb) / k)).length ≤ 128
  lden : (limbs den).length ≤ 128
theorem PN.g0 {a b c d g fa fb k den : Nat} (h : PN a b c d g fa fb k den) : g ≠ 0 := by rw [h.eg]; exact Nat.ne_of_gt (Nat.gcd_pos_of_pos_left _ (Nat.pos_of_ne_zero h.b0))
theorem PN.lg {a b c d g fa fb k den : Nat} (h : PN a b c d g fa fb k den) : (limbs g).length ≤ 128 := by rw [h.eg]; exact gcd_len h.lb h.ld
theorem PN.lfa {a b c d g fa fb k den : Nat} (h : PN a b c d g fa fb k den) : (limbs fa).length ≤ 128 := by rw [h.efa]; exact Nat.le_trans (limbs_mono (Nat.div_le_self _ _)) h.ld
theorem PN.lfb {a b c d g fa fb k den : Nat} (h : PN a b c d g fa fb k den) : (limbs fb).length ≤ 128 := by rw [h.efb]; exact Nat.le_trans (limbs_mono (Nat.div_le_self _ _)) h.lb
theorem PN.gfa {a b c d g fa fb k den : Nat} (h : PN a b c d g fa fb k den) : g * fa = d := by rw [h.efa, h.eg]; exact Nat.mul_div_cancel' (Nat.gcd_dvd_right _ _)
theorem PN.gfb {a b c d g fa fb k den : Nat} (h : PN a b c d g fa fb k den) : g * fb = b := by rw [h.efb, h.eg]; exact Nat.mul_div_cancel' (Nat.gcd_dvd_left _ _)
theorem PN.kdvd {a b c d g fa fb k den : Nat} (h : PN a b c d g fa fb k den) : k ∣ g := by rw [h.ek]; exact Nat.gcd_dvd_right _ _
theorem PN.k0 {a b c d g fa fb k den : Nat} (h : PN a b c d g fa fb k den) : k ≠ 0 := by rw [h.ek]; exact Nat.ne_of_gt (Nat.gcd_pos_of_pos_right _ (Nat.pos_of_ne_zero h.g0))
theorem PN.kle {a b c d g fa fb k den : Nat} (h : PN a b c d g fa fb k den) : k ≤ g := Nat.le_of_dvd (Nat.pos_of_ne_zero h.g0) h.kdvd
theorem PN.lk {a b c d g fa fb k den : Nat} (h : PN a b c d g fa fb k den) : (limbs k).length ≤ 128 := Nat.le_trans (limbs_mono h.kle) h.lg
theorem PN.le1 {a b c d g fa fb k den : Nat} (h : PN a b c d g fa fb k den) (m : Nat) (hm : k ≤ m) : (limbs (a * fa / m)).length ≤ 128 :=
  Nat.le_trans (limbs_mono (Nat.le_trans (Nat.div_le_div_left hm (Nat.pos_of_ne_zero h.k0)) (Nat.div_le_div_right (Nat.le_add_right _ _)))) h.lnum
theorem PN.le2 {a b c d g fa fb k den : Nat} (h : PN a b c d g fa fb k den) (m : Nat) (hm : k ≤ m) : (limbs (c * fb / m)).length ≤ 128 :=
  Nat.le_trans (limbs_mono (Nat.le_trans (Nat.div_le_div_left hm (Nat.pos_of_ne_zero h.k0)) (Nat.div_le_div_right (Nat.le_add_left _ _)))) h.lnum
theorem PN.ek2 {a b c d g fa fb k den : Nat} (h : PN a b c d g fa fb k den) : Nat.gcd ((a * fa % g + c * fb % g) % g) g = k := by
  rw [h.ek, ← Nat.add_mod, Nat.gcd_comm (a * fa + c * fb) g, Nat.gcd_rec g (a * fa + c * fb)]
/-- what the second part is. -/
def up2 (c fb k : Nat) : Nat := c * fb / k + if c * fb % k = 0 then 0 else 1
theorem PN.sum {a b c d g fa fb k den : Nat} (h : PN a b c d g fa fb k den) : a * fa / k + up2 c fb k = (a * fa + c * fb) / k :=
  FracN.floor_ceil (Nat.pos_of_ne_zero h.k0) (by rw [h.ek]; exact Nat.gcd_dvd_left _ _)
theorem PN.lup {a b c d g fa fb k den : Nat} (h : PN a b c d g fa fb k den) : (limbs (up2 c fb k)).length ≤ 128 :=
  Nat.le_trans (limbs_mono (by rw [← h.sum]; exact Nat.le_add_left _ _)) h.lnum
set_option maxRecDepth 100000 in
set_option maxHeartbeats 4000000 in
theorem parts_n {a b c d g fa fb k den p : Nat} {va vb vc vd : Value} {w : World} (hp : PN a b c d g fa fb k den) (hc : Cnt w p) (ha : Sl w va (limbs a)) (hb : Sl w vb (limbs b)) (hcc : Sl w vc (limbs c)) (hd : Sl w vd (limbs d)) :
    Calls Tryz.prog 98 #[.pointer (some ⟨p, 0, none⟩), .agg #[va, vb], .agg #[vc, vd]] w (PartR (a * fa / k) (up2 c fb k) den w) := by
  obtain ⟨ao, al, ac, rfl⟩ := ha.open3
  obtain ⟨bo, bl, bc, rfl⟩ := hb.open3
  obtain ⟨co, cl, cc, rfl⟩ := hcc.open3
  obtain ⟨do', dl, dc, rfl⟩ := hd.open3
  obtain ⟨w1, hw1, HK1, HB1, hz1⟩ := box2 w 25 (.slice ao al ac) (.slice bo bl bc)
  obtain ⟨w2, hw2, HK2, HB2, hz2⟩ := box2 w1 25 (.slice co cl cc) (.slice do' dl dc)
  have hsz : w1.heap.size = w.heap.size + 1 := by rw [hw1]; simp
  rw [hsz] at HB2
  have hk02 := Kp.trans HK1.out HK2.out
  have HK02 := Lib.hid hk02
  have HC := Lib.hid (hc.keep hk02); have HA := Lib.hid (ha.keep hk02); have HB := Lib.hid (hb.keep hk02); have HCC := Lib.hid (hcc.keep hk02); have HD := Lib.hid (hd.keep hk02)
  have HB1' := Lib.hid (HB1.out.keep HK2.out)
  have hw12 : w2 = (w.alloc (Obj.cells #[.slice ao al ac, .slice bo bl bc] 25)).alloc (Obj.cells #[.slice co cl cc, .slice do' dl dc] 25) := by rw [hw2, hw1]
  have c40 := HB1'.out.c0
  have c41 := HB1'.out.c1
  have c50 := HB2.out.c0
  have c51 := HB2.out.c1
  rw [hw12] at c40 c41 c50 c51
  have HW12 := Lib.hid hw12
  have HP := Lib.hid hp
  clear hw1 hw2 hw12 hz1 hz2 hsz hk02 hc ha hb hcc hd hp HK1 HK2 HB1
  go_enter Tryz.func98, Tryz.ntmps98
  go_wp2_with fail
  rw [← HW12.out] at c40 c41 c50 c51 ⊢
  refine (gcd_n HB.out HD.out HP.out.lb HP.out.ld).mono ?_
  intro e w3 hq
  rw [← HP.out.eg] at hq
  obtain ⟨⟨vg, rfl, h1, -⟩, hk⟩ := hq
  have HG := Lib.hid h1; have HK3 := Lib.hid hk; clear h1 hk
  have HB13 := Lib.hid (HB1'.out.keep HK3.out); have HB23 := Lib.hid (HB2.out.keep HK3.out)
  clear c40 c41 c50 c51
  have c41 := HB13.out.c1; have c51 := HB23.out.c1
  go_wp2_with fail
  refine (keep_n (HC.out.keep HK3.out)).mono ?_
  rintro e w' ⟨rfl, rfl⟩
  go_wp2_with fail
  have HG0 := Lib.hid HP.out.g0; have HLG := Lib.hid HP.out.lg; have HLB := Lib.hid HP.out.lb; have HLD := Lib.hid HP.out.ld
  have HB3 := Lib.hid (HB.out.keep HK3.out); have HD3 := Lib.hid (HD.out.keep HK3.out)
  go_region_held3 (fun w' => w'.cell? ⟨w.heap.size, 1, none⟩ = some (.slice bo bl bc) ∧ w'.cell? ⟨w.heap.size + 1, 1, none⟩ = some (.slice do' dl dc) ∧ Kp w3 w')
    (first
      | exact ⟨c41, c51, Kp.refl _⟩
      | exact ⟨(HB13.out.keep (by first | assumption | exact Kp.trans (by assumption) (by assumption) | exact Kp.trans (by assumption) (Kp.drewN _ 1) | exact Kp.drewN _ 1)).c1, (HB23.out.keep (by first | assumption | exact Kp.trans (by assumption) (by assumption) | exact Kp.trans (by assumption) (Kp.drewN _ 1) | exact Kp.drewN _ 1)).c1, (by first | assumption | exact Kp.trans (by assumption) (by assumption) | exact Kp.trans (by assumption) (Kp.drewN _ 1) | exact Kp.drewN _ 1)⟩
      | (go_split_ands
         exact ⟨(HB13.out.keep (by first | assumption | exact Kp.trans (by assumption) (by assumption) | exact Kp.trans (by assumption) (Kp.drewN _ 1) | exact Kp.drewN _ 1)).c1, (HB23.out.keep (by first | assumption | exact Kp.trans (by assumption) (by assumption) | exact Kp.trans (by assumption) (Kp.drewN _ 1) | exact Kp.drewN _ 1)).c1, (by first | assumption | exact Kp.trans (by assumption) (by assumption) | exact Kp.trans (by assumption) (Kp.drewN _ 1) | exact Kp.drewN _ 1)⟩))
    (first
      | (go_at_call_of 80 (Value.slice do' dl dc); refine (quotient_n (HD3.out.keep (Kp.drewN w3 1)) (HG.out.keep (Kp.drewN w3 1)) HLD.out HLG.out HG0.out).mono ?_; intro e w4 hq; obtain ⟨⟨vfa, rfl, hfa, -⟩, hk4⟩ := hq)
      | (go_at_call_of 80 (Value.slice bo bl bc); refine (quotient_n (HB3.out.keep (Kp.trans (Kp.drewN w3 1) hk4)) (HG.out.keep (Kp.trans (Kp.drewN w3 1) hk4)) HLB.out HLG.out HG0.out).mono ?_; intro e w5 hq; obtain ⟨⟨vfb, rfl, hfb, -⟩, hk5⟩ := hq))
  rw [← HP.out.efa] at hfa
  rw [← HP.out.efb] at hfb
  have hk35 : Kp w3 w5 := Kp.trans (Kp.trans (Kp.drewN w3 1) hk4) hk5
  have HFA := Lib.hid (hfa.keep hk5); have HFB := Lib.hid hfb; have HK5 := Lib.hid (Kp.trans HK3.out hk35); have HG5 := Lib.hid (HG.out.keep hk35)
  clear hfa hfb hk4 hk5 hk35 c41 c51
  have c40 := (HB1'.out.keep HK5.out).c0; have c50 := (HB2.out.keep HK5.out).c0
  have HGE := Lib.hid HP.out.gfa; have HGF := Lib.hid HP.out.gfb
  go_wp2_with fail
  refine (divideProduct_n (HC.out.keep HK5.out) (HA.out.keep HK5.out) HFA.out HG5.out HP.out.la HP.out.lfa HLG.out HG0.out (by rw [HGE.out]; exact HLD.out) (HP.out.le1 g HP.out.kle)).mono ?_
  intro e w6 hq
  obtain ⟨⟨vq, vra, rfl, -, h2, -, -⟩, hk⟩ := hq
  have HRA := Lib.hid h2; have HK6 := Lib.hid (Kp.trans HK5.out hk); have HFB6 := Lib.hid (HFB.out.keep hk); have HG6 := Lib.hid (HG5.out.keep hk); have HFA6 := Lib.hid (HFA.out.keep hk)
  clear h2 hk c40 c50
  have c40 := (HB1'.out.keep HK6.out).c0; have c50 := (HB2.out.keep HK6.out).c0
  go_wp2_with fail
  refine (divideProduct_n (HC.out.keep HK6.out) (HCC.out.keep HK6.out) HFB6.out HG6.out HP.out.lc HP.out.lfb HLG.out HG0.out (by rw [HGF.out]; exact HLB.out) (HP.out.le2 g HP.out.kle)).mono ?_
  intro e w7 hq
  obtain ⟨⟨vq2, vrb, rfl, -, h2, -, -⟩, hk⟩ := hq
  have HRB := Lib.hid h2; have HRA7 := Lib.hid (HRA.out.keep hk); have HK7 := Lib.hid (Kp.trans HK6.out hk); have HFB7 := Lib.hid (HFB6.out.keep hk); have HG7 := Lib.hid (HG6.out.keep hk); have HFA7 := Lib.hid (HFA6.out.keep hk)
  clear h2 hk c40 c50
  go_wp2_with fail
  refine (addModulo_n HRA7.out HRB.out HG7.out HLG.out (Nat.mod_lt _ (Nat.pos_of_ne_zero HG0.out)) (Nat.le_of_lt (Nat.mod_lt _ (Nat.pos_of_ne_zero HG0.out)))).mono ?_
  intro e w8 hq
  obtain ⟨⟨vs, rfl, h1, -⟩, hk⟩ := hq
  have HS := Lib.hid h1; have HK8 := Lib.hid (Kp.trans HK7.out hk); have HFB8 := Lib.hid (HFB7.out.keep hk); have HG8 := Lib.hid (HG7.out.keep hk); have HFA8 := Lib.hid (HFA7.out.keep hk)
  clear h1 hk
  go_wp2_with fail
  refine (gcd_n HS.out HG8.out (Nat.le_trans (limbs_mono (Nat.le_of_lt (Nat.mod_lt _ (Nat.pos_of_ne_zero HG0.out)))) HLG.out) HLG.out).mono ?_
  intro e w9 hq
  rw [HP.out.ek2] at hq
  obtain ⟨⟨vk, rfl, h1, -⟩, hk⟩ := hq
  have HKK := Lib.hid h1; have HK9 := Lib.hid (Kp.trans HK8.out hk); have HFB9 := Lib.hid (HFB8.out.keep hk); have HFA9 := Lib.hid (HFA8.out.keep hk)
  clear h1 hk
  go_wp2_with fail
  refine (keep_n (HC.out.keep HK9.out)).mono ?_
  rintro e w' ⟨rfl, rfl⟩
  have c51 := (HB2.out.keep HK9.out).c1
  go_wp2_with fail
  refine (quotient_n (HD.out.keep HK9.out) HKK.out HLD.out HP.out.lk HP.out.k0).mono ?_
  intro e w10 hq
  obtain ⟨⟨vdk, rfl, h1, -⟩, hk⟩ := hq
  have HDK := Lib.hid h1; have HK10 := Lib.hid (Kp.trans HK9.out hk); have HFB10 := Lib.hid (HFB9.out.keep hk); have HFA10 := Lib.hid (HFA9.out.keep hk); have HKK10 := Lib.hid (HKK.out.keep hk)
  clear h1 hk c51
  go_wp2_with fail
  refine (mul_n HFB10.out HDK.out HP.out.lfb (Nat.le_trans (limbs_mono (Nat.div_le_self _ _)) HLD.out) (by rw [← HP.out.eden]; exact HP.out.lden)).mono ?_
  intro e w11 hq
  rw [← HP.out.eden] at hq
  obtain ⟨⟨vden, rfl, h1, h2⟩, hk⟩ := hq
  have HDEN := Lib.hid h1; have HDENN := Lib.hid (h2.mono (Nat.le_trans HK02.out.size HK10.out.size)); have HK11 := Lib.hid (Kp.trans HK10.out hk); have HFB11 := Lib.hid (HFB10.out.keep hk); have HFA11 := Lib.hid (HFA10.out.keep hk); have HKK11 := Lib.hid (HKK10.out.keep hk)
  clear h1 h2 hk
  go_wp2_with fail
  refine (keep_n (HC.out.keep HK11.out)).mono ?_
  rintro e w' ⟨rfl, rfl⟩
  have c40 := (HB1'.out.keep HK11.out).c0; have c50 := (HB2.out.keep HK11.out).c0
  go_wp2_with fail
  refine (divideProduct_n (HC.out.keep HK11.out) (HA.out.keep HK11.out) HFA11.out HKK11.out HP.out.la HP.out.lfa HP.out.lk HP.out.k0 (Nat.le_trans (limbs_mono (Nat.le_trans (Nat.mul_le_mul_right _ HP.out.kle) (Nat.le_of_eq HGE.out))) HLD.out) (HP.out.le1 k (Nat.le_refl _))).mono ?_
  intro e w12 hq
  obtain ⟨⟨vpa, vr3, rfl, h1, -, h2, -⟩, hk⟩ := hq
  have HPA := Lib.hid h1; have HPAN := Lib.hid (h2.mono (Nat.le_trans HK02.out.size HK11.out.size)); have HK12 := Lib.hid (Kp.trans HK11.out hk); have HFB12 := Lib.hid (HFB11.out.keep hk); have HKK12 := Lib.hid (HKK11.out.keep hk); have HDEN12 := Lib.hid (HDEN.out.keep hk)
  clear h1 h2 hk c40 c50
  have c40 := (HB1'.out.keep HK12.out).c0; have c50 := (HB2.out.keep HK12.out).c0
  go_wp2_with fail
  refine (divideProduct_n (HC.out.keep HK12.out) (HCC.out.keep HK12.out) HFB12.out HKK12.out HP.out.lc HP.out.lfb HP.out.lk HP.out.k0 (Nat.le_trans (limbs_mono (Nat.le_trans (Nat.mul_le_mul_right _ HP.out.kle) (Nat.le_of_eq HGF.out))) HLB.out) (HP.out.le2 k (Nat.le_refl _))).mono ?_
  intro e w13 hq
  obtain ⟨⟨vpb, vr4, rfl, h1, h3, h2, -⟩, hk⟩ := hq
  have HPB := Lib.hid h1; have HPBN := Lib.hid (h2.mono (Nat.le_trans HK02.out.size HK12.out.size)); have HK13 := Lib.hid (Kp.trans HK12.out hk); have HDEN13 := Lib.hid (HDEN12.out.keep hk); have HPA13 := Lib.hid (HPA.out.keep hk)
  have hlz := limbs_len_zero (n := c * fb % k)
  obtain ⟨ro, rc, rfl, -⟩ := h3.ex
  clear h1 h2 hk c40 c50 h3
  have FIN : Hid (∀ e vx vy vz w', e = .returned (.tuple #[vx, vy, vz]) → Sl w' vx (limbs (a * fa / k)) → Sl w' vy (limbs (up2 c fb k)) → Sl w' vz (limbs den) → New w.heap.size vx → New w.heap.size vy → New w.heap.size vz → Kp w w' → PartR (a * fa / k) (up2 c fb k) den w e w') := fun e vx vy vz w' h1 h2 h3 h4 h5 h6 h7 h8 => ⟨⟨vx, vy, vz, h1, h2, h3, h4, h5, h6, h7⟩, h8⟩
  by_cases h0 : c * fb % k = 0
  · have hl := hlz.2 h0
    have hup : up2 c fb k = c * fb / k := by unfold up2; rw [if_pos h0, Nat.add_zero]
    have FIN2 := Lib.hid (FIN.out _ vpa vpb vden w13 rfl HPA13.out (by rw [hup]; exact HPB.out) HDEN13.out HPAN.out HPBN.out HDENN.out (Kp.trans HK02.out HK13.out))
    rw [hl]
    obtain ⟨Q, hQ⟩ : ∃ Q, Q = PartR (a * fa / k) (up2 c fb k) den w := ⟨_, rfl⟩
    rw [← hQ] at FIN2
    clear hlz h0 hl hup FIN
    have HQQ := Lib.hid hQ; clear hQ
    go_wp2_with fail
    rw [HQQ.out] at FIN2
    go_ret3
    exact FIN2.out
  · have hl : (limbs (c * fb % k)).length ≠ 0 := fun h => h0 (hlz.1 h)
    have hup : up2 c fb k = c * fb / k + 1 := by unfold up2; rw [if_neg h0]
    have HUP := Lib.hid hup
    obtain ⟨l, el⟩ : ∃ l, l = (limbs (c * fb % k)).length := ⟨_, rfl⟩
    rw [← el] at hl ⊢
    have hld : decide (0 < l) = true := decide_eq_true (by omega)
    clear hlz h0 hup el hl
    go_wp2_with fail
    refine (of_any 1 w13 (by decide)).mono ?_
    rintro e w14 ⟨v1, rfl, h1, -, hk⟩
    have HV1 := Lib.hid h1; have HPB14 := Lib.hid (HPB.out.keep hk); have HK14 := Lib.hid (Kp.trans HK13.out hk); have HDEN14 := Lib.hid (HDEN13.out.keep hk); have HPA14 := Lib.hid (HPA13.out.keep hk)
    clear h1 hk
    go_wp2_with fail
    refine (add_n HPB14.out HV1.out (by rw [← HUP.out]; exact HP.out.lup)).mono ?_
    intro e w15 hq
    rw [← HUP.out] at hq
    obtain ⟨⟨vup, rfl, h1, h2⟩, hk⟩ := hq
    have FIN2 := Lib.hid (FIN.out _ vpa vup vden w15 rfl (HPA14.out.keep hk) h1 (HDEN14.out.keep hk) HPAN.out (h2.mono (Nat.le_trans HK02.out.size HK14.out.size)) HDENN.out (Kp.trans HK02.out (Kp.trans HK14.out hk)))
    have HK15 := Lib.hid (Kp.trans HK14.out hk)
    clear h1 h2 hk FIN
    go_wp2_with fail
    refine (keep_n (HC.out.keep HK15.out)).mono ?_
    rintro e w' ⟨rfl, rfl⟩
    go_wp2_with fail
    go_ret3
    exact FIN2.out
end Go.Proofs.YtfcpfmjoelhlnaaGreatDoor
