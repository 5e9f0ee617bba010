/- The fractions' calculation while no error has come: keep, addModulo, divideProduct. Conditions: the slices hold the numbers that are named, and all results have room. -/
import Derived.Test.YtdoponlhiidimaaGreatDoorMMk
import Derived.Deep.RegionHeld3
import Derived.Test.YtdoponlhiidimaaGreatDoorMFm
namespace Go.Proofs.YtdoponlhiidimaaGreatDoor
open Go.RowKit LimbN

theorem setCell_id {w : World} {g : Nat} {t : TypeId} {v : Value} (h : w.heap[g]? = some (.cells #[v] t (0, 0))) : w.setCell ⟨g, 0, none⟩ v = w := by
  obtain ⟨heap, tape, drawn, os, output⟩ := w
  rw [World.setCell.eq_1]
  have : (heap.modify g fun x => match x with | Obj.cells c elem frozen => Obj.cells (if (none : Option Nat).isSome = true then c else c.setIfInBounds 0 v) elem frozen | o => o) = heap := by
    apply Array.ext_getElem?
    intro i
    rw [Array.getElem?_modify]
    by_cases hi : g = i
    · subst hi
      have h' : heap[g]? = some (.cells #[v] t (0, 0)) := h
      rw [if_pos rfl, h']
      rfl
    · rw [if_neg hi]
  exact congrArg (fun x => World.mk x tape drawn os output) this
/-- A calculation without an error. -/
structure Cnt (w : World) (g : Nat) : Prop where
  blk : w.heap[g]? = some (.cells #[.int .i64 0] 47 (0, 0))
theorem Cnt.lt {w : World} {g : Nat} (h : Cnt w g) : g < w.heap.size := lt_of_block h.blk
theorem Cnt.keep {w w' : World} {g : Nat} (h : Cnt w g) (hk : Kp w w') : Cnt w' g := ⟨(hk.block g h.lt).trans h.blk⟩
theorem Cnt.c0 {w : World} {g : Nat} (h : Cnt w g) : w.cell? ⟨g, 0, none⟩ = some (.int .i64 0) := by rw [cell_of_row w g 0 _ _ (0, 0) h.blk]; rfl
theorem Cnt.free {w : World} {g : Nat} (h : Cnt w g) : w.frozen? ⟨g, 0, none⟩ = false := frozen_of_row w g 0 _ _ h.blk
theorem Cnt.id {w : World} {g : Nat} (h : Cnt w g) : w.setCell ⟨g, 0, none⟩ (.int .i64 0) = w := setCell_id h.blk
set_option maxRecDepth 100000 in
theorem keep_n {w : World} {g : Nat} {v : Value} (h : Cnt w g) :
    Calls Tryz.prog 18 #[.pointer (some ⟨g, 0, none⟩), v, .int .i64 0] w fun e w' => e = .returned v ∧ w = w' := by
  have c0 := h.c0
  have f0 := h.free
  have hi := h.id
  clear h
  go_enter Tryz.func18, Tryz.ntmps18
  go_wp2_with fail
  go_ret
  exact ⟨rfl, rfl⟩
/-- A number and a Bool, in new memory. -/
structure NumB (n : Nat) (b : Bool) (w : World) (e : Ending) (w' : World) : Prop where
  ex : ∃ v, e = .returned (.tuple #[v, .bool b]) ∧ Sl w' v (limbs n) ∧ New w.heap.size v
  kp : Kp w w'
theorem ncmp_n {a b : Nat} {va vb : Value} {w : World} (ha : Sl w va (limbs a)) (hb : Sl w vb (limbs b)) (h1 : (limbs a).length ≤ 128) (h2 : (limbs b).length ≤ 128) : Calls Tryz.prog 93 #[va, vb] w fun e w' => e = .returned (.int .i64 (if a < b then -1 else if b < a then 1 else 0)) ∧ Kp w w' := by
  refine (Compare_any ha hb).mono ?_
  rintro e w' ⟨rfl, hd⟩
  refine ⟨?_, hd.kp⟩
  unfold cmpW
  rw [wf_limbs h1, wf_limbs h2, Bool.and_self, if_pos rfl, cmp_val]
set_option maxRecDepth 100000 in
theorem addModulo_n {a b m : Nat} {va vb vm : Value} {w : World} (ha : Sl w va (limbs a)) (hb : Sl w vb (limbs b)) (hm : Sl w vm (limbs m)) (hlm : (limbs m).length ≤ 128) (ham : a < m) (hbm : b ≤ m) :
    Calls Tryz.prog 71 #[va, vb, vm] w (NumB ((a + b) % m) (decide (m ≤ a + b)) w) := by
  have FIN : Hid (∀ e v w' n c, e = .returned (.tuple #[v, .bool c]) → Sl w' v (limbs n) → New w.heap.size v → Kp w w' → n = (a + b) % m → c = decide (m ≤ a + b) → NumB ((a + b) % m) (decide (m ≤ a + b)) w e w') := by
    intro e v w' n c h1 h2 h3 h4 h5 h6
    subst h5; subst h6
    exact ⟨⟨v, h1, h2, h3⟩, h4⟩
  obtain ⟨Q, hQ⟩ : ∃ Q, Q = NumB ((a + b) % m) (decide (m ≤ a + b)) w := ⟨_, rfl⟩
  rw [← hQ] at FIN ⊢
  clear hQ
  have HA := Lib.hid ha; have HB := Lib.hid hb; have HM := Lib.hid hm; have HL := Lib.hid hlm; have HAM := Lib.hid ham; have HBM := Lib.hid hbm
  clear ha hb hm hlm ham hbm
  go_enter Tryz.func71, Tryz.ntmps71
  go_wp2_with fail
  refine (sub_n HM.out HB.out HL.out HBM.out).mono ?_
  intro e w2 hq
  obtain ⟨⟨vg, rfl, h1, h2⟩, hk⟩ := hq
  have HG := Lib.hid h1; have HGN := Lib.hid h2; have HK2 := Lib.hid hk; clear h1 h2 hk
  go_wp2_with fail
  refine (ncmp_n (HA.out.keep HK2.out) HG.out (Nat.le_trans (limbs_mono (Nat.le_of_lt HAM.out)) HL.out) (Nat.le_trans (limbs_mono (Nat.sub_le _ _)) HL.out)).mono ?_
  rintro e w3 ⟨rfl, hk⟩
  have HK3 := Lib.hid (Kp.trans HK2.out hk); have HG3 := Lib.hid (HG.out.keep hk); clear hk
  by_cases hlt : a < m - b
  · rw [if_pos hlt]
    have HLT := Lib.hid hlt; clear hlt
    go_wp2_with fail
    refine (add_n (HA.out.keep HK3.out) (HB.out.keep HK3.out) (Nat.le_trans (limbs_mono (by have := HLT.out; omega)) HL.out)).mono ?_
    intro e w4 hq
    obtain ⟨⟨v, rfl, h1, h2⟩, hk⟩ := hq
    have h5 : a + b < m := by have := HLT.out; omega
    have FIN2 := Lib.hid (FIN.out _ v w4 (a + b) false rfl h1 (h2.mono HK3.out.size) (Kp.trans HK3.out hk) (Nat.mod_eq_of_lt h5).symm (decide_eq_false (by omega)).symm)
    clear h1 h2 hk h5
    go_wp2
    (try go_ret2)
    exact FIN2.out
  · rw [if_neg hlt]
    obtain ⟨T, hT⟩ : ∃ T : Int, T = if m - b < a then 1 else 0 := ⟨_, rfl⟩
    have ht : decide (T < 0) = false := by
      rw [hT]
      split <;> decide
    rw [← hT]
    have HLT := Lib.hid hlt; clear hlt hT
    go_wp2_with fail
    refine (sub_n (HA.out.keep HK3.out) HG3.out (Nat.le_trans (limbs_mono (Nat.le_of_lt HAM.out)) HL.out) (Nat.le_of_not_lt HLT.out)).mono ?_
    intro e w4 hq
    obtain ⟨⟨v, rfl, h1, h2⟩, hk⟩ := hq
    have h0 := HLT.out; have h0' := HAM.out; have h0'' := HBM.out
    have h5 : a - (m - b) = (a + b) % m := by
      have : a + b - m < m := by omega
      rw [Nat.mod_eq_sub_mod (by omega), Nat.mod_eq_of_lt this]
      omega
    have FIN2 := Lib.hid (FIN.out _ v w4 _ true rfl h1 (h2.mono HK3.out.size) (Kp.trans HK3.out hk) h5 (decide_eq_true (by omega)).symm)
    clear h1 h2 hk h5 h0 h0' h0''
    go_wp2
    (try go_ret2)
    exact FIN2.out
set_option maxRecDepth 100000 in
theorem divideProduct_n {x y d g : Nat} {vx vy vd : Value} {w : World} (hc : Cnt w g) (hx : Sl w vx (limbs x)) (hy : Sl w vy (limbs y)) (hd : Sl w vd (limbs d)) (h1 : (limbs x).length ≤ 128) (h2 : (limbs y).length ≤ 128) (h3 : (limbs d).length ≤ 128) (h0 : d ≠ 0)
    (h4 : (limbs (d * y)).length ≤ 128) (h5 : (limbs (x * y / d)).length ≤ 128) :
    Calls Tryz.prog 70 #[.pointer (some ⟨g, 0, none⟩), vx, vy, vd] w (Quot (x * y) d w) := by
  have hdp := FracN.div_product x y d (Nat.pos_of_ne_zero h0)
  have hlt := Nat.mod_lt x (Nat.pos_of_ne_zero h0)
  have FIN : Hid (∀ e vq vr w', e = .returned (.tuple #[vq, vr]) → Sl w' vq (limbs (x / d * y + x % d * y / d)) → Sl w' vr (limbs (x % d * y % d)) → New w.heap.size vq → New w.heap.size vr → Kp w w' → Quot (x * y) d w e w') := by
    intro e vq vr w' h1 h2 h3 h4 h5 h6
    rw [hdp.1] at h2
    rw [hdp.2] at h3
    exact ⟨⟨vq, vr, h1, h2, h3, h4, h5⟩, h6⟩
  have HSUM : Hid ((limbs (x / d * y + x % d * y / d)).length ≤ 128) := by rw [hdp.1]; exact h5
  have HQ : Hid ((limbs (x / d * y)).length ≤ 128) := Nat.le_trans (limbs_mono (Nat.le_add_right _ (x % d * y / d))) HSUM.out
  have HR : Hid ((limbs (x % d * y)).length ≤ 128) := Nat.le_trans (limbs_mono (FracN.div_product_lt x y d (Nat.pos_of_ne_zero h0))) h4
  have HXD : Hid ((limbs (x / d)).length ≤ 128) := Nat.le_trans (limbs_mono (Nat.div_le_self _ _)) h1
  have HXM : Hid ((limbs (x % d)).length ≤ 128) := Nat.le_trans (limbs_mono (Nat.mod_le _ _)) h1
  clear hdp hlt h4 h5
  obtain ⟨Q, hQ⟩ : ∃ Q, Q = Quot (x * y) d w := ⟨_, rfl⟩
  rw [← hQ] at FIN ⊢
  clear hQ
  have HC := Lib.hid hc; have HX := Lib.hid hx; have HY := Lib.hid hy; have HD := Lib.hid hd; have H1 := Lib.hid h1; have H2 := Lib.hid h2; have H3 := Lib.hid h3; have H0 := Lib.hid h0
  clear hc hx hy hd h1 h2 h3 h0
  go_enter Tryz.func70, Tryz.ntmps70
  go_wp2_with fail
  refine (fdivide_n HX.out HD.out H1.out H3.out H0.out).mono ?_
  intro e w2 hq
  obtain ⟨⟨vw, vr, rfl, h1, h2, -, -⟩, hk⟩ := hq
  have HW := Lib.hid h1; have HRR := Lib.hid h2; have HK2 := Lib.hid hk; clear h1 h2 hk
  go_wp2_with fail
  refine (mul_n HRR.out (HY.out.keep HK2.out) HXM.out H2.out HR.out).mono ?_
  intro e w3 hq
  obtain ⟨⟨vp, rfl, h1, -⟩, hk⟩ := hq
  have HP := Lib.hid h1; have HK3 := Lib.hid (Kp.trans HK2.out hk); have HW3 := Lib.hid (HW.out.keep hk); clear h1 hk
  go_wp2_with fail
  refine (keep_n (HC.out.keep HK3.out)).mono ?_
  rintro e w' ⟨rfl, rfl⟩
  go_wp2_with fail
  refine (fdivide_n HP.out (HD.out.keep HK3.out) HR.out H3.out H0.out).mono ?_
  intro e w4 hq
  obtain ⟨⟨vm, vs, rfl, h1, h2, -, h3⟩, hk⟩ := hq
  have HM := Lib.hid h1; have HS := Lib.hid h2; have HSN := Lib.hid (h3.mono HK3.out.size); have HK4 := Lib.hid (Kp.trans HK3.out hk); have HW4 := Lib.hid (HW3.out.keep hk); clear h1 h2 h3 hk
  go_wp2_with fail
  refine (mul_n HW4.out (HY.out.keep HK4.out) HXD.out H2.out HQ.out).mono ?_
  intro e w5 hq
  obtain ⟨⟨vu, rfl, h1, -⟩, hk⟩ := hq
  have HU := Lib.hid h1; have HK5 := Lib.hid (Kp.trans HK4.out hk); have HM5 := Lib.hid (HM.out.keep hk); have HS5 := Lib.hid (HS.out.keep hk); clear h1 hk
  go_wp2_with fail
  refine (keep_n (HC.out.keep HK5.out)).mono ?_
  rintro e w' ⟨rfl, rfl⟩
  go_wp2_with fail
  refine (add_n HU.out HM5.out HSUM.out).mono ?_
  intro e w6 hq
  obtain ⟨⟨vt, rfl, h1, h2⟩, hk⟩ := hq
  have HT := Lib.hid h1; have HTN := Lib.hid (h2.mono HK5.out.size); have HK6 := Lib.hid (Kp.trans HK5.out hk); have HS6 := Lib.hid (HS5.out.keep hk); clear h1 h2 hk
  go_wp2_with fail
  refine (keep_n (HC.out.keep HK6.out)).mono ?_
  rintro e w' ⟨rfl, rfl⟩
  have FIN2 := Lib.hid (FIN.out _ vt vs w6 rfl HT.out HS6.out HTN.out HSN.out HK6.out)
  go_wp2
  (try go_ret2)
  exact FIN2.out
end Go.Proofs.YtdoponlhiidimaaGreatDoor

/- The sum of two fractions by parts. Conditions: the slices hold the numbers that are named, in lowest terms, and the sum in lowest terms has room. -/
namespace Go.Proofs.YtdoponlhiidimaaGreatDoor
open Go.RowKit LimbN

/-- Three numbers in new memory. -/
structure PartR (x y z : Nat) (w : World) (e : Ending) (w' : World) : Prop where
  ex : ∃ vx vy vz, e = .returned (.tuple #[vx, vy, vz]) ∧ Sl w' vx (limbs x) ∧ Sl w' vy (limbs y) ∧ Sl w' vz (limbs z) ∧ New w.heap.size vx ∧ New w.heap.size vy ∧ New w.heap.size vz
  kp : Kp w w'
/-- The numbers of a sum by parts. -/
structure PN (a b c d g fa fb k den : Nat) : Prop where
  b0 : b ≠ 0
  d0 : d ≠ 0
  eg : g = Nat.gcd b d
  efa : fa = d / g
  efb : fb = b / g
  ek : k = Nat.gcd (a * fa + c * fb) g
  eden : den = fb * (d / k)
  la : (limbs a).length ≤ 128
  lb : (limbs b).length ≤ 128
  lc : (limbs c).length ≤ 128
  ld : (limbs d).length ≤ 128
  lnum : (limbs ((a * fa + c * fb) / k)).length ≤ 128
  lden : (limbs den).length ≤ 128
theorem PN.g0 {a b c d g fa fb k den : Nat} (h : PN a b c d g fa fb k den) : g ≠ 0 := by rw [h.eg]; exact Nat.ne_of_gt (Nat.gcd_pos_of_pos_left _ (Nat.pos_of_ne_zero h.b0))
theorem PN.lg {a b c d g fa fb k den : Nat} (h : PN a b c d g fa fb k den) : (limbs g).length ≤ 128 := by rw [h.eg]; exact gcd_len h.lb h.ld
theorem PN.lfa {a b c d g fa fb k den : Nat} (h : PN a b c d g fa fb k den) : (limbs fa).length ≤ 128 := by rw [h.efa]; exact Nat.le_trans (limbs_mono (Nat.div_le_self _ _)) h.ld
theorem PN.lfb {a b c d g fa fb k den : Nat} (h : PN a b c d g fa fb k den) : (limbs fb).length ≤ 128 := by rw [h.efb]; exact Nat.le_trans (limbs_mono (Nat.div_le_self _ _)) h.lb
theorem PN.gfa {a b c d g fa fb k den : Nat} (h : PN a b c d g fa fb k den) : g * fa = d := by rw [h.efa, h.eg]; exact Nat.mul_div_cancel' (Nat.gcd_dvd_right _ _)
theorem PN.gfb {a b c d g fa fb k den : Nat} (h : PN a b c d g fa fb k den) : g * fb = b := by rw [h.efb, h.eg]; exact Nat.mul_div_cancel' (Nat.gcd_dvd_left _ _)
theorem PN.kdvd {a b c d g fa fb k den : Nat} (h : PN a b c d g fa fb k den) : k ∣ g := by rw [h.ek]; exact Nat.gcd_dvd_right _ _
theorem PN.k0 {a b c d g fa fb k den : Nat} (h : PN a b c d g fa fb k den) : k ≠ 0 := by rw [h.ek]; exact Nat.ne_of_gt (Nat.gcd_pos_of_pos_right _ (Nat.pos_of_ne_zero h.g0))
theorem PN.kle {a b c d g fa fb k den : Nat} (h : PN a b c d g fa fb k den) : k ≤ g := Nat.le_of_dvd (Nat.pos_of_ne_zero h.g0) h.kdvd
theorem PN.lk {a b c d g fa fb k den : Nat} (h : PN a b c d g fa fb k den) : (limbs k).length ≤ 128 := Nat.le_trans (limbs_mono h.kle) h.lg
theorem PN.le1 {a b c d g fa fb k den : Nat} (h : PN a b c d g fa fb k den) (m : Nat) (hm : k ≤ m) : (limbs (a * fa / m)).length ≤ 128 :=
  Nat.le_trans (limbs_mono (Nat.le_trans (Nat.div_le_div_left hm (Nat.pos_of_ne_zero h.k0)) (Nat.div_le_div_right (Nat.le_add_right _ _)))) h.lnum
theorem PN.le2 {a b c d g fa fb k den : Nat} (h : PN a b c d g fa fb k den) (m : Nat) (hm : k ≤ m) : (limbs (c * fb / m)).length ≤ 128 :=
  Nat.le_trans (limbs_mono (Nat.le_trans (Nat.div_le_div_left hm (Nat.pos_of_ne_zero h.k0)) (Nat.div_le_div_right (Nat.le_add_left _ _)))) h.lnum
theorem PN.ek2 {a b c d g fa fb k den : Nat} (h : PN a b c d g fa fb k den) : Nat.gcd ((a * fa % g + c * fb % g) % g) g = k := by
  rw [h.ek, ← Nat.add_mod, Nat.gcd_comm (a * fa + c * fb) g, Nat.gcd_rec g (a * fa + c * fb)]
/-- what the second part is. -/
def up2 (c fb k : Nat) : Nat := c * fb / k + if c * fb % k = 0 then 0 else 1
theorem PN.sum {a b c d g fa fb k den : Nat} (h : PN a b c d g fa fb k den) : a * fa / k + up2 c fb k = (a * fa + c * fb) / k :=
  FracN.floor_ceil (Nat.pos_of_ne_zero h.k0) (by rw [h.ek]; exact Nat.gcd_dvd_left _ _)
theorem PN.lup {a b c d g fa fb k den : Nat} (h : PN a b c d g fa fb k den) : (limbs (up2 c fb k)).length ≤ 128 :=
  Nat.le_trans (limbs_mono (by rw [← h.sum]; exact Nat.le_add_left _ _)) h.lnum
set_option maxRecDepth 100000 in
set_option maxHeartbeats 4000000 in
theorem parts_n {a b c d g fa fb k den p : Nat} {va vb vc vd : Value} {w : World} (hp : PN a b c d g fa fb k den) (hc : Cnt w p) (ha : Sl w va (limbs a)) (hb : Sl w vb (limbs b)) (hcc : Sl w vc (limbs c)) (hd : Sl w vd (limbs d)) :
    Calls Tryz.prog 51 #[.pointer (some ⟨p, 0, none⟩), .agg #[va, vb], .agg #[vc, vd]] w (PartR (a * fa / k) (up2 c fb k) den w) := by
  obtain ⟨ao, al, ac, rfl⟩ := ha.open3
  obtain ⟨bo, bl, bc, rfl⟩ := hb.open3
  obtain ⟨co, cl, cc, rfl⟩ := hcc.open3
  obtain ⟨do', dl, dc, rfl⟩ := hd.open3
  obtain ⟨w1, hw1, HK1, HB1, hz1⟩ := box2 w 26 (.slice ao al ac) (.slice bo bl bc)
  obtain ⟨w2, hw2, HK2, HB2, hz2⟩ := box2 w1 26 (.slice co cl cc) (.slice do' dl dc)
  have hsz : w1.heap.size = w.heap.size + 1 := by rw [hw1]; simp
  rw [hsz] at HB2
  have hk02 := Kp.trans HK1.out HK2.out
  have HK02 := Lib.hid hk02
  have HC := Lib.hid (hc.keep hk02); have HA := Lib.hid (ha.keep hk02); have HB := Lib.hid (hb.keep hk02); have HCC := Lib.hid (hcc.keep hk02); have HD := Lib.hid (hd.keep hk02)
  have HB1' := Lib.hid (HB1.out.keep HK2.out)
  have hw12 : w2 = (w.alloc (Obj.cells #[.slice ao al ac, .slice bo bl bc] 26)).alloc (Obj.cells #[.slice co cl cc, .slice do' dl dc] 26) := by rw [hw2, hw1]
  have c40 := HB1'.out.c0
  have c41 := HB1'.out.c1
  have c50 := HB2.out.c0
  have c51 := HB2.out.c1
  rw [hw12] at c40 c41 c50 c51
  have HW12 := Lib.hid hw12
  have HP := Lib.hid hp
  clear hw1 hw2 hw12 hz1 hz2 hsz hk02 hc ha hb hcc hd hp HK1 HK2 HB1
  go_enter Tryz.func51, Tryz.ntmps51
  go_wp2_with fail
  rw [← HW12.out] at c40 c41 c50 c51 ⊢
  refine (gcd_n HB.out HD.out HP.out.lb HP.out.ld).mono ?_
  intro e w3 hq
  rw [← HP.out.eg] at hq
  obtain ⟨⟨vg, rfl, h1, -⟩, hk⟩ := hq
  have HG := Lib.hid h1; have HK3 := Lib.hid hk; clear h1 hk
  have HB13 := Lib.hid (HB1'.out.keep HK3.out); have HB23 := Lib.hid (HB2.out.keep HK3.out)
  clear c40 c41 c50 c51
  have c41 := HB13.out.c1; have c51 := HB23.out.c1
  go_wp2_with fail
  refine (keep_n (HC.out.keep HK3.out)).mono ?_
  rintro e w' ⟨rfl, rfl⟩
  go_wp2_with fail
  have HG0 := Lib.hid HP.out.g0; have HLG := Lib.hid HP.out.lg; have HLB := Lib.hid HP.out.lb; have HLD := Lib.hid HP.out.ld
  have HB3 := Lib.hid (HB.out.keep HK3.out); have HD3 := Lib.hid (HD.out.keep HK3.out)
  go_region_held3 (fun w' => w'.cell? ⟨w.heap.size, 1, none⟩ = some (.slice bo bl bc) ∧ w'.cell? ⟨w.heap.size + 1, 1, none⟩ = some (.slice do' dl dc) ∧ Kp w3 w')
    (first
      | exact ⟨c41, c51, Kp.refl _⟩
      | exact ⟨(HB13.out.keep (by first | assumption | exact Kp.trans (by assumption) (by assumption) | exact Kp.trans (by assumption) (Kp.drewN _ 1) | exact Kp.drewN _ 1)).c1, (HB23.out.keep (by first | assumption | exact Kp.trans (by assumption) (by assumption) | exact Kp.trans (by assumption) (Kp.drewN _ 1) | exact Kp.drewN _ 1)).c1, (by first | assumption | exact Kp.trans (by assumption) (by assumption) | exact Kp.trans (by assumption) (Kp.drewN _ 1) | exact Kp.drewN _ 1)⟩
      | (go_split_ands
         exact ⟨(HB13.out.keep (by first | assumption | exact Kp.trans (by assumption) (by assumption) | exact Kp.trans (by assumption) (Kp.drewN _ 1) | exact Kp.drewN _ 1)).c1, (HB23.out.keep (by first | assumption | exact Kp.trans (by assumption) (by assumption) | exact Kp.trans (by assumption) (Kp.drewN _ 1) | exact Kp.drewN _ 1)).c1, (by first | assumption | exact Kp.trans (by assumption) (by assumption) | exact Kp.trans (by assumption) (Kp.drewN _ 1) | exact Kp.drewN _ 1)⟩))
    (first
      | (go_at_call_of 69 (Value.slice do' dl dc); refine (quotient_n (HD3.out.keep (Kp.drewN w3 1)) (HG.out.keep (Kp.drewN w3 1)) HLD.out HLG.out HG0.out).mono ?_; intro e w4 hq; obtain ⟨⟨vfa, rfl, hfa, -⟩, hk4⟩ := hq)
      | (go_at_call_of 69 (Value.slice bo bl bc); refine (quotient_n (HB3.out.keep (Kp.trans (Kp.drewN w3 1) hk4)) (HG.out.keep (Kp.trans (Kp.drewN w3 1) hk4)) HLB.out HLG.out HG0.out).mono ?_; intro e w5 hq; obtain ⟨⟨vfb, rfl, hfb, -⟩, hk5⟩ := hq))
  rw [← HP.out.efa] at hfa
  rw [← HP.out.efb] at hfb
  have hk35 : Kp w3 w5 := Kp.trans (Kp.trans (Kp.drewN w3 1) hk4) hk5
  have HFA := Lib.hid (hfa.keep hk5); have HFB := Lib.hid hfb; have HK5 := Lib.hid (Kp.trans HK3.out hk35); have HG5 := Lib.hid (HG.out.keep hk35)
  clear hfa hfb hk4 hk5 hk35 c41 c51
  have c40 := (HB1'.out.keep HK5.out).c0; have c50 := (HB2.out.keep HK5.out).c0
  have HGE := Lib.hid HP.out.gfa; have HGF := Lib.hid HP.out.gfb
  go_wp2_with fail
  refine (divideProduct_n (HC.out.keep HK5.out) (HA.out.keep HK5.out) HFA.out HG5.out HP.out.la HP.out.lfa HLG.out HG0.out (by rw [HGE.out]; exact HLD.out) (HP.out.le1 g HP.out.kle)).mono ?_
  intro e w6 hq
  obtain ⟨⟨vq, vra, rfl, -, h2, -, -⟩, hk⟩ := hq
  have HRA := Lib.hid h2; have HK6 := Lib.hid (Kp.trans HK5.out hk); have HFB6 := Lib.hid (HFB.out.keep hk); have HG6 := Lib.hid (HG5.out.keep hk); have HFA6 := Lib.hid (HFA.out.keep hk)
  clear h2 hk c40 c50
  have c40 := (HB1'.out.keep HK6.out).c0; have c50 := (HB2.out.keep HK6.out).c0
  go_wp2_with fail
  refine (divideProduct_n (HC.out.keep HK6.out) (HCC.out.keep HK6.out) HFB6.out HG6.out HP.out.lc HP.out.lfb HLG.out HG0.out (by rw [HGF.out]; exact HLB.out) (HP.out.le2 g HP.out.kle)).mono ?_
  intro e w7 hq
  obtain ⟨⟨vq2, vrb, rfl, -, h2, -, -⟩, hk⟩ := hq
  have HRB := Lib.hid h2; have HRA7 := Lib.hid (HRA.out.keep hk); have HK7 := Lib.hid (Kp.trans HK6.out hk); have HFB7 := Lib.hid (HFB6.out.keep hk); have HG7 := Lib.hid (HG6.out.keep hk); have HFA7 := Lib.hid (HFA6.out.keep hk)
  clear h2 hk c40 c50
  go_wp2_with fail
  refine (addModulo_n HRA7.out HRB.out HG7.out HLG.out (Nat.mod_lt _ (Nat.pos_of_ne_zero HG0.out)) (Nat.le_of_lt (Nat.mod_lt _ (Nat.pos_of_ne_zero HG0.out)))).mono ?_
  intro e w8 hq
  obtain ⟨⟨vs, rfl, h1, -⟩, hk⟩ := hq
  have HS := Lib.hid h1; have HK8 := Lib.hid (Kp.trans HK7.out hk); have HFB8 := Lib.hid (HFB7.out.keep hk); have HG8 := Lib.hid (HG7.out.keep hk); have HFA8 := Lib.hid (HFA7.out.keep hk)
  clear h1 hk
  go_wp2_with fail
  refine (gcd_n HS.out HG8.out (Nat.le_trans (limbs_mono (Nat.le_of_lt (Nat.mod_lt _ (Nat.pos_of_ne_zero HG0.out)))) HLG.out) HLG.out).mono ?_
  intro e w9 hq
  rw [HP.out.ek2] at hq
  obtain ⟨⟨vk, rfl, h1, -⟩, hk⟩ := hq
  have HKK := Lib.hid h1; have HK9 := Lib.hid (Kp.trans HK8.out hk); have HFB9 := Lib.hid (HFB8.out.keep hk); have HFA9 := Lib.hid (HFA8.out.keep hk)
  clear h1 hk
  go_wp2_with fail
  refine (keep_n (HC.out.keep HK9.out)).mono ?_
  rintro e w' ⟨rfl, rfl⟩
  have c51 := (HB2.out.keep HK9.out).c1
  go_wp2_with fail
  refine (quotient_n (HD.out.keep HK9.out) HKK.out HLD.out HP.out.lk HP.out.k0).mono ?_
  intro e w10 hq
  obtain ⟨⟨vdk, rfl, h1, -⟩, hk⟩ := hq
  have HDK := Lib.hid h1; have HK10 := Lib.hid (Kp.trans HK9.out hk); have HFB10 := Lib.hid (HFB9.out.keep hk); have HFA10 := Lib.hid (HFA9.out.keep hk); have HKK10 := Lib.hid (HKK.out.keep hk)
  clear h1 hk c51
  go_wp2_with fail
  refine (mul_n HFB10.out HDK.out HP.out.lfb (Nat.le_trans (limbs_mono (Nat.div_le_self _ _)) HLD.out) (by rw [← HP.out.eden]; exact HP.out.lden)).mono ?_
  intro e w11 hq
  rw [← HP.out.eden] at hq
  obtain ⟨⟨vden, rfl, h1, h2⟩, hk⟩ := hq
  have HDEN := Lib.hid h1; have HDENN := Lib.hid (h2.mono (Nat.le_trans HK02.out.size HK10.out.size)); have HK11 := Lib.hid (Kp.trans HK10.out hk); have HFB11 := Lib.hid (HFB10.out.keep hk); have HFA11 := Lib.hid (HFA10.out.keep hk); have HKK11 := Lib.hid (HKK10.out.keep hk)
  clear h1 h2 hk
  go_wp2_with fail
  refine (keep_n (HC.out.keep HK11.out)).mono ?_
  rintro e w' ⟨rfl, rfl⟩
  have c40 := (HB1'.out.keep HK11.out).c0; have c50 := (HB2.out.keep HK11.out).c0
  go_wp2_with fail
  refine (divideProduct_n (HC.out.keep HK11.out) (HA.out.keep HK11.out) HFA11.out HKK11.out HP.out.la HP.out.lfa HP.out.lk HP.out.k0 (Nat.le_trans (limbs_mono (Nat.le_trans (Nat.mul_le_mul_right _ HP.out.kle) (Nat.le_of_eq HGE.out))) HLD.out) (HP.out.le1 k (Nat.le_refl _))).mono ?_
  intro e w12 hq
  obtain ⟨⟨vpa, vr3, rfl, h1, -, h2, -⟩, hk⟩ := hq
  have HPA := Lib.hid h1; have HPAN := Lib.hid (h2.mono (Nat.le_trans HK02.out.size HK11.out.size)); have HK12 := Lib.hid (Kp.trans HK11.out hk); have HFB12 := Lib.hid (HFB11.out.keep hk); have HKK12 := Lib.hid (HKK11.out.keep hk); have HDEN12 := Lib.hid (HDEN.out.keep hk)
  clear h1 h2 hk c40 c50
  have c40 := (HB1'.out.keep HK12.out).c0; have c50 := (HB2.out.keep HK12.out).c0
  go_wp2_with fail
  refine (divideProduct_n (HC.out.keep HK12.out) (HCC.out.keep HK12.out) HFB12.out HKK12.out HP.out.lc HP.out.lfb HP.out.lk HP.out.k0 (Nat.le_trans (limbs_mono (Nat.le_trans (Nat.mul_le_mul_right _ HP.out.kle) (Nat.le_of_eq HGF.out))) HLB.out) (HP.out.le2 k (Nat.le_refl _))).mono ?_
  intro e w13 hq
  obtain ⟨⟨vpb, vr4, rfl, h1, h3, h2, -⟩, hk⟩ := hq
  have HPB := Lib.hid h1; have HPBN := Lib.hid (h2.mono (Nat.le_trans HK02.out.size HK12.out.size)); have HK13 := Lib.hid (Kp.trans HK12.out hk); have HDEN13 := Lib.hid (HDEN12.out.keep hk); have HPA13 := Lib.hid (HPA.out.keep hk)
  have hlz := limbs_len_zero (n := c * fb % k)
  obtain ⟨ro, rc, rfl, -⟩ := h3.ex
  clear h1 h2 hk c40 c50 h3
  have FIN : Hid (∀ e vx vy vz w', e = .returned (.tuple #[vx, vy, vz]) → Sl w' vx (limbs (a * fa / k)) → Sl w' vy (limbs (up2 c fb k)) → Sl w' vz (limbs den) → New w.heap.size vx → New w.heap.size vy → New w.heap.size vz → Kp w w' → PartR (a * fa / k) (up2 c fb k) den w e w') := fun e vx vy vz w' h1 h2 h3 h4 h5 h6 h7 h8 => ⟨⟨vx, vy, vz, h1, h2, h3, h4, h5, h6, h7⟩, h8⟩
  by_cases h0 : c * fb % k = 0
  · have hl := hlz.2 h0
    have hup : up2 c fb k = c * fb / k := by unfold up2; rw [if_pos h0, Nat.add_zero]
    have FIN2 := Lib.hid (FIN.out _ vpa vpb vden w13 rfl HPA13.out (by rw [hup]; exact HPB.out) HDEN13.out HPAN.out HPBN.out HDENN.out (Kp.trans HK02.out HK13.out))
    rw [hl]
    obtain ⟨Q, hQ⟩ : ∃ Q, Q = PartR (a * fa / k) (up2 c fb k) den w := ⟨_, rfl⟩
    rw [← hQ] at FIN2
    clear hlz h0 hl hup FIN
    have HQQ := Lib.hid hQ; clear hQ
    go_wp2_with fail
    rw [HQQ.out] at FIN2
    go_ret3
    exact FIN2.out
  · have hl : (limbs (c * fb % k)).length ≠ 0 := fun h => h0 (hlz.1 h)
    have hup : up2 c fb k = c * fb / k + 1 := by unfold up2; rw [if_neg h0]
    have HUP := Lib.hid hup
    obtain ⟨l, el⟩ : ∃ l, l = (limbs (c * fb % k)).length := ⟨_, rfl⟩
    rw [← el] at hl ⊢
    have hld : decide (0 < l) = true := decide_eq_true (by omega)
    clear hlz h0 hup el hl
    go_wp2_with fail
    refine (of_any 1 w13 (by decide)).mono ?_
    rintro e w14 ⟨v1, rfl, h1, -, hk⟩
    have HV1 := Lib.hid h1; have HPB14 := Lib.hid (HPB.out.keep hk); have HK14 := Lib.hid (Kp.trans HK13.out hk); have HDEN14 := Lib.hid (HDEN13.out.keep hk); have HPA14 := Lib.hid (HPA13.out.keep hk)
    clear h1 hk
    go_wp2_with fail
    refine (add_n HPB14.out HV1.out (by rw [← HUP.out]; exact HP.out.lup)).mono ?_
    intro e w15 hq
    rw [← HUP.out] at hq
    obtain ⟨⟨vup, rfl, h1, h2⟩, hk⟩ := hq
    have FIN2 := Lib.hid (FIN.out _ vpa vup vden w15 rfl (HPA14.out.keep hk) h1 (HDEN14.out.keep hk) HPAN.out (h2.mono (Nat.le_trans HK02.out.size HK14.out.size)) HDENN.out (Kp.trans HK02.out (Kp.trans HK14.out hk)))
    have HK15 := Lib.hid (Kp.trans HK14.out hk)
    clear h1 h2 hk FIN
    go_wp2_with fail
    refine (keep_n (HC.out.keep HK15.out)).mono ?_
    rintro e w' ⟨rfl, rfl⟩
    go_wp2_with fail
    go_ret3
    exact FIN2.out
end Go.Proofs.YtdoponlhiidimaaGreatDoor

/- The sum of two fractions. Conditions: the slices hold the numbers that are named, in lowest terms, and the sum in lowest terms has room. -/
namespace Go.Proofs.YtdoponlhiidimaaGreatDoor
open Go.RowKit LimbN

set_option maxRecDepth 100000 in
theorem result_n {p : Nat} {no do' : Option Addr} {nl nc dl dc : Nat} {w : World} (hc : Cnt w p) :
    Calls Tryz.prog 20 #[.pointer (some ⟨p, 0, none⟩), .slice no nl nc, .slice do' dl dc] w fun e w' => e = .returned (.tuple #[.agg #[.slice no nl nc, .slice do' dl dc], .int .i64 0]) ∧ Kp w w' := by
  have hcc := (hc.keep (Kp.alloc (Kp.refl w) (Obj.cells #[Value.slice none 0 0, Value.slice none 0 0] 26))).c0
  clear hc
  go_enter Tryz.func20, Tryz.ntmps20
  go_wp2_with fail
  have hT := Two.new w 26 (.slice no nl nc) (.slice do' dl dc)
  have c0 := hT.c0
  have c1 := hT.c1
  exact bodyPost_ret (by simp [results, Tryz.results20, go_sem]) rfl ⟨rfl, Kp.alloc (Kp.refl _) _⟩
theorem Cnt.new (w : World) : Cnt (w.alloc (.cells #[.int .i64 0] 47 (0, 0))) w.heap.size := ⟨Array.getElem?_push_size⟩
/-- The world behind a calculation's own memory. -/
theorem startc (w : World) : ∃ w1, w1 = w.alloc (Obj.cells #[Value.int .i64 0] 47) ∧ Hid (Kp w w1) ∧ Hid (Cnt w1 w.heap.size) ∧ w.heap.size < w1.heap.size :=
  ⟨_, rfl, Kp.alloc (Kp.refl _) _, Cnt.new _, by simp⟩
set_option maxRecDepth 100000 in
set_option maxHeartbeats 1600000 in
theorem fadd_n {a b c d g fa fb k den : Nat} {va vb vc vd : Value} {w : World} (hp : PN a b c d g fa fb k den) (ha : Sl w va (limbs a)) (hb : Sl w vb (limbs b)) (hcc : Sl w vc (limbs c)) (hd : Sl w vd (limbs d)) :
    Calls Tryz.prog 32 #[.agg #[va, vb], .agg #[vc, vd]] w (MkR 0 ((a * fa + c * fb) / k, den) w) := by
  obtain ⟨ao, al, ac, rfl⟩ := ha.open3
  obtain ⟨bo, bl, bc, rfl⟩ := hb.open3
  obtain ⟨co, cl, cc, rfl⟩ := hcc.open3
  obtain ⟨do', dl, dc, rfl⟩ := hd.open3
  obtain ⟨w1, hw1, HK1, HB1, hz1⟩ := box2 w 26 (.slice ao al ac) (.slice bo bl bc)
  obtain ⟨w2, hw2, HK2, HB2, hz2⟩ := box2 w1 26 (.slice co cl cc) (.slice do' dl dc)
  obtain ⟨w3, hw3, HK3, HB3, hz3⟩ := start2 w2 26
  obtain ⟨w4, hw4, HK4, HC4, hz4⟩ := startc w3
  have hs1 : w1.heap.size = w.heap.size + 1 := by rw [hw1]; simp
  have hs2 : w2.heap.size = w.heap.size + 1 + 1 := by rw [hw2, ← hs1]; simp
  have hs3 : w3.heap.size = w.heap.size + 1 + 1 + 1 := by rw [hw3, ← hs2]; simp
  rw [hs1] at HB2
  rw [hs2] at HB3
  rw [hs3] at HC4
  have hk24 := Kp.trans HK3.out HK4.out
  have hk14 := Kp.trans HK2.out hk24
  have hk04 := Kp.trans HK1.out hk14
  have HK04 := Lib.hid hk04
  have HA := Lib.hid (ha.keep hk04); have HB := Lib.hid (hb.keep hk04); have HCC := Lib.hid (hcc.keep hk04); have HD := Lib.hid (hd.keep hk04)
  have HT1 := Lib.hid (HB1.out.keep hk14); have HT2 := Lib.hid (HB2.out.keep hk24); have HT3 := Lib.hid (HB3.out.keep HK4.out)
  have c10 := HT1.out.c0; have c11 := HT1.out.c1; have c20 := HT2.out.c0; have c21 := HT2.out.c1
  have hw : w4 = (((w.alloc (Obj.cells #[.slice ao al ac, .slice bo bl bc] 26)).alloc (Obj.cells #[.slice co cl cc, .slice do' dl dc] 26)).alloc (Obj.cells #[.slice none 0 0, .slice none 0 0] 26)).alloc (Obj.cells #[.int .i64 0] 47) := by rw [hw4, hw3, hw2, hw1]
  have hz : w.heap.size + 1 + 1 < w4.heap.size := by omega
  have HZ := Lib.hid hz
  rw [hw] at c10 c11 c20 c21
  have HW := Lib.hid hw
  have HP := Lib.hid hp
  clear hw1 hw2 hw3 hw4 hs1 hs2 hs3 hk24 hk14 hk04 ha hb hcc hd hz1 hz2 hz3 hz4 hz hw hp HK1 HK2 HK3 HK4 HB1 HB2 HB3
  go_enter Tryz.func32, Tryz.ntmps32
  go_wp2_with fail
  rw [← HW.out]
  refine (parts_n HP.out HC4.out HA.out HB.out HCC.out HD.out).mono ?_
  intro e w5 hq
  obtain ⟨⟨vx, vy, vz, rfl, h1, h2, h3, -, -, h6⟩, hk⟩ := hq
  have HX := Lib.hid h1; have HY := Lib.hid h2; have HV := Lib.hid h3; have HVN := Lib.hid h6; have HK5 := Lib.hid hk
  clear h1 h2 h3 h6 hk c10 c11 c20 c21
  go_wp2_with fail
  refine (add_n HX.out HY.out (by rw [HP.out.sum]; exact HP.out.lnum)).mono ?_
  intro e w6 hq
  rw [HP.out.sum] at hq
  obtain ⟨⟨vn, rfl, h1, h2⟩, hk⟩ := hq
  have HN := Lib.hid h1; have HNN := Lib.hid (h2.mono HK5.out.size); have HK6 := Lib.hid (Kp.trans HK5.out hk); have HV6 := Lib.hid (HV.out.keep hk)
  clear h1 h2 hk
  go_wp2_with fail
  refine (keep_n (HC4.out.keep HK6.out)).mono ?_
  rintro e w' ⟨rfl, rfl⟩
  obtain ⟨no, nl, nc, rfl⟩ := HN.out.open3
  obtain ⟨zo, zl, zc, rfl⟩ := HV6.out.open3
  go_wp2_with fail
  refine (result_n (HC4.out.keep HK6.out)).mono ?_
  rintro e w7 ⟨rfl, hk⟩
  have HK7 := Lib.hid (Kp.trans HK6.out hk); have HN7 := Lib.hid (HN.out.keep hk); have HV7 := Lib.hid (HV6.out.keep hk)
  have hT := HT3.out.keep HK7.out
  have hP := Put.made hT (.slice no nl nc) (.slice zo zl zc)
  obtain ⟨w8, hw8⟩ : ∃ w8, w8 = (w7.setCell ⟨w.heap.size + 1 + 1, 0, none⟩ (.slice no nl nc)).setCell ⟨w.heap.size + 1 + 1, 1, none⟩ (.slice zo zl zc) := ⟨_, rfl⟩
  rw [← hw8] at hP
  have HW8 := Lib.hid hw8
  have HPP := Lib.hid hP
  have f0 := hT.free 0
  have c0 := hT.c0
  have f1 := (hT.set0 (.slice no nl nc)).free 1
  have c1 := (hT.set0 (.slice no nl nc)).c1
  clear hT hw8 hP hk
  go_wp2_with fail
  have hP' := HPP.out
  rw [← HW8.out]
  clear c0 c1 f0 f1
  have c0 := hP'.two.c0
  have c1 := hP'.two.c1
  have FIN2 : MkR 0 ((a * fa + c * fb) / k, den) w (.returned (.tuple #[.agg #[.slice no nl nc, .slice zo zl zc], .int .i64 0])) w8 :=
    ⟨⟨_, _, rfl, HN7.out.only hP'.only (HNN.out.offs HZ.out _), HV7.out.only hP'.only (HVN.out.offs HZ.out _), HNN.out.mono HK04.out.size, HVN.out.mono HK04.out.size⟩, hP'.only.kp (Kp.trans HK04.out HK7.out) (Nat.le_trans (Nat.le_succ _) (Nat.le_succ _))⟩
  exact bodyPost_ret (by simp [results, Tryz.results32, go_sem, c0, c1]) rfl FIN2
end Go.Proofs.YtdoponlhiidimaaGreatDoor

/- Add of two well-formed fractions. Conditions: the slices hold the numbers that are named, in lowest terms, and the sum in lowest terms has room. -/
namespace Go.Proofs.YtdoponlhiidimaaGreatDoor
open Go.RowKit LimbN

theorem frOk_n {a b : Nat} (h1 : (limbs a).length ≤ 128) (h2 : (limbs b).length ≤ 128) (h0 : b ≠ 0) (hg : Nat.gcd a b = 1) : frOk (limbs a) (limbs b) = true := by
  unfold frOk
  rw [wf_limbs h1, wf_limbs h2, val_limbs, val_limbs, hg, decide_eq_true h0]
  rfl
set_option maxRecDepth 100000 in
set_option maxHeartbeats 1600000 in
theorem Add_n {a b c d g fa fb k den : Nat} {va vb vc vd : Value} {w : World} (hp : PN a b c d g fa fb k den) (hab : Nat.gcd a b = 1) (hcd : Nat.gcd c d = 1) (ha : Sl w va (limbs a)) (hb : Sl w vb (limbs b)) (hcc : Sl w vc (limbs c)) (hd : Sl w vd (limbs d)) :
    Calls Tryz.prog 36 #[.agg #[va, vb], .agg #[vc, vd]] w (MkR 0 ((a * fa + c * fb) / k, den) w) := by
  obtain ⟨ao, al, ac, rfl⟩ := ha.open3
  obtain ⟨bo, bl, bc, rfl⟩ := hb.open3
  obtain ⟨co, cl, cc, rfl⟩ := hcc.open3
  obtain ⟨do', dl, dc, rfl⟩ := hd.open3
  obtain ⟨w1, hw1, HK1, HB1, hz1⟩ := box2 w 26 (.slice ao al ac) (.slice bo bl bc)
  obtain ⟨w2, hw2, HK2, HB2, hz2⟩ := box2 w1 26 (.slice co cl cc) (.slice do' dl dc)
  obtain ⟨w3, hw3, HK3, HB3, hz3⟩ := start2 w2 26
  have hs1 : w1.heap.size = w.heap.size + 1 := by rw [hw1]; simp
  have hs2 : w2.heap.size = w.heap.size + 1 + 1 := by rw [hw2, ← hs1]; simp
  rw [hs1] at HB2
  rw [hs2] at HB3
  have hk13 := Kp.trans HK2.out HK3.out
  have hk03 := Kp.trans HK1.out hk13
  have HK03 := Lib.hid hk03
  have HA := Lib.hid (ha.keep hk03); have HB := Lib.hid (hb.keep hk03); have HCC := Lib.hid (hcc.keep hk03); have HD := Lib.hid (hd.keep hk03)
  have HT1 := Lib.hid (HB1.out.keep hk13); have HT2 := Lib.hid (HB2.out.keep HK3.out)
  have c10 := HT1.out.c0; have c11 := HT1.out.c1
  have hw : w3 = ((w.alloc (Obj.cells #[.slice ao al ac, .slice bo bl bc] 26)).alloc (Obj.cells #[.slice co cl cc, .slice do' dl dc] 26)).alloc (Obj.cells #[.slice none 0 0, .slice none 0 0] 26) := by rw [hw3, hw2, hw1]
  have HZ : Hid (w.heap.size + 1 + 1 < w3.heap.size) := by show _ < _; omega
  rw [hw] at c10 c11
  have HW := Lib.hid hw
  have HOK1 := Lib.hid (frOk_n hp.la hp.lb hp.b0 hab); have HOK2 := Lib.hid (frOk_n hp.lc hp.ld hp.d0 hcd)
  have HP := Lib.hid hp
  clear hw1 hw2 hw3 hs1 hs2 hk13 hk03 ha hb hcc hd hz1 hz2 hz3 hw hp HK1 HK2 HK3 HB1 HB2 hab hcd
  go_enter Tryz.func36, Tryz.ntmps36
  go_wp2_with fail
  rw [← HW.out]
  refine (Check_any HA.out HB.out).mono ?_
  rintro e w4 ⟨rfl, hk⟩
  rw [HOK1.out]
  have HK4 := Lib.hid hk
  clear hk c10 c11
  have c20 := (HT2.out.keep HK4.out).c0; have c21 := (HT2.out.keep HK4.out).c1
  go_wp2_with fail
  refine (Check_any (HCC.out.keep HK4.out) (HD.out.keep HK4.out)).mono ?_
  rintro e w5 ⟨rfl, hk⟩
  rw [HOK2.out]
  have HK5 := Lib.hid (Kp.trans HK4.out hk)
  clear hk c20 c21
  have c10 := (HT1.out.keep HK5.out).c0; have c11 := (HT1.out.keep HK5.out).c1
  have c20 := (HT2.out.keep HK5.out).c0; have c21 := (HT2.out.keep HK5.out).c1
  go_wp2_with fail
  refine (fadd_n HP.out (HA.out.keep HK5.out) (HB.out.keep HK5.out) (HCC.out.keep HK5.out) (HD.out.keep HK5.out)).mono ?_
  intro e w7 hq
  obtain ⟨⟨vn, vz, rfl, h1, h2, h3, h4⟩, hk⟩ := hq
  have HS := Lib.hid (Nat.le_trans HK03.out.size HK5.out.size)
  have HK7 := Lib.hid (Kp.trans HK5.out hk); have HN7 := Lib.hid h1; have HV7 := Lib.hid h2; have HNN := Lib.hid (h3.mono HK5.out.size); have HVN := Lib.hid (h4.mono HK5.out.size)
  clear h1 h2 h3 h4 hk c10 c11 c20 c21
  obtain ⟨no, nl, nc, rfl⟩ := HN7.out.open3
  obtain ⟨zo, zl, zc, rfl⟩ := HV7.out.open3
  have hT := HB3.out.keep HK7.out
  have hP := Put.made hT (.slice no nl nc) (.slice zo zl zc)
  obtain ⟨w8, hw8⟩ : ∃ w8, w8 = (w7.setCell ⟨w.heap.size + 1 + 1, 0, none⟩ (.slice no nl nc)).setCell ⟨w.heap.size + 1 + 1, 1, none⟩ (.slice zo zl zc) := ⟨_, rfl⟩
  rw [← hw8] at hP
  have HW8 := Lib.hid hw8
  have HPP := Lib.hid hP
  have f0 := hT.free 0
  have c0 := hT.c0
  have f1 := (hT.set0 (.slice no nl nc)).free 1
  have c1 := (hT.set0 (.slice no nl nc)).c1
  clear hT hw8 hP
  go_wp2_with fail
  have hP' := HPP.out
  rw [← HW8.out]
  clear c0 c1 f0 f1
  have c0 := hP'.two.c0
  have c1 := hP'.two.c1
  have FIN2 : MkR 0 ((a * fa + c * fb) / k, den) w (.returned (.tuple #[.agg #[.slice no nl nc, .slice zo zl zc], .int .i64 0])) w8 :=
    ⟨⟨_, _, rfl, HN7.out.only hP'.only (HNN.out.offs HZ.out _), HV7.out.only hP'.only (HVN.out.offs HZ.out _), HNN.out.mono HK03.out.size, HVN.out.mono HK03.out.size⟩, hP'.only.kp (Kp.trans HK03.out HK7.out) (Nat.le_trans (Nat.le_succ _) (Nat.le_succ _))⟩
  exact bodyPost_ret (by simp [results, Tryz.results36, go_sem, c0, c1]) rfl FIN2
end Go.Proofs.YtdoponlhiidimaaGreatDoor

/- Sums in lowest terms. Conditions: the slices hold the numbers that are named, in lowest terms, and the sum before it is brought to lowest terms has room. -/
namespace Go.Proofs.YtdoponlhiidimaaGreatDoor
open Go.RowKit LimbN
set_option linter.unusedVariables false
set_option linter.unusedSimpArgs false

theorem PN.of {a b c d : Nat} (hb : b ≠ 0) (hd : d ≠ 0) (hab : Nat.gcd a b = 1) (hcd : Nat.gcd c d = 1) (hs : (limbs (a * d + c * b)).length ≤ 128) (ht : (limbs (b * d)).length ≤ 128) :
    ∃ g fa fb k den, PN a b c d g fa fb k den ∧ ((a * fa + c * fb) / k, den) = FracN.low (a * d + c * b) (b * d) := by
  have hb' := Nat.pos_of_ne_zero hb
  have hd' := Nat.pos_of_ne_zero hd
  have P := FracN.parts_of a b c d hb' hd'
  obtain ⟨h1, h2, h3⟩ := P.low hb' hd' hab hcd
  have hl := FracN.low_le_self (a * d + c * b) (b * d)
  rw [h3] at hl
  have m1 : a ≤ a * d + c * b := Nat.le_trans (Nat.le_mul_of_pos_right _ hd') (Nat.le_add_right _ _)
  have m2 : c ≤ a * d + c * b := Nat.le_trans (Nat.le_mul_of_pos_right _ hb') (Nat.le_add_left _ _)
  have m3 : b ≤ b * d := Nat.le_mul_of_pos_right _ hd'
  have m4 : d ≤ b * d := Nat.le_mul_of_pos_left _ hb'
  exact ⟨_, _, _, _, _, ⟨hb, hd, rfl, rfl, rfl, rfl, rfl, Nat.le_trans (limbs_mono m1) hs, Nat.le_trans (limbs_mono m3) ht, Nat.le_trans (limbs_mono m2) hs, Nat.le_trans (limbs_mono m4) ht, Nat.le_trans (limbs_mono hl.1) hs, Nat.le_trans (limbs_mono hl.2) ht⟩, h3.symm⟩
theorem Add_low {a b c d : Nat} {va vb vc vd : Value} {w : World} (hb0 : b ≠ 0) (hd0 : d ≠ 0) (hab : Nat.gcd a b = 1) (hcd : Nat.gcd c d = 1) (hs : (limbs (a * d + c * b)).length ≤ 128) (ht : (limbs (b * d)).length ≤ 128)
    (ha : Sl w va (limbs a)) (hb : Sl w vb (limbs b)) (hcc : Sl w vc (limbs c)) (hd : Sl w vd (limbs d)) :
    Calls Tryz.prog 36 #[.agg #[va, vb], .agg #[vc, vd]] w (MkR 0 (FracN.low (a * d + c * b) (b * d)) w) := by
  obtain ⟨g, fa, fb, k, den, hp, he⟩ := PN.of hb0 hd0 hab hcd hs ht
  rw [← he]
  exact Add_n hp hab hcd ha hb hcc hd
end Go.Proofs.YtdoponlhiidimaaGreatDoor

/- The fractions' calculation with an error: keep and result. Condition: the cell holds the error that is named. -/
namespace Go.Proofs.YtdoponlhiidimaaGreatDoor
open Go.RowKit LimbN
set_option linter.unusedVariables false
set_option linter.unusedSimpArgs false

/-- A calculation with this error. -/
structure Cn (w : World) (g : Nat) (E : Int) : Prop where
  blk : w.heap[g]? = some (.cells #[.int .i64 E] 47 (0, 0))
theorem Cn.lt {w : World} {g : Nat} {E : Int} (h : Cn w g E) : g < w.heap.size := lt_of_block h.blk
theorem Cn.keep {w w' : World} {g : Nat} {E : Int} (h : Cn w g E) (hk : Kp w w') : Cn w' g E := ⟨(hk.block g h.lt).trans h.blk⟩
theorem Cn.c0 {w : World} {g : Nat} {E : Int} (h : Cn w g E) : w.cell? ⟨g, 0, none⟩ = some (.int .i64 E) := by rw [cell_of_row w g 0 _ _ (0, 0) h.blk]; rfl
theorem Cn.free {w : World} {g : Nat} {E : Int} (h : Cn w g E) : w.frozen? ⟨g, 0, none⟩ = false := frozen_of_row w g 0 _ _ h.blk
theorem Cn.set {w : World} {g : Nat} {E : Int} (h : Cn w g E) (F : Int) : Cn (w.setCell ⟨g, 0, none⟩ (.int .i64 F)) g F := ⟨by rw [heap_setCell_same w g 0 _ _ _ h.blk]; rfl⟩
theorem Cnt.cn {w : World} {g : Nat} (h : Cnt w g) : Cn w g 0 := ⟨h.blk⟩
theorem Cn.cnt {w : World} {g : Nat} (h : Cn w g 0) : Cnt w g := ⟨h.blk⟩
/-- The first of two errors. -/
def firstE (E F : Int) : Int := if E = 0 then F else E
set_option maxRecDepth 100000 in
theorem keep_any {w : World} {g : Nat} {v : Value} {E F : Int} (h : Cn w g E) :
    Calls Tryz.prog 18 #[.pointer (some ⟨g, 0, none⟩), v, .int .i64 F] w fun e w' => e = .returned v ∧ Cn w' g (firstE E F) ∧ Only g w w' := by
  have c0 := h.c0
  have f0 := h.free
  have H := Lib.hid h
  clear h
  by_cases h0 : E = 0
  · subst h0
    go_enter Tryz.func18, Tryz.ntmps18
    go_wp2_with fail
    go_ret
    exact ⟨rfl, H.out.set F, (Only.refl g w).set 0 _⟩
  · have hE : (E == 0) = false := beq_eq_false_iff_ne.2 h0
    have hf : firstE E F = E := if_neg h0
    have HF := Lib.hid hf
    clear h0 hf
    go_enter Tryz.func18, Tryz.ntmps18
    go_wp2_with fail
    go_ret
    exact ⟨rfl, by rw [HF.out]; exact H.out, Only.refl g _⟩
/-- A value and an error, the value in new memory. -/
structure OpN (E : Int) (n : Nat) (w : World) (e : Ending) (w' : World) : Prop where
  ex : ∃ v, e = .returned (.tuple #[v, .int .i64 E]) ∧ Sl w' v (limbs n) ∧ New w.heap.size v
  kp : Kp w w'
/-- The error of a number's size. -/
def lenE (n : Nat) : Int := if (limbs n).length ≤ 128 then 0 else 2
def lenV (n : Nat) : Nat := if (limbs n).length ≤ 128 then n else 0
theorem lenE_ok {n : Nat} (h : (limbs n).length ≤ 128) : lenE n = 0 := if_pos h
theorem lenV_ok {n : Nat} (h : (limbs n).length ≤ 128) : lenV n = n := if_pos h
theorem lenE_over {n : Nat} (h : ¬ (limbs n).length ≤ 128) : lenE n = 2 := if_neg h
theorem OpN.made {n : Nat} {w w' : World} {e : Ending} (hm : Made n w e w') : OpN (lenE n) (lenV n) w e w' := by
  obtain ⟨⟨v, rfl, hs, hn⟩, hk⟩ := hm
  by_cases hl : (limbs n).length ≤ 128
  · rw [if_pos hl, lenE_ok hl, lenV_ok hl]
    exact ⟨⟨v, rfl, hs, hn⟩, hk⟩
  · rw [if_neg hl, lenE_over hl, show lenV n = 0 from if_neg hl]
    exact ⟨⟨_, rfl, Sl.nil _, New.nil _⟩, hk⟩
theorem OpN.got {n : Nat} {w w' : World} {e : Ending} (hm : Got n w e w') : OpN (lenE n) (lenV n) w e w' := by
  by_cases hl : (limbs n).length ≤ 128
  · obtain ⟨v, rfl, hs, hn⟩ := hm.ok hl
    rw [lenE_ok hl, lenV_ok hl]
    exact ⟨⟨v, rfl, hs, hn⟩, hm.kp⟩
  · obtain rfl := hm.over (by omega)
    rw [lenE_over hl, show lenV n = 0 from if_neg hl]
    exact ⟨⟨_, rfl, Sl.nil _, New.nil _⟩, hm.kp⟩
theorem mul_E {a b : Nat} {va vb : Value} {w : World} (ha : Sl w va (limbs a)) (hb : Sl w vb (limbs b)) (h1 : (limbs a).length ≤ 128) (h2 : (limbs b).length ≤ 128) : Calls Tryz.prog 72 #[va, vb] w (OpN (lenE (a * b)) (lenV (a * b)) w) := by
  have := Mul_ok ha hb (wf_limbs h1) (wf_limbs h2)
  rw [val_limbs, val_limbs] at this
  exact this.mono fun e w' h => OpN.made h
/-- A fraction's number, or 0 with an error. -/
def orNil (E : Int) (n : Nat) : Nat := if E = 0 then n else 0
set_option maxRecDepth 100000 in
theorem result_sl {p n d : Nat} {E : Int} {vn vd : Value} {B : Nat} {w : World} (hc : Cn w p E) (hn : Sl w vn (limbs n)) (hd : Sl w vd (limbs d)) (nn : New B vn) (nd : New B vd) :
    Calls Tryz.prog 20 #[.pointer (some ⟨p, 0, none⟩), vn, vd] w fun e w' => (∃ xn xd, e = .returned (.tuple #[.agg #[xn, xd], .int .i64 E]) ∧ Sl w' xn (limbs (orNil E n)) ∧ Sl w' xd (limbs (orNil E d)) ∧ New B xn ∧ New B xd) ∧ Kp w w' := by
  obtain ⟨no, nl, nc, rfl⟩ := hn.open3
  obtain ⟨do', dl, dc, rfl⟩ := hd.open3
  by_cases h0 : E = 0
  · subst h0
    refine (result_n hc.cnt).mono ?_
    rintro e w' ⟨rfl, hk⟩
    exact ⟨⟨_, _, rfl, hn.keep hk, hd.keep hk, nn, nd⟩, hk⟩
  · have hE : (E != 0) = true := by simp [h0]
    have hE' : (E == 0) = false := beq_eq_false_iff_ne.2 h0
    have e1 : ∀ k, orNil E k = 0 := fun k => if_neg h0
    have HE := Lib.hid e1
    have hcc := (hc.keep (Kp.alloc (Kp.refl w) (Obj.cells #[Value.slice none 0 0, Value.slice none 0 0] 26))).c0
    obtain ⟨w1, hw1, HK1, HB1, hz1⟩ := start2 w 26
    have f0 := HB1.out.free 0; have c0 := HB1.out.c0; have f1 := (HB1.out.set0 (.slice none 0 0)).free 1; have c1 := (HB1.out.set0 (.slice none 0 0)).c1
    have hP := Put.made HB1.out (.slice none 0 0) (.slice none 0 0)
    have hcs := (hc.keep (hP.only.kp HK1.out (Nat.le_refl _))).c0
    have HP := Lib.hid hP
    have HW := Lib.hid hw1
    clear hc hn hd nn nd h0 e1 hw1 hP hz1
    go_enter Tryz.func20, Tryz.ntmps20
    go_wp2_with fail
    rw [← HW.out] at hcc ⊢
    go_region
    all_goals (try go_wp2_with fail)
    clear c0 c1 f0 f1
    have c0 := HP.out.two.c0
    have c1 := HP.out.two.c1
    refine bodyPost_ret (by simp [results, Tryz.results20, go_sem, c0, c1]) rfl ⟨⟨_, _, rfl, ?_, ?_, New.nil _, New.nil _⟩, (Only.drew HP.out.only).kp HK1.out (Nat.le_refl _)⟩
    · rw [HE.out]; exact Sl.nil _
    · rw [HE.out]; exact Sl.nil _
end Go.Proofs.YtdoponlhiidimaaGreatDoor
