/- The fractions' calculation while no error has come: keep, addModulo, divideProduct. Conditions: the slices hold the numbers that are named, and all results have room. -/
import Derived.Test.YtfcpfmjoelhlnaaGreatDoorFCheck
namespace Go.Proofs.YtfcpfmjoelhlnaaGreatDoor
open Go.RowKit LimbN

theorem setCell_id {w : World} {g : Nat} {t : TypeId} {v : Value} (h : w.heap[g]? = some (.cells #[v] t (0, 0))) : w.setCell ⟨g, 0, none⟩ v = w := by
  obtain ⟨heap, tape, drawn, os, output⟩ := w
  rw [World.setCell.eq_1]
  have : (heap.modify g fun x => match x with | Obj.cells c elem frozen => Obj.cells (if (none : Option Nat).isSome = true then c else c.setIfInBounds 0 v) elem frozen | o => o) = heap := by
    apply Array.ext_getElem?
    intro i
    rw [Array.getElem?_modify]
    by_cases hi : g = i
    · subst hi
      have h' : heap[g]? = some (.cells #[v] t (0, 0)) := h
      rw [if_pos rfl, h']
      rfl
    · rw [if_neg hi]
  exact congrArg (fun x => World.mk x tape drawn os output) this
/-- A calculation without an error. -/
structure Cnt (w : World) (g : Nat) : Prop where
  blk : w.heap[g]? = some (.cells #[.int .i64 0] 74 (0, 0))
theorem Cnt.lt {w : World} {g : Nat} (h : Cnt w g) : g < w.heap.size := lt_of_block h.blk
theorem Cnt.keep {w w' : World} {g : Nat} (h : Cnt w g) (hk : Kp w w') : Cnt w' g := ⟨(hk.block g h.lt).trans h.blk⟩
theorem Cnt.c0 {w : World} {g : Nat} (h : Cnt w g) : w.cell? ⟨g, 0, none⟩ = some (.int .i64 0) := by rw [cell_of_row w g 0 _ _ (0, 0) h.blk]; rfl
theorem Cnt.free {w : World} {g : Nat} (h : Cnt w g) : w.frozen? ⟨g, 0, none⟩ = false := frozen_of_row w g 0 _ _ h.blk
theorem Cnt.id {w : World} {g : Nat} (h : Cnt w g) : w.setCell ⟨g, 0, none⟩ (.int .i64 0) = w := setCell_id h.blk
set_option maxRecDepth 100000 in
theorem keep_n {w : World} {g : Nat} {v : Value} (h : Cnt w g) :
    Calls Tryz.prog 68 #[.pointer (some ⟨g, 0, none⟩), v, .int .i64 0] w fun e w' => e = .returned v ∧ w = w' := by
  have c0 := h.c0
  have f0 := h.free
  have hi := h.id
  clear h
  go_enter Tryz.func68, Tryz.ntmps68
  go_wp2_with fail
  go_ret
  exact ⟨rfl, rfl⟩
/-- A number and a Bool, in new memory. -/
structure NumB (n : Nat) (b : Bool) (w : World) (e : Ending) (w' : World) : Prop where
  ex : ∃ v, e = .returned (.tuple #[v, .bool b]) ∧ Sl w' v (limbs n) ∧ New w.heap.size v
  kp : Kp w w'
theorem ncmp_n {a b : Nat} {va vb : Value} {w : World} (ha : Sl w va (limbs a)) (hb : Sl w vb (limbs b)) (h1 : (limbs a).length ≤ 128) (h2 : (limbs b).length ≤ 128) : Calls Tryz.prog 97 #[va, vb] w fun e w' => e = .returned (.int .i64 (if a < b then -1 else if b < a then 1 else 0)) ∧ Kp w w' := by
  refine (Compare_any ha hb).mono ?_
  rintro e w' ⟨rfl, hd⟩
  refine ⟨?_, hd.kp⟩
  unfold cmpW
  rw [wf_limbs h1, wf_limbs h2, Bool.and_self, if_pos rfl, cmp_val]
set_option maxRecDepth 100000 in
theorem addModulo_n {a b m : Nat} {va vb vm : Value} {w : World} (ha : Sl w va (limbs a)) (hb : Sl w vb (limbs b)) (hm : Sl w vm (limbs m)) (hlm : (limbs m).length ≤ 128) (ham : a < m) (hbm : b ≤ m) :
    Calls Tryz.prog 102 #[va, vb, vm] w (NumB ((a + b) % m) (decide (m ≤ a + b)) w) := by
  have FIN : Hid (∀ e v w' n c, e = .returned (.tuple #[v, .bool c]) → Sl w' v (limbs n) → New w.heap.size v → Kp w w' → n = (a + b) % m → c = decide (m ≤ a + b) → NumB ((a + b) % m) (decide (m ≤ a + b)) w e w') := by
    intro e v w' n c h1 h2 h3 h4 h5 h6
    subst h5; subst h6
    exact ⟨⟨v, h1, h2, h3⟩, h4⟩
  obtain ⟨Q, hQ⟩ : ∃ Q, Q = NumB ((a + b) % m) (decide (m ≤ a + b)) w := ⟨_, rfl⟩
  rw [← hQ] at FIN ⊢
  clear hQ
  have HA := Lib.hid ha; have HB := Lib.hid hb; have HM := Lib.hid hm; have HL := Lib.hid hlm; have HAM := Lib.hid ham; have HBM := Lib.hid hbm
  clear ha hb hm hlm ham hbm
  go_enter Tryz.func102, Tryz.ntmps102
  go_wp2_with fail
  refine (sub_n HM.out HB.out HL.out HBM.out).mono ?_
  intro e w2 hq
  obtain ⟨⟨vg, rfl, h1, h2⟩, hk⟩ := hq
  have HG := Lib.hid h1; have HGN := Lib.hid h2; have HK2 := Lib.hid hk; clear h1 h2 hk
  go_wp2_with fail
  refine (ncmp_n (HA.out.keep HK2.out) HG.out (Nat.le_trans (limbs_mono (Nat.le_of_lt HAM.out)) HL.out) (Nat.le_trans (limbs_mono (Nat.sub_le _ _)) HL.out)).mono ?_
  rintro e w3 ⟨rfl, hk⟩
  have HK3 := Lib.hid (Kp.trans HK2.out hk); have HG3 := Lib.hid (HG.out.keep hk); clear hk
  by_cases hlt : a < m - b
  · rw [if_pos hlt]
    have HLT := Lib.hid hlt; clear hlt
    go_wp2_with fail
    refine (add_n (HA.out.keep HK3.out) (HB.out.keep HK3.out) (Nat.le_trans (limbs_mono (by have := HLT.out; omega)) HL.out)).mono ?_
    intro e w4 hq
    obtain ⟨⟨v, rfl, h1, h2⟩, hk⟩ := hq
    have h5 : a + b < m := by have := HLT.out; omega
    have FIN2 := Lib.hid (FIN.out _ v w4 (a + b) false rfl h1 (h2.mono HK3.out.size) (Kp.trans HK3.out hk) (Nat.mod_eq_of_lt h5).symm (decide_eq_false (by omega)).symm)
    clear h1 h2 hk h5
    go_wp2
    (try go_ret2)
    exact FIN2.out
  · rw [if_neg hlt]
    obtain ⟨T, hT⟩ : ∃ T : Int, T = if m - b < a then 1 else 0 := ⟨_, rfl⟩
    have ht : decide (T < 0) = false := by
      rw [hT]
      split <;> decide
    rw [← hT]
    have HLT := Lib.hid hlt; clear hlt hT
    go_wp2_with fail
    refine (sub_n (HA.out.keep HK3.out) HG3.out (Nat.le_trans (limbs_mono (Nat.le_of_lt HAM.out)) HL.out) (Nat.le_of_not_lt HLT.out)).mono ?_
    intro e w4 hq
    obtain ⟨⟨v, rfl, h1, h2⟩, hk⟩ := hq
    have h0 := HLT.out; have h0' := HAM.out; have h0'' := HBM.out
    have h5 : a - (m - b) = (a + b) % m := by
      have : a + b - m < m := by omega
      rw [Nat.mod_eq_sub_mod (by omega), Nat.mod_eq_of_lt this]
      omega
    have FIN2 := Lib.hid (FIN.out _ v w4 _ true rfl h1 (h2.mono HK3.out.size) (Kp.trans HK3.out hk) h5 (decide_eq_true (by omega)).symm)
    clear h1 h2 hk h5 h0 h0' h0''
    go_wp2
    (try go_ret2)
    exact FIN2.out
set_option maxRecDepth 100000 in
theorem divideProduct_n {x y d g : Nat} {vx vy vd : Value} {w : World} (hc : Cnt w g) (hx : Sl w vx (limbs x)) (hy : Sl w vy (limbs y)) (hd : Sl w vd (limbs d)) (h1 : (limbs x).length ≤ 128) (h2 : (limbs y).length ≤ 128) (h3 : (limbs d).length ≤ 128) (h0 : d ≠ 0)
    (h4 : (limbs (d * y)).length ≤ 128) (h5 : (limbs (x * y / d)).length ≤ 128) :
    Calls Tryz.prog 129 #[.pointer (some ⟨g, 0, none⟩), vx, vy, vd] w (Quot (x * y) d w) := by
  have hdp := FracN.div_product x y d (Nat.pos_of_ne_zero h0)
  have hlt := Nat.mod_lt x (Nat.pos_of_ne_zero h0)
  have FIN : Hid (∀ e vq vr w', e = .returned (.tuple #[vq, vr]) → Sl w' vq (limbs (x / d * y + x % d * y / d)) → Sl w' vr (limbs (x % d * y % d)) → New w.heap.size vq → New w.heap.size vr → Kp w w' → Quot (x * y) d w e w') := by
    intro e vq vr w' h1 h2 h3 h4 h5 h6
    rw [hdp.1] at h2
    rw [hdp.2] at h3
    exact ⟨⟨vq, vr, h1, h2, h3, h4, h5⟩, h6⟩
  have HSUM : Hid ((limbs (x / d * y + x % d * y / d)).length ≤ 128) := by rw [hdp.1]; exact h5
  have HQ : Hid ((limbs (x / d * y)).length ≤ 128) := Nat.le_trans (limbs_mono (Nat.le_add_right _ (x % d * y / d))) HSUM.out
  have HR : Hid ((limbs (x % d * y)).length ≤ 128) := Nat.le_trans (limbs_mono (FracN.div_product_lt x y d (Nat.pos_of_ne_zero h0))) h4
  have HXD : Hid ((limbs (x / d)).length ≤ 128) := Nat.le_trans (limbs_mono (Nat.div_le_self _ _)) h1
  have HXM : Hid ((limbs (x % d)).length ≤ 128) := Nat.le_trans (limbs_mono (Nat.mod_le _ _)) h1
  clear hdp hlt h4 h5
  obtain ⟨Q, hQ⟩ : ∃ Q, Q = Quot (x * y) d w := ⟨_, rfl⟩
  rw [← hQ] at FIN ⊢
  clear hQ
  have HC := Lib.hid hc; have HX := Lib.hid hx; have HY := Lib.hid hy; have HD := Lib.hid hd; have H1 := Lib.hid h1; have H2 := Lib.hid h2; have H3 := Lib.hid h3; have H0 := Lib.hid h0
  clear hc hx hy hd h1 h2 h3 h0
  go_enter Tryz.func129, Tryz.ntmps129
  go_wp2_with fail
  refine (fdivide_n HX.out HD.out H1.out H3.out H0.out).mono ?_
  intro e w2 hq
  obtain ⟨⟨vw, vr, rfl, h1, h2, -, -⟩, hk⟩ := hq
  have HW := Lib.hid h1; have HRR := Lib.hid h2; have HK2 := Lib.hid hk; clear h1 h2 hk
  go_wp2_with fail
  refine (mul_n HRR.out (HY.out.keep HK2.out) HXM.out H2.out HR.out).mono ?_
  intro e w3 hq
  obtain ⟨⟨vp, rfl, h1, -⟩, hk⟩ := hq
  have HP := Lib.hid h1; have HK3 := Lib.hid (Kp.trans HK2.out hk); have HW3 := Lib.hid (HW.out.keep hk); clear h1 hk
  go_wp2_with fail
  refine (keep_n (HC.out.keep HK3.out)).mono ?_
  rintro e w' ⟨rfl, rfl⟩
  go_wp2_with fail
  refine (fdivide_n HP.out (HD.out.keep HK3.out) HR.out H3.out H0.out).mono ?_
  intro e w4 hq
  obtain ⟨⟨vm, vs, rfl, h1, h2, -, h3⟩, hk⟩ := hq
  have HM := Lib.hid h1; have HS := Lib.hid h2; have HSN := Lib.hid (h3.mono HK3.out.size); have HK4 := Lib.hid (Kp.trans HK3.out hk); have HW4 := Lib.hid (HW3.out.keep hk); clear h1 h2 h3 hk
  go_wp2_with fail
  refine (mul_n HW4.out (HY.out.keep HK4.out) HXD.out H2.out HQ.out).mono ?_
  intro e w5 hq
  obtain ⟨⟨vu, rfl, h1, -⟩, hk⟩ := hq
  have HU := Lib.hid h1; have HK5 := Lib.hid (Kp.trans HK4.out hk); have HM5 := Lib.hid (HM.out.keep hk); have HS5 := Lib.hid (HS.out.keep hk); clear h1 hk
  go_wp2_with fail
  refine (keep_n (HC.out.keep HK5.out)).mono ?_
  rintro e w' ⟨rfl, rfl⟩
  go_wp2_with fail
  refine (add_n HU.out HM5.out HSUM.out).mono ?_
  intro e w6 hq
  obtain ⟨⟨vt, rfl, h1, h2⟩, hk⟩ := hq
  have HT := Lib.hid h1; have HTN := Lib.hid (h2.mono HK5.out.size); have HK6 := Lib.hid (Kp.trans HK5.out hk); have HS6 := Lib.hid (HS5.out.keep hk); clear h1 h2 hk
  go_wp2_with fail
  refine (keep_n (HC.out.keep HK6.out)).mono ?_
  rintro e w' ⟨rfl, rfl⟩
  have FIN2 := Lib.hid (FIN.out _ vt vs w6 rfl HT.out HS6.out HTN.out HSN.out HK6.out)
  go_wp2
  (try go_ret2)
  exact FIN2.out
end Go.Proofs.YtfcpfmjoelhlnaaGreatDoor
