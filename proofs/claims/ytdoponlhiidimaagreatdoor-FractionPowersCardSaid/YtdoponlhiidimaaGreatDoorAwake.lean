/- The laws' own check that the fractions answer at all: 1/6 + 1/3 is 1/2. Condition: the library's table of powers of ten holds what its text lays. -/
import Derived.Test.YtdoponlhiidimaaGreatDoorFFmt
namespace Go.Proofs.YtdoponlhiidimaaGreatDoor
open Go.RowKit LimbN

theorem mk_n {a b : Nat} (h1 : (limbs a).length ≤ 128) (h2 : (limbs b).length ≤ 128) (h0 : b ≠ 0) : divE (limbs a) (limbs b) = 0 ∧ mkP (limbs a) (limbs b) = FracN.low a b := by
  have h : divE (limbs a) (limbs b) = 0 := divE_ok (wf_limbs h1) (wf_limbs h2) (by rw [val_limbs]; exact h0)
  refine ⟨h, ?_⟩
  unfold mkP
  rw [h, if_pos rfl, val_limbs, val_limbs]
theorem Of_small {a b : Nat} {w : World} (ha : a < 4294967296) (hb : b < 4294967296) (h0 : b ≠ 0) : Calls Tryz.prog 35 #[.int .i64 a, .int .i64 b] w (MkR 0 (FracN.low a b) w) := by
  have h := mk_n (a := a) (b := b) (fit (k := 1) (by omega) (by decide)) (fit (k := 1) (by omega) (by decide)) h0
  have := Of_ok (a := a) (b := b) (w := w) (by omega) (by omega)
  rwa [h.1, h.2] at this
theorem pn_half : PN 1 6 1 3 3 1 2 3 2 where
  b0 := by decide
  d0 := by decide
  eg := by decide
  efa := by decide
  efb := by decide
  ek := by decide
  eden := by decide
  la := by decide
  lb := by decide
  lc := by decide
  ld := by decide
  lnum := by decide
  lden := by decide
theorem half_text : fracS 1 2 = ⟨#[49, 47, 50]⟩ := by
  unfold fracS decS
  rw [if_neg (by decide), Lib.decDigits_one (by omega), Lib.decDigits_one (by omega)]
  rfl
set_option maxRecDepth 100000 in
set_option maxHeartbeats 1600000 in
theorem fawake_any {w : World} (htab : Tab w) : Calls Tryz.prog 13 #[] w fun e w' => e = .returned (.bool true) ∧ Kp w w' := by
  have HTAB := Lib.hid htab; clear htab
  go_enter Tryz.func13, Tryz.ntmps13
  go_wp2_with fail
  refine (Of_small (a := 1) (b := 6) (by decide) (by decide) (by decide)).mono ?_
  intro e w1 hq
  rw [show FracN.low 1 6 = (1, 6) by decide] at hq
  obtain ⟨⟨v1, v2, rfl, h1, h2, -, -⟩, hk⟩ := hq
  obtain ⟨ao, al, ac, rfl⟩ := h1.open3
  obtain ⟨bo, bl, bc, rfl⟩ := h2.open3
  have HN1 := Lib.hid h1; have HD1 := Lib.hid h2; have HK1 := Lib.hid hk; clear h1 h2 hk
  go_wp2_with fail
  obtain ⟨w2, hw2, HK2, HB2, hz2⟩ := box2 w1 26 (.slice ao al ac) (.slice bo bl bc)
  rw [← hw2]
  clear hw2
  refine (Of_small (a := 1) (b := 3) (by decide) (by decide) (by decide)).mono ?_
  intro e w3 hq
  rw [show FracN.low 1 3 = (1, 3) by decide] at hq
  obtain ⟨⟨v3, v4, rfl, h1, h2, -, -⟩, hk⟩ := hq
  obtain ⟨co, cl, cc, rfl⟩ := h1.open3
  obtain ⟨do', dl, dc, rfl⟩ := h2.open3
  obtain ⟨w4, hw4, HK4, HB4, hz4⟩ := box2 w3 26 (.slice co cl cc) (.slice do' dl dc)
  have hk14 := Kp.trans HK2.out (Kp.trans hk HK4.out)
  have HN1' := Lib.hid (HN1.out.keep hk14); have HD1' := Lib.hid (HD1.out.keep hk14); have HN3 := Lib.hid (h1.keep HK4.out); have HD3 := Lib.hid (h2.keep HK4.out)
  have HB2' := Lib.hid (HB2.out.keep (Kp.trans hk HK4.out))
  have HK04 := Lib.hid (Kp.trans HK1.out hk14)
  have c10 := HB2'.out.c0; have c11 := HB2'.out.c1; have c20 := HB4.out.c0; have c21 := HB4.out.c1
  rw [hw4] at c10 c11 c20 c21
  have HW4 := Lib.hid hw4
  clear h1 h2 hk hk14 hw4
  go_wp2_with fail
  rw [← HW4.out]
  refine (Add_n pn_half (by decide) (by decide) HN1'.out HD1'.out HN3.out HD3.out).mono ?_
  intro e w5 hq
  rw [show (1 * 1 + 1 * 2) / 3 = 1 by decide] at hq
  obtain ⟨⟨v5, v6, rfl, h1, h2, -, -⟩, hk⟩ := hq
  obtain ⟨eo, el, ec, rfl⟩ := h1.open3
  obtain ⟨fo, fl, fc, rfl⟩ := h2.open3
  obtain ⟨w6, hw6, HK6, HB6, hz6⟩ := box2 w5 26 (.slice eo el ec) (.slice fo fl fc)
  have HN5 := Lib.hid (h1.keep HK6.out); have HD5 := Lib.hid (h2.keep HK6.out); have HK06 := Lib.hid (Kp.trans HK04.out (Kp.trans hk HK6.out))
  clear c10 c11 c20 c21
  have c30 := HB6.out.c0; have c31 := HB6.out.c1
  rw [hw6] at c30 c31
  have HW6 := Lib.hid hw6
  clear h1 h2 hk hw6
  go_wp2_with fail
  rw [← HW6.out]
  refine (FFormat_n (a := 1) (b := 2) (by decide) (by decide) (by decide) (by decide) HN5.out HD5.out (HTAB.out.keep HK06.out)).mono ?_
  rw [half_text]
  rintro e w7 ⟨rfl, hk⟩
  have HK7 := Lib.hid (Kp.trans HK06.out hk)
  clear hk c30 c31
  go_wp2_with fail
  go_ret
  exact ⟨rfl, HK7.out⟩
end Go.Proofs.YtdoponlhiidimaaGreatDoor
