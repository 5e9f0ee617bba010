/- The operations of fractions that are not well-formed, on both sides. Condition: the slices hold the digits that are named. -/
import Derived.Test.YtdoponlhiidimaaGreatDoorTimes
import Derived.Test.YtdoponlhiidimaaGreatDoorMSb
import Derived.Deep.RegionHeld3
namespace Go.Proofs.YtdoponlhiidimaaGreatDoor
open Go.RowKit LimbN
set_option linter.unusedVariables false
set_option linter.unusedSimpArgs false

set_option maxRecDepth 100000 in
theorem Add_bad {xs ys us vs : List Nat} {va vb vc vd : Value} {w : World} (ha : Sl w va xs) (hb : Sl w vb ys) (hcc : Sl w vc us) (hd : Sl w vd vs) (h : frOk xs ys = false ∨ (frOk xs ys = true ∧ frOk us vs = false)) :
    Calls Tryz.prog 36 #[.agg #[va, vb], .agg #[vc, vd]] w (MkR 1 (0, 0) w) := by
  obtain ⟨ao, al, ac, rfl⟩ := ha.open3
  obtain ⟨bo, bl, bc, rfl⟩ := hb.open3
  obtain ⟨co, cl, cc, rfl⟩ := hcc.open3
  obtain ⟨do', dl, dc, rfl⟩ := hd.open3
  obtain ⟨w1, hw1, HK1, HB1, hz1⟩ := box2 w 26 (.slice ao al ac) (.slice bo bl bc)
  obtain ⟨w2, hw2, HK2, HB2, hz2⟩ := box2 w1 26 (.slice co cl cc) (.slice do' dl dc)
  obtain ⟨w3, hw3, HK3, HB3, hz3⟩ := start2 w2 26
  have hs1 : w1.heap.size = w.heap.size + 1 := by rw [hw1]; simp
  have hs2 : w2.heap.size = w.heap.size + 1 + 1 := by rw [hw2, ← hs1]; simp
  rw [hs2] at HB3
  rw [hs1] at HB2
  have hk13 := Kp.trans HK2.out HK3.out
  have hk03 := Kp.trans HK1.out hk13
  have HK03 := Lib.hid hk03
  have HA := Lib.hid (ha.keep hk03); have HB := Lib.hid (hb.keep hk03); have HCC := Lib.hid (hcc.keep hk03); have HD := Lib.hid (hd.keep hk03)
  have HT1 := Lib.hid (HB1.out.keep hk13); have HT2 := Lib.hid (HB2.out.keep HK3.out)
  have c10 := HT1.out.c0; have c11 := HT1.out.c1
  have hw : w3 = ((w.alloc (Obj.cells #[.slice ao al ac, .slice bo bl bc] 26)).alloc (Obj.cells #[.slice co cl cc, .slice do' dl dc] 26)).alloc (Obj.cells #[.slice none 0 0, .slice none 0 0] 26) := by rw [hw3, hw2, hw1]
  rw [hw] at c10 c11
  have HW := Lib.hid hw
  have HH := Lib.hid h
  clear hw1 hw2 hw3 hs2 hz3 HK3 hs1 hk13 hk03 ha hb hcc hd hz1 hz2 hw HK1 HK2 HB1 h
  go_enter Tryz.func36, Tryz.ntmps36
  go_wp2_with fail
  rw [← HW.out]
  refine (Check_any HA.out HB.out).mono ?_
  rintro e w4 ⟨rfl, hk⟩
  have HK4 := Lib.hid hk
  clear hk c10 c11
  rcases HH.out with h1 | ⟨h1, h2⟩
  · rw [h1]
    clear h1
    have hT := HB3.out.keep HK4.out
    have hP := Put.made hT (.slice none 0 0) (.slice none 0 0)
    obtain ⟨w8, hw8⟩ : ∃ w8, w8 = (w4.setCell ⟨w.heap.size + 1 + 1, 0, none⟩ (.slice none 0 0)).setCell ⟨w.heap.size + 1 + 1, 1, none⟩ (.slice none 0 0) := ⟨_, rfl⟩
    rw [← hw8] at hP
    have HW8 := Lib.hid hw8
    have HPP := Lib.hid hP
    have f0 := hT.free 0
    have c0 := hT.c0
    have f1 := (hT.set0 (.slice none 0 0)).free 1
    have c1 := (hT.set0 (.slice none 0 0)).c1
    clear hT hw8 hP
    go_wp2_with fail
    have hP' := HPP.out
    rw [← HW8.out]
    clear c0 c1 f0 f1
    have c0 := hP'.two.c0
    have c1 := hP'.two.c1
    have FIN2 : MkR 1 (0, 0) w (.returned (.tuple #[.agg #[.slice none 0 0, .slice none 0 0], .int .i64 1])) w8 :=
      ⟨⟨_, _, rfl, Sl.nil _, Sl.nil _, New.nil _, New.nil _⟩, hP'.only.kp (Kp.trans HK03.out HK4.out) (Nat.le_trans (Nat.le_succ _) (Nat.le_succ _))⟩
    exact bodyPost_ret (by simp [results, Tryz.results36, go_sem, c0, c1]) rfl FIN2
  · rw [h1]
    have H2 := Lib.hid h2
    have c20 := (HT2.out.keep HK4.out).c0; have c21 := (HT2.out.keep HK4.out).c1
    clear h1 h2
    go_wp2_with fail
    refine (Check_any (HCC.out.keep HK4.out) (HD.out.keep HK4.out)).mono ?_
    rintro e w5 ⟨rfl, hk⟩
    rw [H2.out]
    have HK5 := Lib.hid (Kp.trans HK4.out hk)
    clear hk c20 c21
    have hT := HB3.out.keep HK5.out
    have hP := Put.made hT (.slice none 0 0) (.slice none 0 0)
    obtain ⟨w8, hw8⟩ : ∃ w8, w8 = (w5.setCell ⟨w.heap.size + 1 + 1, 0, none⟩ (.slice none 0 0)).setCell ⟨w.heap.size + 1 + 1, 1, none⟩ (.slice none 0 0) := ⟨_, rfl⟩
    rw [← hw8] at hP
    have HW8 := Lib.hid hw8
    have HPP := Lib.hid hP
    have f0 := hT.free 0
    have c0 := hT.c0
    have f1 := (hT.set0 (.slice none 0 0)).free 1
    have c1 := (hT.set0 (.slice none 0 0)).c1
    clear hT hw8 hP
    go_wp2_with fail
    have hP' := HPP.out
    rw [← HW8.out]
    clear c0 c1 f0 f1
    have c0 := hP'.two.c0
    have c1 := hP'.two.c1
    have FIN2 : MkR 1 (0, 0) w (.returned (.tuple #[.agg #[.slice none 0 0, .slice none 0 0], .int .i64 1])) w8 :=
      ⟨⟨_, _, rfl, Sl.nil _, Sl.nil _, New.nil _, New.nil _⟩, hP'.only.kp (Kp.trans HK03.out HK5.out) (Nat.le_trans (Nat.le_succ _) (Nat.le_succ _))⟩
    exact bodyPost_ret (by simp [results, Tryz.results36, go_sem, c0, c1]) rfl FIN2

set_option maxRecDepth 100000 in
theorem rAdd_bad {xs ys us vs : List Nat} {va vb vc vd : Value} {w : World} (ha : Sl w va xs) (hb : Sl w vb ys) (hcc : Sl w vc us) (hd : Sl w vd vs) (h : frOk xs ys = false ∨ (frOk xs ys = true ∧ frOk us vs = false)) :
    Calls Tryz.prog 34 #[.agg #[va, vb], .agg #[vc, vd]] w (MkR 1 (0, 0) w) := by
  obtain ⟨ao, al, ac, rfl⟩ := ha.open3
  obtain ⟨bo, bl, bc, rfl⟩ := hb.open3
  obtain ⟨co, cl, cc, rfl⟩ := hcc.open3
  obtain ⟨do', dl, dc, rfl⟩ := hd.open3
  obtain ⟨w1, hw1, HK1, HB1, hz1⟩ := box2 w 26 (.slice ao al ac) (.slice bo bl bc)
  obtain ⟨w2, hw2, HK2, HB2, hz2⟩ := box2 w1 26 (.slice co cl cc) (.slice do' dl dc)
  obtain ⟨w3, hw3, HK3, HB3, hz3⟩ := start2 w2 26
  have hs1 : w1.heap.size = w.heap.size + 1 := by rw [hw1]; simp
  have hs2 : w2.heap.size = w.heap.size + 1 + 1 := by rw [hw2, ← hs1]; simp
  rw [hs2] at HB3
  rw [hs1] at HB2
  have hk13 := Kp.trans HK2.out HK3.out
  have hk03 := Kp.trans HK1.out hk13
  have HK03 := Lib.hid hk03
  have HA := Lib.hid (ha.keep hk03); have HB := Lib.hid (hb.keep hk03); have HCC := Lib.hid (hcc.keep hk03); have HD := Lib.hid (hd.keep hk03)
  have HT1 := Lib.hid (HB1.out.keep hk13); have HT2 := Lib.hid (HB2.out.keep HK3.out)
  have c10 := HT1.out.c0; have c11 := HT1.out.c1
  have hw : w3 = ((w.alloc (Obj.cells #[.slice ao al ac, .slice bo bl bc] 26)).alloc (Obj.cells #[.slice co cl cc, .slice do' dl dc] 26)).alloc (Obj.cells #[.slice none 0 0, .slice none 0 0] 26) := by rw [hw3, hw2, hw1]
  rw [hw] at c10 c11
  have HW := Lib.hid hw
  have HH := Lib.hid h
  clear hw1 hw2 hw3 hs2 hz3 HK3 hs1 hk13 hk03 ha hb hcc hd hz1 hz2 hw HK1 HK2 HB1 h
  go_enter Tryz.func34, Tryz.ntmps34
  go_wp2_with fail
  rw [← HW.out]
  refine (rCheck_any HA.out HB.out).mono ?_
  rintro e w4 ⟨rfl, hk⟩
  have HK4 := Lib.hid hk
  clear hk c10 c11
  rcases HH.out with h1 | ⟨h1, h2⟩
  · rw [h1]
    clear h1
    have hT := HB3.out.keep HK4.out
    have hP := Put.made hT (.slice none 0 0) (.slice none 0 0)
    obtain ⟨w8, hw8⟩ : ∃ w8, w8 = (w4.setCell ⟨w.heap.size + 1 + 1, 0, none⟩ (.slice none 0 0)).setCell ⟨w.heap.size + 1 + 1, 1, none⟩ (.slice none 0 0) := ⟨_, rfl⟩
    rw [← hw8] at hP
    have HW8 := Lib.hid hw8
    have HPP := Lib.hid hP
    have f0 := hT.free 0
    have c0 := hT.c0
    have f1 := (hT.set0 (.slice none 0 0)).free 1
    have c1 := (hT.set0 (.slice none 0 0)).c1
    clear hT hw8 hP
    go_wp2_with fail
    have hP' := HPP.out
    rw [← HW8.out]
    clear c0 c1 f0 f1
    have c0 := hP'.two.c0
    have c1 := hP'.two.c1
    have FIN2 : MkR 1 (0, 0) w (.returned (.tuple #[.agg #[.slice none 0 0, .slice none 0 0], .int .i64 1])) w8 :=
      ⟨⟨_, _, rfl, Sl.nil _, Sl.nil _, New.nil _, New.nil _⟩, hP'.only.kp (Kp.trans HK03.out HK4.out) (Nat.le_trans (Nat.le_succ _) (Nat.le_succ _))⟩
    exact bodyPost_ret (by simp [results, Tryz.results34, go_sem, c0, c1]) rfl FIN2
  · rw [h1]
    have H2 := Lib.hid h2
    have c20 := (HT2.out.keep HK4.out).c0; have c21 := (HT2.out.keep HK4.out).c1
    clear h1 h2
    go_wp2_with fail
    refine (rCheck_any (HCC.out.keep HK4.out) (HD.out.keep HK4.out)).mono ?_
    rintro e w5 ⟨rfl, hk⟩
    rw [H2.out]
    have HK5 := Lib.hid (Kp.trans HK4.out hk)
    clear hk c20 c21
    have hT := HB3.out.keep HK5.out
    have hP := Put.made hT (.slice none 0 0) (.slice none 0 0)
    obtain ⟨w8, hw8⟩ : ∃ w8, w8 = (w5.setCell ⟨w.heap.size + 1 + 1, 0, none⟩ (.slice none 0 0)).setCell ⟨w.heap.size + 1 + 1, 1, none⟩ (.slice none 0 0) := ⟨_, rfl⟩
    rw [← hw8] at hP
    have HW8 := Lib.hid hw8
    have HPP := Lib.hid hP
    have f0 := hT.free 0
    have c0 := hT.c0
    have f1 := (hT.set0 (.slice none 0 0)).free 1
    have c1 := (hT.set0 (.slice none 0 0)).c1
    clear hT hw8 hP
    go_wp2_with fail
    have hP' := HPP.out
    rw [← HW8.out]
    clear c0 c1 f0 f1
    have c0 := hP'.two.c0
    have c1 := hP'.two.c1
    have FIN2 : MkR 1 (0, 0) w (.returned (.tuple #[.agg #[.slice none 0 0, .slice none 0 0], .int .i64 1])) w8 :=
      ⟨⟨_, _, rfl, Sl.nil _, Sl.nil _, New.nil _, New.nil _⟩, hP'.only.kp (Kp.trans HK03.out HK5.out) (Nat.le_trans (Nat.le_succ _) (Nat.le_succ _))⟩
    exact bodyPost_ret (by simp [results, Tryz.results34, go_sem, c0, c1]) rfl FIN2

end Go.Proofs.YtdoponlhiidimaaGreatDoor

/- The reference's operations of well-formed fractions. Conditions: the slices hold the numbers that are named, in lowest terms, and the products crosswise have at most 128 limbs. -/
namespace Go.Proofs.YtdoponlhiidimaaGreatDoor
open Go.RowKit LimbN
set_option linter.unusedVariables false
set_option linter.unusedSimpArgs false

theorem rtimes_n {a b : Nat} {va vb : Value} {w : World} (ha : Sl w va (limbs a)) (hb : Sl w vb (limbs b)) (la : (limbs a).length ≤ 1000) (lb : (limbs b).length ≤ 1000) :
    Calls Tryz.prog 47 #[va, vb] w fun e w' => ∃ v', e = .returned v' ∧ Sl w' v' (limbs (a * b)) ∧ New w.heap.size v' ∧ Kp w w' := by
  have := Times_any ha hb (by omega) (by omega)
  rwa [val_limbs, val_limbs] at this
theorem rplus_n {a b : Nat} {va vb : Value} {w : World} (ha : Sl w va (limbs a)) (hb : Sl w vb (limbs b)) (la : (limbs a).length ≤ 1000) (lb : (limbs b).length ≤ 1000) :
    Calls Tryz.prog 74 #[va, vb] w fun e w' => ∃ v', e = .returned v' ∧ Sl w' v' (limbs (a + b)) ∧ New w.heap.size v' ∧ Kp w w' := by
  have := Plus_any ha hb (by omega) (by omega)
  rwa [val_limbs, val_limbs] at this
theorem rord_n {a b : Nat} {va vb : Value} {w : World} (ha : Sl w va (limbs a)) (hb : Sl w vb (limbs b)) :
    Calls Tryz.prog 45 #[va, vb] w fun e w' => e = .returned (.int .i64 (FracN.ord a b)) ∧ Kp w w' := by
  refine (order_any ha hb).mono ?_
  rintro e w' ⟨rfl, hd⟩
  exact ⟨by rw [cmp_val]; rfl, hd.kp⟩
set_option maxRecDepth 100000 in
theorem limited_n {n d : Nat} {vn vd : Value} {w : World} (hn : Sl w vn (limbs n)) (hd : Sl w vd (limbs d)) (l1 : (limbs n).length ≤ 128) (l2 : (limbs d).length ≤ 128) :
    Calls Tryz.prog 53 #[.agg #[vn, vd]] w fun e w' => e = .returned (.tuple #[.agg #[vn, vd], .int .i64 0]) ∧ Kp w w' := by
  obtain ⟨no, nc, rfl, -⟩ := hn.ex
  obtain ⟨do', dc, rfl, -⟩ := hd.ex
  obtain ⟨nl, e1⟩ : ∃ nl, nl = (limbs n).length := ⟨_, rfl⟩
  obtain ⟨dl, e2⟩ : ∃ dl, dl = (limbs d).length := ⟨_, rfl⟩
  rw [← e1] at hn l1 ⊢
  rw [← e2] at hd l2 ⊢
  have q1 : decide (128 < (nl : Int)) = false := decide_eq_false (by omega)
  have q2 : decide (128 < (dl : Int)) = false := decide_eq_false (by omega)
  obtain ⟨w1, hw1, HK1, HB1, hz1⟩ := box2 w 26 (.slice no nl nc) (.slice do' dl dc)
  obtain ⟨w3, hw3, HK3, HB3, hz3⟩ := start2 w1 26
  have hs1 : w1.heap.size = w.heap.size + 1 := by rw [hw1]; simp
  rw [hs1] at HB3
  have hw : w3 = (w.alloc (Obj.cells #[.slice no nl nc, .slice do' dl dc] 26)).alloc (Obj.cells #[.slice none 0 0, .slice none 0 0] 26) := by rw [hw3, hw1]
  have hT1 := HB1.out.keep HK3.out
  have c10 := hT1.c0; have c11 := hT1.c1
  have hT := HB3.out
  have hP := Put.made hT (.slice no nl nc) (.slice do' dl dc)
  have f0 := hT.free 0; have c0 := hT.c0; have f1 := (hT.set0 (.slice no nl nc)).free 1; have c1 := (hT.set0 (.slice no nl nc)).c1
  obtain ⟨wz, hwz⟩ : ∃ wz, wz = (w3.setCell ⟨w.heap.size + 1, 0, none⟩ (.slice no nl nc)).setCell ⟨w.heap.size + 1, 1, none⟩ (.slice do' dl dc) := ⟨_, rfl⟩
  rw [← hwz] at hP
  have HK : Hid (Kp w wz) := hP.only.kp (Kp.trans HK1.out HK3.out) (Nat.le_succ _)
  have HP := Lib.hid hP; have HWZ := Lib.hid hwz; have HW := Lib.hid hw
  rw [hw] at c10 c11
  clear hw1 hw3 hs1 hz1 hz3 hT1 hT hP hwz hw e1 e2 hn hd HB1 HB3 HK1 HK3
  go_enter Tryz.func53, Tryz.ntmps53
  go_upto_region 3 with fail
  rw [← HW.out] at c10 c11 ⊢
  go_wp2_with fail
  rw [← HWZ.out]
  clear c0 c1 f0 f1
  have c0 := HP.out.two.c0
  have c1 := HP.out.two.c1
  exact bodyPost_ret (by simp [results, Tryz.results53, go_sem, c0, c1]) rfl ⟨rfl, HK.out⟩
theorem mul_len {a b : Nat} (ha : (limbs a).length ≤ 8) (hb : (limbs b).length ≤ 8) : (limbs (a * b)).length ≤ 16 := by
  rw [limbs_len_le] at *
  rw [show (4294967296 : Nat) ^ 16 = 4294967296 ^ 8 * 4294967296 ^ 8 from rfl]
  exact Nat.mul_lt_mul'' ha hb
theorem add_len {a b : Nat} (ha : (limbs a).length ≤ 16) (hb : (limbs b).length ≤ 16) : (limbs (a + b)).length ≤ 17 := by
  rw [limbs_len_le] at *
  have h : (4294967296 : Nat) ^ 17 = 4294967296 ^ 16 * 4294967296 := rfl
  obtain ⟨B, hB⟩ : ∃ B, B = (4294967296 : Nat) ^ 16 := ⟨_, rfl⟩
  rw [h, ← hB]
  rw [← hB] at ha hb
  omega
theorem len8 {a : Nat} (h : (limbs a).length ≤ 8) : (limbs a).length ≤ 128 := Nat.le_trans h (by decide)
set_option maxRecDepth 100000 in
set_option maxHeartbeats 2000000 in
theorem rplusF_n {a b c d : Nat} {va vb vc vd : Value} {w : World} (hb0 : b ≠ 0) (hd0 : d ≠ 0) (la : (limbs a).length ≤ 8) (lb : (limbs b).length ≤ 8) (lc : (limbs c).length ≤ 8) (ld : (limbs d).length ≤ 8) (ha : Sl w va (limbs a)) (hb : Sl w vb (limbs b)) (hcc : Sl w vc (limbs c)) (hd : Sl w vd (limbs d)) :
    Calls Tryz.prog 54 #[.agg #[va, vb], .agg #[vc, vd]] w (FrR (FracN.low (a * d + c * b) (b * d)) w) := by
  have L16 : Hid ((limbs (a * d)).length ≤ 1000) := Nat.le_trans (mul_len la ld) (by decide)
  have L16b : Hid ((limbs (c * b)).length ≤ 1000) := Nat.le_trans (mul_len lc lb) (by decide)
  have HL1 : Hid ((limbs (FracN.low (a * d + c * b) (b * d)).1).length ≤ 128) := Nat.le_trans (limbs_mono (FracN.low_le_self _ _).1) (Nat.le_trans (add_len (mul_len la ld) (mul_len lc lb)) (by decide))
  have HL2 : Hid ((limbs (FracN.low (a * d + c * b) (b * d)).2).length ≤ 128) := Nat.le_trans (limbs_mono (FracN.low_le_self _ _).2) (Nat.le_trans (mul_len lb ld) (by decide))
  have LN : Hid ((limbs (a * d + c * b)).length ≤ 1000) := Nat.le_trans (add_len (mul_len la ld) (mul_len lc lb)) (by decide)
  have LDD : Hid ((limbs (b * d)).length ≤ 1000) := Nat.le_trans (mul_len lb ld) (by decide)
  have HNE : Hid (b * d ≠ 0) := Nat.ne_of_gt (Nat.mul_pos (Nat.pos_of_ne_zero hb0) (Nat.pos_of_ne_zero hd0))
  obtain ⟨P, hP⟩ : ∃ P, P = FracN.low (a * d + c * b) (b * d) := ⟨_, rfl⟩
  rw [← hP]
  have HPE := Lib.hid hP
  clear hP
  obtain ⟨ao, al, ac, rfl⟩ := ha.open3
  obtain ⟨bo, bl, bc, rfl⟩ := hb.open3
  obtain ⟨co, cl, cc, rfl⟩ := hcc.open3
  obtain ⟨do', dl, dc, rfl⟩ := hd.open3
  obtain ⟨w1, hw1, HK1, HB1, hz1⟩ := box2 w 26 (.slice ao al ac) (.slice bo bl bc)
  obtain ⟨w2, hw2, HK2, HB2, hz2⟩ := box2 w1 26 (.slice co cl cc) (.slice do' dl dc)
  have hs1 : w1.heap.size = w.heap.size + 1 := by rw [hw1]; simp
  have hs2 : w2.heap.size = w.heap.size + 1 + 1 := by rw [hw2, ← hs1]; simp
  rw [hs1] at HB2
  have HSZ := Lib.hid hs2
  have hk02 := Kp.trans HK1.out HK2.out
  have HK02 := Lib.hid hk02
  have HA := Lib.hid (ha.keep hk02); have HB := Lib.hid (hb.keep hk02); have HCC := Lib.hid (hcc.keep hk02); have HD := Lib.hid (hd.keep hk02)
  have HT1 := Lib.hid (HB1.out.keep HK2.out); have HT2 := Lib.hid HB2.out
  obtain ⟨w3, hw3, HK3, HB3, hz3⟩ := start2 w2 26
  rw [hs2] at HB3
  have hw : w3 = ((w.alloc (Obj.cells #[.slice ao al ac, .slice bo bl bc] 26)).alloc (Obj.cells #[.slice co cl cc, .slice do' dl dc] 26)).alloc (Obj.cells #[.slice none 0 0, .slice none 0 0] 26) := by rw [hw3, hw2, hw1]
  have HW := Lib.hid hw
  have HB0 := Lib.hid hb0; have HD0 := Lib.hid hd0; have LA := Lib.hid la; have LB := Lib.hid lb; have LC := Lib.hid lc; have LD := Lib.hid ld
  have HZ : Hid (w.heap.size + 1 + 1 < w3.heap.size) := by show _ < _; omega
  have HKR := Lib.hid (Kp.refl w3)
  have c10 := (HT1.out.keep HK3.out).c0; have c11 := (HT1.out.keep HK3.out).c1; have c20 := (HT2.out.keep HK3.out).c0; have c21 := (HT2.out.keep HK3.out).c1
  clear hw1 hw2 hw3 hs1 hs2 hk02 ha hb hcc hd hz1 hz2 hz3 hw HK1 HK2 HB1 HB2 hb0 hd0 la lb lc ld
  go_enter Tryz.func54, Tryz.ntmps54
  go_wp2_with fail
  rw [← HW.out]
  go_region_held3 (fun w' => w'.cell? ⟨w.heap.size, 0, none⟩ = some (.slice ao al ac) ∧ w'.cell? ⟨w.heap.size, 1, none⟩ = some (.slice bo bl bc) ∧ w'.cell? ⟨w.heap.size + 1, 0, none⟩ = some (.slice co cl cc) ∧ w'.cell? ⟨w.heap.size + 1, 1, none⟩ = some (.slice do' dl dc) ∧ Kp w2 w')
    (first | exact ⟨(HT1.out.keep (by first | assumption | exact Kp.trans (by assumption) (Kp.drewN _ 1) | exact Only.kp (by assumption) (Only.set (Only.set (Only.refl _ _) 0 _) 1 _) (Nat.le_of_eq HSZ.out))).c0, (HT1.out.keep (by first | assumption | exact Kp.trans (by assumption) (Kp.drewN _ 1) | exact Only.kp (by assumption) (Only.set (Only.set (Only.refl _ _) 0 _) 1 _) (Nat.le_of_eq HSZ.out))).c1, (HT2.out.keep (by first | assumption | exact Kp.trans (by assumption) (Kp.drewN _ 1) | exact Only.kp (by assumption) (Only.set (Only.set (Only.refl _ _) 0 _) 1 _) (Nat.le_of_eq HSZ.out))).c0, (HT2.out.keep (by first | assumption | exact Kp.trans (by assumption) (Kp.drewN _ 1) | exact Only.kp (by assumption) (Only.set (Only.set (Only.refl _ _) 0 _) 1 _) (Nat.le_of_eq HSZ.out))).c1, (by first | assumption | exact Kp.trans (by assumption) (Kp.drewN _ 1) | exact Only.kp (by assumption) (Only.set (Only.set (Only.refl _ _) 0 _) 1 _) (Nat.le_of_eq HSZ.out))⟩ | (go_split_ands; exact ⟨(HT1.out.keep (by first | assumption | exact Kp.trans (by assumption) (Kp.drewN _ 1) | exact Only.kp (by assumption) (Only.set (Only.set (Only.refl _ _) 0 _) 1 _) (Nat.le_of_eq HSZ.out))).c0, (HT1.out.keep (by first | assumption | exact Kp.trans (by assumption) (Kp.drewN _ 1) | exact Only.kp (by assumption) (Only.set (Only.set (Only.refl _ _) 0 _) 1 _) (Nat.le_of_eq HSZ.out))).c1, (HT2.out.keep (by first | assumption | exact Kp.trans (by assumption) (Kp.drewN _ 1) | exact Only.kp (by assumption) (Only.set (Only.set (Only.refl _ _) 0 _) 1 _) (Nat.le_of_eq HSZ.out))).c0, (HT2.out.keep (by first | assumption | exact Kp.trans (by assumption) (Kp.drewN _ 1) | exact Only.kp (by assumption) (Only.set (Only.set (Only.refl _ _) 0 _) 1 _) (Nat.le_of_eq HSZ.out))).c1, (by first | assumption | exact Kp.trans (by assumption) (Kp.drewN _ 1) | exact Only.kp (by assumption) (Only.set (Only.set (Only.refl _ _) 0 _) 1 _) (Nat.le_of_eq HSZ.out))⟩) | fail "no keep")
    (first
      | (go_at_call_of 47 (Value.slice ao al ac); refine (rtimes_n (HA.out.keep (Kp.trans HK3.out (Kp.drewN _ 1))) (HD.out.keep (Kp.trans HK3.out (Kp.drewN _ 1))) (Nat.le_trans LA.out (by decide)) (Nat.le_trans LD.out (by decide))).mono ?_; rintro e w6 ⟨v6, rfl, s6, n6, hk6⟩; have k6 : Kp w3 w6 := Kp.trans (Kp.drewN w3 1) hk6; have q6 : Kp w2 w6 := Kp.trans HK3.out k6)
      | (go_at_call_of 47 (Value.slice co cl cc); refine (rtimes_n (HCC.out.keep q6) (HB.out.keep q6) (Nat.le_trans LC.out (by decide)) (Nat.le_trans LB.out (by decide))).mono ?_; rintro e w7 ⟨v7, rfl, s7, n7, hk7⟩; have k7 : Kp w3 w7 := Kp.trans k6 hk7; have q7 : Kp w2 w7 := Kp.trans HK3.out k7; have s67 := s6.keep hk7)
      | (go_at_call 74; refine (rplus_n s67 s7 L16.out L16b.out).mono ?_; rintro e w8 ⟨v8, rfl, s8, n8, hk8⟩; have k8 : Kp w3 w8 := Kp.trans k7 hk8; have q8 : Kp w2 w8 := Kp.trans HK3.out k8)
      | (go_at_call_of 47 (Value.slice bo bl bc); refine (rtimes_n (HB.out.keep q8) (HD.out.keep q8) (Nat.le_trans LB.out (by decide)) (Nat.le_trans LD.out (by decide))).mono ?_; rintro e w9 ⟨v9, rfl, s9, n9, hk9⟩; have k9 : Kp w3 w9 := Kp.trans k8 hk9; have q9 : Kp w2 w9 := Kp.trans HK3.out k9; have s89 := s8.keep hk9)
      | (go_at_call 39; refine (lowest_n s89 s9 LN.out LDD.out HNE.out).mono ?_; intro e w10 hq; obtain ⟨⟨vn, vd, rfl, s10, t10, m10, o10⟩, hk10⟩ := hq; obtain ⟨no, nl, nc, rfl⟩ := s10.open3; obtain ⟨zo, zl, zc, rfl⟩ := t10.open3; have k10 : Kp w3 w10 := Kp.trans k9 hk10; have q10 : Kp w2 w10 := Kp.trans HK3.out k10; have hT := HB3.out.keep (Kp.trans HKR.out k10); have f0 := hT.free 0; have c0 := hT.c0; have f1 := (hT.set0 (.slice no nl nc)).free 1; have c1 := (hT.set0 (.slice no nl nc)).c1)
      | fail "no arm")
  have z5 := (Kp.trans HK02.out HK3.out).size; have z3 := HKR.out.size
  have zk := k9.size
  have mz := m10.mono (C := w3.heap.size) (by omega); have oz := o10.mono (C := w3.heap.size) (by omega)
  rw [← HPE.out] at s10 t10
  have hP := Put.made hT (.slice no nl nc) (.slice zo zl zc)
  have p0 := hP.two.c0; have p1 := hP.two.c1
  have FIN : FrR P w (.returned (.agg #[.slice no nl nc, .slice zo zl zc])) _ := ⟨⟨_, _, rfl, s10.only hP.only (mz.offs (by have := HZ.out; omega) _), t10.only hP.only (oz.offs (by have := HZ.out; omega) _), mz.mono (by omega), oz.mono (by omega)⟩, hP.only.kp (Kp.trans HK02.out q10) (Nat.le_trans (Nat.le_succ _) (Nat.le_succ _))⟩
  have HF := Lib.hid FIN
  clear FIN hP hT
  go_wp2_with fail
  exact bodyPost_ret (by simp [results, Tryz.results54, go_sem, p0, p1]) rfl HF.out
end Go.Proofs.YtdoponlhiidimaaGreatDoor
