/- Differences below 0, quotients by 0, and the reference's sums and differences. Conditions: the slices hold the numbers that are named, of at most 8 limbs, in lowest terms. -/
import Derived.Test.YtgpochhndjadhaaGreatDoorRef2
namespace Go.Proofs.YtgpochhndjadhaaGreatDoor
open Go.RowKit LimbN
set_option linter.unusedVariables false
set_option linter.unusedSimpArgs false

set_option maxRecDepth 100000 in
set_option maxHeartbeats 2000000 in
theorem SubF_neg {a b c d : Nat} {va vb vc vd : Value} {w : World} (hb0 : b ≠ 0) (hd0 : d ≠ 0) (la : (limbs a).length ≤ 8) (lb : (limbs b).length ≤ 8) (lc : (limbs c).length ≤ 8) (ld : (limbs d).length ≤ 8) (hab : Nat.gcd a b = 1) (hcd : Nat.gcd c d = 1) (hlt : a * d < c * b) (ha : Sl w va (limbs a)) (hb : Sl w vb (limbs b)) (hcc : Sl w vc (limbs c)) (hd : Sl w vd (limbs d)) :
    Calls Tryz.prog 14 #[.agg #[va, vb], .agg #[vc, vd]] w (MkR 5 (0, 0) w) := by
  have HLE := Lib.hid hlt
  obtain ⟨ao, al, ac, rfl⟩ := ha.open3
  obtain ⟨bo, bl, bc, rfl⟩ := hb.open3
  obtain ⟨co, cl, cc, rfl⟩ := hcc.open3
  obtain ⟨do', dl, dc, rfl⟩ := hd.open3
  obtain ⟨w1, hw1, HK1, HB1, hz1⟩ := box2 w 25 (.slice ao al ac) (.slice bo bl bc)
  obtain ⟨w2, hw2, HK2, HB2, hz2⟩ := box2 w1 25 (.slice co cl cc) (.slice do' dl dc)
  have hs1 : w1.heap.size = w.heap.size + 1 := by rw [hw1]; simp
  have hs2 : w2.heap.size = w.heap.size + 1 + 1 := by rw [hw2, ← hs1]; simp
  rw [hs1] at HB2
  have HSZ := Lib.hid hs2
  have hk02 := Kp.trans HK1.out HK2.out
  have HK02 := Lib.hid hk02
  have HA := Lib.hid (ha.keep hk02); have HB := Lib.hid (hb.keep hk02); have HCC := Lib.hid (hcc.keep hk02); have HD := Lib.hid (hd.keep hk02)
  have HT1 := Lib.hid (HB1.out.keep HK2.out); have HT2 := Lib.hid HB2.out
  obtain ⟨w3, hw3, HK3, HB3, hz3⟩ := start2 w2 25
  rw [hs2] at HB3
  have hw : w3 = ((w.alloc (Obj.cells #[.slice ao al ac, .slice bo bl bc] 25)).alloc (Obj.cells #[.slice co cl cc, .slice do' dl dc] 25)).alloc (Obj.cells #[.slice none 0 0, .slice none 0 0] 25) := by rw [hw3, hw2, hw1]
  have HW := Lib.hid hw
  have HB0 := Lib.hid hb0; have HD0 := Lib.hid hd0; have LA := Lib.hid la; have LB := Lib.hid lb; have LC := Lib.hid lc; have LD := Lib.hid ld
  have HZ : Hid (w.heap.size + 1 + 1 < w3.heap.size) := by show _ < _; omega
  have HOK1 := Lib.hid (frOk_n (len8 la) (len8 lb) hb0 hab); have HOK2 := Lib.hid (frOk_n (len8 lc) (len8 ld) hd0 hcd)
  have c10 := (HT1.out.keep HK3.out).c0; have c11 := (HT1.out.keep HK3.out).c1
  rw [hw] at c10 c11
  clear hw1 hw2 hw3 hs1 hs2 hk02 ha hb hcc hd hz1 hz2 hz3 hab hcd hlt hw HK1 HK2 HB1 HB2 hb0 hd0 la lb lc ld
  go_enter Tryz.func14, Tryz.ntmps14
  go_wp2_with fail
  rw [← HW.out]
  refine (Check_any (HA.out.keep HK3.out) (HB.out.keep HK3.out)).mono ?_
  rintro e w4 ⟨rfl, hk⟩
  rw [HOK1.out]
  have HK4 := Lib.hid hk; have HQ4 := Lib.hid (Kp.trans HK3.out hk)
  clear hk c10 c11
  have c20 := (HT2.out.keep HQ4.out).c0; have c21 := (HT2.out.keep HQ4.out).c1
  go_wp2_with fail
  refine (Check_any (HCC.out.keep HQ4.out) (HD.out.keep HQ4.out)).mono ?_
  rintro e w5 ⟨rfl, hk⟩
  rw [HOK2.out]
  have HK5 := Lib.hid (Kp.trans HK4.out hk); have HQ5 := Lib.hid (Kp.trans HQ4.out hk)
  clear hk c20 c21
  have c10 := (HT1.out.keep HQ5.out).c0; have c11 := (HT1.out.keep HQ5.out).c1; have c20 := (HT2.out.keep HQ5.out).c0; have c21 := (HT2.out.keep HQ5.out).c1
  go_wp2_with fail
  refine (fcompare_n HB0.out HD0.out (len8 LA.out) (len8 LB.out) (len8 LC.out) (len8 LD.out) (HA.out.keep HQ5.out) (HB.out.keep HQ5.out) (HCC.out.keep HQ5.out) (HD.out.keep HQ5.out)).mono ?_
  have hT : decide (FracN.ord (a * d) (c * b) < 0) = true := by
    have := HLE.out
    unfold FracN.ord
    rw [if_pos (by omega)]; rfl
  obtain ⟨T, eT⟩ : ∃ T, T = FracN.ord (a * d) (c * b) := ⟨_, rfl⟩
  rw [← eT] at hT ⊢
  clear eT
  rintro e w6 ⟨rfl, hk⟩
  have HK6 := Lib.hid (Kp.trans HK5.out hk); have HQ6 := Lib.hid (Kp.trans HQ5.out hk)
  clear hk c10 c11 c20 c21
  have hT := HB3.out.keep HK6.out
  have hP := Put.made hT (.slice none 0 0) (.slice none 0 0)
  obtain ⟨w8, hw8⟩ : ∃ w8, w8 = (w6.setCell ⟨w.heap.size + 1 + 1, 0, none⟩ (.slice none 0 0)).setCell ⟨w.heap.size + 1 + 1, 1, none⟩ (.slice none 0 0) := ⟨_, rfl⟩
  rw [← hw8] at hP
  have HW8 := Lib.hid hw8
  have HPP := Lib.hid hP
  have f0 := hT.free 0
  have c0 := hT.c0
  have f1 := (hT.set0 (.slice none 0 0)).free 1
  have c1 := (hT.set0 (.slice none 0 0)).c1
  clear hT hw8 hP
  go_wp2_with fail
  have hP' := HPP.out
  rw [← HW8.out]
  clear c0 c1 f0 f1
  have c0 := hP'.two.c0
  have c1 := hP'.two.c1
  have FIN2 : MkR 5 (0, 0) w (.returned (.tuple #[.agg #[.slice none 0 0, .slice none 0 0], .int .i64 5])) w8 :=
    ⟨⟨_, _, rfl, Sl.nil _, Sl.nil _, New.nil _, New.nil _⟩, hP'.only.kp (Kp.trans HK02.out HQ6.out) (Nat.le_trans (Nat.le_succ _) (Nat.le_succ _))⟩
  exact bodyPost_ret (by simp [results, Tryz.results14, go_sem, c0, c1]) rfl FIN2
set_option maxRecDepth 100000 in
set_option maxHeartbeats 2000000 in
theorem rSubF_neg {a b c d : Nat} {va vb vc vd : Value} {w : World} (hb0 : b ≠ 0) (hd0 : d ≠ 0) (la : (limbs a).length ≤ 8) (lb : (limbs b).length ≤ 8) (lc : (limbs c).length ≤ 8) (ld : (limbs d).length ≤ 8) (hab : Nat.gcd a b = 1) (hcd : Nat.gcd c d = 1) (hlt : a * d < c * b) (ha : Sl w va (limbs a)) (hb : Sl w vb (limbs b)) (hcc : Sl w vc (limbs c)) (hd : Sl w vd (limbs d)) :
    Calls Tryz.prog 15 #[.agg #[va, vb], .agg #[vc, vd]] w (MkR 5 (0, 0) w) := by
  have HLE := Lib.hid hlt
  obtain ⟨ao, al, ac, rfl⟩ := ha.open3
  obtain ⟨bo, bl, bc, rfl⟩ := hb.open3
  obtain ⟨co, cl, cc, rfl⟩ := hcc.open3
  obtain ⟨do', dl, dc, rfl⟩ := hd.open3
  obtain ⟨w1, hw1, HK1, HB1, hz1⟩ := box2 w 25 (.slice ao al ac) (.slice bo bl bc)
  obtain ⟨w2, hw2, HK2, HB2, hz2⟩ := box2 w1 25 (.slice co cl cc) (.slice do' dl dc)
  have hs1 : w1.heap.size = w.heap.size + 1 := by rw [hw1]; simp
  have hs2 : w2.heap.size = w.heap.size + 1 + 1 := by rw [hw2, ← hs1]; simp
  rw [hs1] at HB2
  have HSZ := Lib.hid hs2
  have hk02 := Kp.trans HK1.out HK2.out
  have HK02 := Lib.hid hk02
  have HA := Lib.hid (ha.keep hk02); have HB := Lib.hid (hb.keep hk02); have HCC := Lib.hid (hcc.keep hk02); have HD := Lib.hid (hd.keep hk02)
  have HT1 := Lib.hid (HB1.out.keep HK2.out); have HT2 := Lib.hid HB2.out
  obtain ⟨w3, hw3, HK3, HB3, hz3⟩ := start2 w2 25
  rw [hs2] at HB3
  have hw : w3 = ((w.alloc (Obj.cells #[.slice ao al ac, .slice bo bl bc] 25)).alloc (Obj.cells #[.slice co cl cc, .slice do' dl dc] 25)).alloc (Obj.cells #[.slice none 0 0, .slice none 0 0] 25) := by rw [hw3, hw2, hw1]
  have HW := Lib.hid hw
  have HB0 := Lib.hid hb0; have HD0 := Lib.hid hd0; have LA := Lib.hid la; have LB := Lib.hid lb; have LC := Lib.hid lc; have LD := Lib.hid ld
  have HZ : Hid (w.heap.size + 1 + 1 < w3.heap.size) := by show _ < _; omega
  have HOK1 := Lib.hid (frOk_n (len8 la) (len8 lb) hb0 hab); have HOK2 := Lib.hid (frOk_n (len8 lc) (len8 ld) hd0 hcd)
  have c10 := (HT1.out.keep HK3.out).c0; have c11 := (HT1.out.keep HK3.out).c1
  rw [hw] at c10 c11
  clear hw1 hw2 hw3 hs1 hs2 hk02 ha hb hcc hd hz1 hz2 hz3 hab hcd hlt hw HK1 HK2 HB1 HB2 hb0 hd0 la lb lc ld
  go_enter Tryz.func15, Tryz.ntmps15
  go_wp2_with fail
  rw [← HW.out]
  refine (rCheck_any (HA.out.keep HK3.out) (HB.out.keep HK3.out)).mono ?_
  rintro e w4 ⟨rfl, hk⟩
  rw [HOK1.out]
  have HK4 := Lib.hid hk; have HQ4 := Lib.hid (Kp.trans HK3.out hk)
  clear hk c10 c11
  have c20 := (HT2.out.keep HQ4.out).c0; have c21 := (HT2.out.keep HQ4.out).c1
  go_wp2_with fail
  refine (rCheck_any (HCC.out.keep HQ4.out) (HD.out.keep HQ4.out)).mono ?_
  rintro e w5 ⟨rfl, hk⟩
  rw [HOK2.out]
  have HK5 := Lib.hid (Kp.trans HK4.out hk); have HQ5 := Lib.hid (Kp.trans HQ4.out hk)
  clear hk c20 c21
  have c10 := (HT1.out.keep HQ5.out).c0; have c11 := (HT1.out.keep HQ5.out).c1; have c20 := (HT2.out.keep HQ5.out).c0; have c21 := (HT2.out.keep HQ5.out).c1
  go_wp2_with fail
  refine (rorderF_n HB0.out HD0.out LA.out LB.out LC.out LD.out (HA.out.keep HQ5.out) (HB.out.keep HQ5.out) (HCC.out.keep HQ5.out) (HD.out.keep HQ5.out)).mono ?_
  have hT : decide (FracN.ord (a * d) (c * b) < 0) = true := by
    have := HLE.out
    unfold FracN.ord
    rw [if_pos (by omega)]; rfl
  obtain ⟨T, eT⟩ : ∃ T, T = FracN.ord (a * d) (c * b) := ⟨_, rfl⟩
  rw [← eT] at hT ⊢
  clear eT
  rintro e w6 ⟨rfl, hk⟩
  have HK6 := Lib.hid (Kp.trans HK5.out hk); have HQ6 := Lib.hid (Kp.trans HQ5.out hk)
  clear hk c10 c11 c20 c21
  have hT := HB3.out.keep HK6.out
  have hP := Put.made hT (.slice none 0 0) (.slice none 0 0)
  obtain ⟨w8, hw8⟩ : ∃ w8, w8 = (w6.setCell ⟨w.heap.size + 1 + 1, 0, none⟩ (.slice none 0 0)).setCell ⟨w.heap.size + 1 + 1, 1, none⟩ (.slice none 0 0) := ⟨_, rfl⟩
  rw [← hw8] at hP
  have HW8 := Lib.hid hw8
  have HPP := Lib.hid hP
  have f0 := hT.free 0
  have c0 := hT.c0
  have f1 := (hT.set0 (.slice none 0 0)).free 1
  have c1 := (hT.set0 (.slice none 0 0)).c1
  clear hT hw8 hP
  go_wp2_with fail
  have hP' := HPP.out
  rw [← HW8.out]
  clear c0 c1 f0 f1
  have c0 := hP'.two.c0
  have c1 := hP'.two.c1
  have FIN2 : MkR 5 (0, 0) w (.returned (.tuple #[.agg #[.slice none 0 0, .slice none 0 0], .int .i64 5])) w8 :=
    ⟨⟨_, _, rfl, Sl.nil _, Sl.nil _, New.nil _, New.nil _⟩, hP'.only.kp (Kp.trans HK02.out HQ6.out) (Nat.le_trans (Nat.le_succ _) (Nat.le_succ _))⟩
  exact bodyPost_ret (by simp [results, Tryz.results15, go_sem, c0, c1]) rfl FIN2
set_option maxRecDepth 100000 in
set_option maxHeartbeats 2000000 in
theorem DivF_zero {a b c d : Nat} {va vb vc vd : Value} {w : World} (hb0 : b ≠ 0) (hd0 : d ≠ 0) (la : (limbs a).length ≤ 8) (lb : (limbs b).length ≤ 8) (lc : (limbs c).length ≤ 8) (ld : (limbs d).length ≤ 8) (hab : Nat.gcd a b = 1) (hcd : Nat.gcd c d = 1) (hc0 : c = 0) (ha : Sl w va (limbs a)) (hb : Sl w vb (limbs b)) (hcc : Sl w vc (limbs c)) (hd : Sl w vd (limbs d)) :
    Calls Tryz.prog 18 #[.agg #[va, vb], .agg #[vc, vd]] w (MkR 4 (0, 0) w) := by
  obtain ⟨ao, al, ac, rfl⟩ := ha.open3
  obtain ⟨bo, bl, bc, rfl⟩ := hb.open3
  obtain ⟨co, cc, rfl, -⟩ := hcc.ex
  obtain ⟨cl, hcl⟩ : ∃ cl, cl = (limbs c).length := ⟨_, rfl⟩
  have hlz : ((cl : Int) == 0) = true := by rw [hcl, hc0]; rfl
  rw [← hcl] at hcc ⊢
  clear hcl
  obtain ⟨do', dl, dc, rfl⟩ := hd.open3
  obtain ⟨w1, hw1, HK1, HB1, hz1⟩ := box2 w 25 (.slice ao al ac) (.slice bo bl bc)
  obtain ⟨w2, hw2, HK2, HB2, hz2⟩ := box2 w1 25 (.slice co cl cc) (.slice do' dl dc)
  have hs1 : w1.heap.size = w.heap.size + 1 := by rw [hw1]; simp
  have hs2 : w2.heap.size = w.heap.size + 1 + 1 := by rw [hw2, ← hs1]; simp
  rw [hs1] at HB2
  have HSZ := Lib.hid hs2
  have hk02 := Kp.trans HK1.out HK2.out
  have HK02 := Lib.hid hk02
  have HA := Lib.hid (ha.keep hk02); have HB := Lib.hid (hb.keep hk02); have HCC := Lib.hid (hcc.keep hk02); have HD := Lib.hid (hd.keep hk02)
  have HT1 := Lib.hid (HB1.out.keep HK2.out); have HT2 := Lib.hid HB2.out
  obtain ⟨w3, hw3, HK3, HB3, hz3⟩ := start2 w2 25
  rw [hs2] at HB3
  have hw : w3 = ((w.alloc (Obj.cells #[.slice ao al ac, .slice bo bl bc] 25)).alloc (Obj.cells #[.slice co cl cc, .slice do' dl dc] 25)).alloc (Obj.cells #[.slice none 0 0, .slice none 0 0] 25) := by rw [hw3, hw2, hw1]
  have HW := Lib.hid hw
  have HB0 := Lib.hid hb0; have HD0 := Lib.hid hd0; have LA := Lib.hid la; have LB := Lib.hid lb; have LC := Lib.hid lc; have LD := Lib.hid ld
  have HZ : Hid (w.heap.size + 1 + 1 < w3.heap.size) := by show _ < _; omega
  have HOK1 := Lib.hid (frOk_n (len8 la) (len8 lb) hb0 hab); have HOK2 := Lib.hid (frOk_n (len8 lc) (len8 ld) hd0 hcd)
  have c10 := (HT1.out.keep HK3.out).c0; have c11 := (HT1.out.keep HK3.out).c1
  rw [hw] at c10 c11
  clear hw1 hw2 hw3 hs1 hs2 hk02 ha hb hcc hd hz1 hz2 hz3 hab hcd hc0 hw HK1 HK2 HB1 HB2 hb0 hd0 la lb lc ld
  go_enter Tryz.func18, Tryz.ntmps18
  go_wp2_with fail
  rw [← HW.out]
  refine (Check_any (HA.out.keep HK3.out) (HB.out.keep HK3.out)).mono ?_
  rintro e w4 ⟨rfl, hk⟩
  rw [HOK1.out]
  have HK4 := Lib.hid hk; have HQ4 := Lib.hid (Kp.trans HK3.out hk)
  clear hk c10 c11
  have c20 := (HT2.out.keep HQ4.out).c0; have c21 := (HT2.out.keep HQ4.out).c1
  go_wp2_with fail
  refine (Check_any (HCC.out.keep HQ4.out) (HD.out.keep HQ4.out)).mono ?_
  rintro e w5 ⟨rfl, hk⟩
  rw [HOK2.out]
  have HK5 := Lib.hid (Kp.trans HK4.out hk); have HQ5 := Lib.hid (Kp.trans HQ4.out hk)
  clear hk c20 c21
  have c10 := (HT1.out.keep HQ5.out).c0; have c11 := (HT1.out.keep HQ5.out).c1; have c20 := (HT2.out.keep HQ5.out).c0; have c21 := (HT2.out.keep HQ5.out).c1
  have hT := HB3.out.keep HK5.out
  have hP := Put.made hT (.slice none 0 0) (.slice none 0 0)
  obtain ⟨w8, hw8⟩ : ∃ w8, w8 = (w5.setCell ⟨w.heap.size + 1 + 1, 0, none⟩ (.slice none 0 0)).setCell ⟨w.heap.size + 1 + 1, 1, none⟩ (.slice none 0 0) := ⟨_, rfl⟩
  rw [← hw8] at hP
  have HW8 := Lib.hid hw8
  have HPP := Lib.hid hP
  have f0 := hT.free 0
  have c0 := hT.c0
  have f1 := (hT.set0 (.slice none 0 0)).free 1
  have c1 := (hT.set0 (.slice none 0 0)).c1
  clear hT hw8 hP
  go_wp2_with fail
  have hP' := HPP.out
  rw [← HW8.out]
  clear c0 c1 f0 f1
  have c0 := hP'.two.c0
  have c1 := hP'.two.c1
  have FIN2 : MkR 4 (0, 0) w (.returned (.tuple #[.agg #[.slice none 0 0, .slice none 0 0], .int .i64 4])) w8 :=
    ⟨⟨_, _, rfl, Sl.nil _, Sl.nil _, New.nil _, New.nil _⟩, hP'.only.kp (Kp.trans HK02.out HQ5.out) (Nat.le_trans (Nat.le_succ _) (Nat.le_succ _))⟩
  exact bodyPost_ret (by simp [results, Tryz.results18, go_sem, c0, c1]) rfl FIN2
set_option maxRecDepth 100000 in
set_option maxHeartbeats 2000000 in
theorem rDivF_zero {a b c d : Nat} {va vb vc vd : Value} {w : World} (hb0 : b ≠ 0) (hd0 : d ≠ 0) (la : (limbs a).length ≤ 8) (lb : (limbs b).length ≤ 8) (lc : (limbs c).length ≤ 8) (ld : (limbs d).length ≤ 8) (hab : Nat.gcd a b = 1) (hcd : Nat.gcd c d = 1) (hc0 : c = 0) (ha : Sl w va (limbs a)) (hb : Sl w vb (limbs b)) (hcc : Sl w vc (limbs c)) (hd : Sl w vd (limbs d)) :
    Calls Tryz.prog 19 #[.agg #[va, vb], .agg #[vc, vd]] w (MkR 4 (0, 0) w) := by
  obtain ⟨ao, al, ac, rfl⟩ := ha.open3
  obtain ⟨bo, bl, bc, rfl⟩ := hb.open3
  obtain ⟨co, cc, rfl, -⟩ := hcc.ex
  obtain ⟨cl, hcl⟩ : ∃ cl, cl = (limbs c).length := ⟨_, rfl⟩
  have hlz : ((cl : Int) == 0) = true := by rw [hcl, hc0]; rfl
  rw [← hcl] at hcc ⊢
  clear hcl
  obtain ⟨do', dl, dc, rfl⟩ := hd.open3
  obtain ⟨w1, hw1, HK1, HB1, hz1⟩ := box2 w 25 (.slice ao al ac) (.slice bo bl bc)
  obtain ⟨w2, hw2, HK2, HB2, hz2⟩ := box2 w1 25 (.slice co cl cc) (.slice do' dl dc)
  have hs1 : w1.heap.size = w.heap.size + 1 := by rw [hw1]; simp
  have hs2 : w2.heap.size = w.heap.size + 1 + 1 := by rw [hw2, ← hs1]; simp
  rw [hs1] at HB2
  have HSZ := Lib.hid hs2
  have hk02 := Kp.trans HK1.out HK2.out
  have HK02 := Lib.hid hk02
  have HA := Lib.hid (ha.keep hk02); have HB := Lib.hid (hb.keep hk02); have HCC := Lib.hid (hcc.keep hk02); have HD := Lib.hid (hd.keep hk02)
  have HT1 := Lib.hid (HB1.out.keep HK2.out); have HT2 := Lib.hid HB2.out
  obtain ⟨w3, hw3, HK3, HB3, hz3⟩ := start2 w2 25
  rw [hs2] at HB3
  have hw : w3 = ((w.alloc (Obj.cells #[.slice ao al ac, .slice bo bl bc] 25)).alloc (Obj.cells #[.slice co cl cc, .slice do' dl dc] 25)).alloc (Obj.cells #[.slice none 0 0, .slice none 0 0] 25) := by rw [hw3, hw2, hw1]
  have HW := Lib.hid hw
  have HB0 := Lib.hid hb0; have HD0 := Lib.hid hd0; have LA := Lib.hid la; have LB := Lib.hid lb; have LC := Lib.hid lc; have LD := Lib.hid ld
  have HZ : Hid (w.heap.size + 1 + 1 < w3.heap.size) := by show _ < _; omega
  have HOK1 := Lib.hid (frOk_n (len8 la) (len8 lb) hb0 hab); have HOK2 := Lib.hid (frOk_n (len8 lc) (len8 ld) hd0 hcd)
  have c10 := (HT1.out.keep HK3.out).c0; have c11 := (HT1.out.keep HK3.out).c1
  rw [hw] at c10 c11
  clear hw1 hw2 hw3 hs1 hs2 hk02 ha hb hcc hd hz1 hz2 hz3 hab hcd hc0 hw HK1 HK2 HB1 HB2 hb0 hd0 la lb lc ld
  go_enter Tryz.func19, Tryz.ntmps19
  go_wp2_with fail
  rw [← HW.out]
  refine (rCheck_any (HA.out.keep HK3.out) (HB.out.keep HK3.out)).mono ?_
  rintro e w4 ⟨rfl, hk⟩
  rw [HOK1.out]
  have HK4 := Lib.hid hk; have HQ4 := Lib.hid (Kp.trans HK3.out hk)
  clear hk c10 c11
  have c20 := (HT2.out.keep HQ4.out).c0; have c21 := (HT2.out.keep HQ4.out).c1
  go_wp2_with fail
  refine (rCheck_any (HCC.out.keep HQ4.out) (HD.out.keep HQ4.out)).mono ?_
  rintro e w5 ⟨rfl, hk⟩
  rw [HOK2.out]
  have HK5 := Lib.hid (Kp.trans HK4.out hk); have HQ5 := Lib.hid (Kp.trans HQ4.out hk)
  clear hk c20 c21
  have c10 := (HT1.out.keep HQ5.out).c0; have c11 := (HT1.out.keep HQ5.out).c1; have c20 := (HT2.out.keep HQ5.out).c0; have c21 := (HT2.out.keep HQ5.out).c1
  have hT := HB3.out.keep HK5.out
  have hP := Put.made hT (.slice none 0 0) (.slice none 0 0)
  obtain ⟨w8, hw8⟩ : ∃ w8, w8 = (w5.setCell ⟨w.heap.size + 1 + 1, 0, none⟩ (.slice none 0 0)).setCell ⟨w.heap.size + 1 + 1, 1, none⟩ (.slice none 0 0) := ⟨_, rfl⟩
  rw [← hw8] at hP
  have HW8 := Lib.hid hw8
  have HPP := Lib.hid hP
  have f0 := hT.free 0
  have c0 := hT.c0
  have f1 := (hT.set0 (.slice none 0 0)).free 1
  have c1 := (hT.set0 (.slice none 0 0)).c1
  clear hT hw8 hP
  go_wp2_with fail
  have hP' := HPP.out
  rw [← HW8.out]
  clear c0 c1 f0 f1
  have c0 := hP'.two.c0
  have c1 := hP'.two.c1
  have FIN2 : MkR 4 (0, 0) w (.returned (.tuple #[.agg #[.slice none 0 0, .slice none 0 0], .int .i64 4])) w8 :=
    ⟨⟨_, _, rfl, Sl.nil _, Sl.nil _, New.nil _, New.nil _⟩, hP'.only.kp (Kp.trans HK02.out HQ5.out) (Nat.le_trans (Nat.le_succ _) (Nat.le_succ _))⟩
  exact bodyPost_ret (by simp [results, Tryz.results19, go_sem, c0, c1]) rfl FIN2
set_option maxRecDepth 100000 in
set_option maxHeartbeats 2000000 in
theorem rSubF_n {a b c d : Nat} {va vb vc vd : Value} {w : World} (hb0 : b ≠ 0) (hd0 : d ≠ 0) (la : (limbs a).length ≤ 8) (lb : (limbs b).length ≤ 8) (lc : (limbs c).length ≤ 8) (ld : (limbs d).length ≤ 8) (hab : Nat.gcd a b = 1) (hcd : Nat.gcd c d = 1) (hle : c * b ≤ a * d) (ha : Sl w va (limbs a)) (hb : Sl w vb (limbs b)) (hcc : Sl w vc (limbs c)) (hd : Sl w vd (limbs d)) :
    Calls Tryz.prog 15 #[.agg #[va, vb], .agg #[vc, vd]] w (MkR 0 (FracN.low (a * d - c * b) (b * d)) w) := by
  have HLE := Lib.hid hle
  have L16 : Hid ((limbs (a * d)).length ≤ 1000) := Nat.le_trans (mul_len la ld) (by decide)
  have L16b : Hid ((limbs (c * b)).length ≤ 1000) := Nat.le_trans (mul_len lc lb) (by decide)
  have HL1 : Hid ((limbs (FracN.low (a * d - c * b) (b * d)).1).length ≤ 128) := Nat.le_trans (limbs_mono (FracN.low_le_self _ _).1) (Nat.le_trans (Nat.le_trans (limbs_mono (Nat.sub_le _ _)) (mul_len la ld)) (by decide))
  have HL2 : Hid ((limbs (FracN.low (a * d - c * b) (b * d)).2).length ≤ 128) := Nat.le_trans (limbs_mono (FracN.low_le_self _ _).2) (Nat.le_trans (mul_len lb ld) (by decide))
  have LN : Hid ((limbs (a * d - c * b)).length ≤ 1000) := Nat.le_trans (Nat.le_trans (limbs_mono (Nat.sub_le _ _)) (mul_len la ld)) (by decide)
  have LDD : Hid ((limbs (b * d)).length ≤ 1000) := Nat.le_trans (mul_len lb ld) (by decide)
  have HNE : Hid (b * d ≠ 0) := Nat.ne_of_gt (Nat.mul_pos (Nat.pos_of_ne_zero hb0) (Nat.pos_of_ne_zero hd0))
  obtain ⟨P, hP⟩ : ∃ P, P = FracN.low (a * d - c * b) (b * d) := ⟨_, rfl⟩
  rw [← hP]
  have HPE := Lib.hid hP
  clear hP
  obtain ⟨ao, al, ac, rfl⟩ := ha.open3
  obtain ⟨bo, bl, bc, rfl⟩ := hb.open3
  obtain ⟨co, cl, cc, rfl⟩ := hcc.open3
  obtain ⟨do', dl, dc, rfl⟩ := hd.open3
  obtain ⟨w1, hw1, HK1, HB1, hz1⟩ := box2 w 25 (.slice ao al ac) (.slice bo bl bc)
  obtain ⟨w2, hw2, HK2, HB2, hz2⟩ := box2 w1 25 (.slice co cl cc) (.slice do' dl dc)
  have hs1 : w1.heap.size = w.heap.size + 1 := by rw [hw1]; simp
  have hs2 : w2.heap.size = w.heap.size + 1 + 1 := by rw [hw2, ← hs1]; simp
  rw [hs1] at HB2
  have HSZ := Lib.hid hs2
  have hk02 := Kp.trans HK1.out HK2.out
  have HK02 := Lib.hid hk02
  have HA := Lib.hid (ha.keep hk02); have HB := Lib.hid (hb.keep hk02); have HCC := Lib.hid (hcc.keep hk02); have HD := Lib.hid (hd.keep hk02)
  have HT1 := Lib.hid (HB1.out.keep HK2.out); have HT2 := Lib.hid HB2.out
  obtain ⟨w3, hw3, HK3, HB3, hz3⟩ := start2 w2 25
  rw [hs2] at HB3
  have hw : w3 = ((w.alloc (Obj.cells #[.slice ao al ac, .slice bo bl bc] 25)).alloc (Obj.cells #[.slice co cl cc, .slice do' dl dc] 25)).alloc (Obj.cells #[.slice none 0 0, .slice none 0 0] 25) := by rw [hw3, hw2, hw1]
  have HW := Lib.hid hw
  have HB0 := Lib.hid hb0; have HD0 := Lib.hid hd0; have LA := Lib.hid la; have LB := Lib.hid lb; have LC := Lib.hid lc; have LD := Lib.hid ld
  have HZ : Hid (w.heap.size + 1 + 1 < w3.heap.size) := by show _ < _; omega
  have HOK1 := Lib.hid (frOk_n (len8 la) (len8 lb) hb0 hab); have HOK2 := Lib.hid (frOk_n (len8 lc) (len8 ld) hd0 hcd)
  have c10 := (HT1.out.keep HK3.out).c0; have c11 := (HT1.out.keep HK3.out).c1
  rw [hw] at c10 c11
  clear hw1 hw2 hw3 hs1 hs2 hk02 ha hb hcc hd hz1 hz2 hz3 hab hcd hle hw HK1 HK2 HB1 HB2 hb0 hd0 la lb lc ld
  go_enter Tryz.func15, Tryz.ntmps15
  go_wp2_with fail
  rw [← HW.out]
  refine (rCheck_any (HA.out.keep HK3.out) (HB.out.keep HK3.out)).mono ?_
  rintro e w4 ⟨rfl, hk⟩
  rw [HOK1.out]
  have HK4 := Lib.hid hk; have HQ4 := Lib.hid (Kp.trans HK3.out hk)
  clear hk c10 c11
  have c20 := (HT2.out.keep HQ4.out).c0; have c21 := (HT2.out.keep HQ4.out).c1
  go_wp2_with fail
  refine (rCheck_any (HCC.out.keep HQ4.out) (HD.out.keep HQ4.out)).mono ?_
  rintro e w5 ⟨rfl, hk⟩
  rw [HOK2.out]
  have HK5 := Lib.hid (Kp.trans HK4.out hk); have HQ5 := Lib.hid (Kp.trans HQ4.out hk)
  clear hk c20 c21
  have c10 := (HT1.out.keep HQ5.out).c0; have c11 := (HT1.out.keep HQ5.out).c1; have c20 := (HT2.out.keep HQ5.out).c0; have c21 := (HT2.out.keep HQ5.out).c1
  go_wp2_with fail
  refine (rorderF_n HB0.out HD0.out LA.out LB.out LC.out LD.out (HA.out.keep HQ5.out) (HB.out.keep HQ5.out) (HCC.out.keep HQ5.out) (HD.out.keep HQ5.out)).mono ?_
  have hT : decide (FracN.ord (a * d) (c * b) < 0) = false := by
    have := HLE.out
    unfold FracN.ord
    rw [if_neg (by omega)]; split <;> rfl
  obtain ⟨T, eT⟩ : ∃ T, T = FracN.ord (a * d) (c * b) := ⟨_, rfl⟩
  rw [← eT] at hT ⊢
  clear eT
  rintro e w60 ⟨rfl, hk⟩
  have HK6 := Lib.hid (Kp.trans HK5.out hk); have HQ6 := Lib.hid (Kp.trans HQ5.out hk)
  clear hk c10 c11 c20 c21
  have c10 := (HT1.out.keep HQ6.out).c0; have c11 := (HT1.out.keep HQ6.out).c1; have c20 := (HT2.out.keep HQ6.out).c0; have c21 := (HT2.out.keep HQ6.out).c1
  go_wp2_with fail
  go_region_held3 (fun w' => w'.cell? ⟨w.heap.size, 0, none⟩ = some (.slice ao al ac) ∧ w'.cell? ⟨w.heap.size, 1, none⟩ = some (.slice bo bl bc) ∧ w'.cell? ⟨w.heap.size + 1, 0, none⟩ = some (.slice co cl cc) ∧ w'.cell? ⟨w.heap.size + 1, 1, none⟩ = some (.slice do' dl dc) ∧ Kp w2 w')
    (first | exact ⟨(HT1.out.keep (by first | assumption | exact Kp.trans (by assumption) (Kp.drewN _ 1) | exact Only.kp (by assumption) (Only.set (Only.set (Only.refl _ _) 0 _) 1 _) (Nat.le_of_eq HSZ.out))).c0, (HT1.out.keep (by first | assumption | exact Kp.trans (by assumption) (Kp.drewN _ 1) | exact Only.kp (by assumption) (Only.set (Only.set (Only.refl _ _) 0 _) 1 _) (Nat.le_of_eq HSZ.out))).c1, (HT2.out.keep (by first | assumption | exact Kp.trans (by assumption) (Kp.drewN _ 1) | exact Only.kp (by assumption) (Only.set (Only.set (Only.refl _ _) 0 _) 1 _) (Nat.le_of_eq HSZ.out))).c0, (HT2.out.keep (by first | assumption | exact Kp.trans (by assumption) (Kp.drewN _ 1) | exact Only.kp (by assumption) (Only.set (Only.set (Only.refl _ _) 0 _) 1 _) (Nat.le_of_eq HSZ.out))).c1, (by first | assumption | exact Kp.trans (by assumption) (Kp.drewN _ 1) | exact Only.kp (by assumption) (Only.set (Only.set (Only.refl _ _) 0 _) 1 _) (Nat.le_of_eq HSZ.out))⟩ | (go_split_ands; exact ⟨(HT1.out.keep (by first | assumption | exact Kp.trans (by assumption) (Kp.drewN _ 1) | exact Only.kp (by assumption) (Only.set (Only.set (Only.refl _ _) 0 _) 1 _) (Nat.le_of_eq HSZ.out))).c0, (HT1.out.keep (by first | assumption | exact Kp.trans (by assumption) (Kp.drewN _ 1) | exact Only.kp (by assumption) (Only.set (Only.set (Only.refl _ _) 0 _) 1 _) (Nat.le_of_eq HSZ.out))).c1, (HT2.out.keep (by first | assumption | exact Kp.trans (by assumption) (Kp.drewN _ 1) | exact Only.kp (by assumption) (Only.set (Only.set (Only.refl _ _) 0 _) 1 _) (Nat.le_of_eq HSZ.out))).c0, (HT2.out.keep (by first | assumption | exact Kp.trans (by assumption) (Kp.drewN _ 1) | exact Only.kp (by assumption) (Only.set (Only.set (Only.refl _ _) 0 _) 1 _) (Nat.le_of_eq HSZ.out))).c1, (by first | assumption | exact Kp.trans (by assumption) (Kp.drewN _ 1) | exact Only.kp (by assumption) (Only.set (Only.set (Only.refl _ _) 0 _) 1 _) (Nat.le_of_eq HSZ.out))⟩) | fail "no keep")
    (first
      | (go_at_call_of 53 (Value.slice ao al ac); refine (rtimes_n (HA.out.keep (Kp.trans HQ6.out (Kp.drewN _ 1))) (HD.out.keep (Kp.trans HQ6.out (Kp.drewN _ 1))) (Nat.le_trans LA.out (by decide)) (Nat.le_trans LD.out (by decide))).mono ?_; rintro e w6 ⟨v6, rfl, s6, n6, hk6⟩; have k6 : Kp w60 w6 := Kp.trans (Kp.drewN w60 1) hk6; have q6 : Kp w2 w6 := Kp.trans HQ6.out k6)
      | (go_at_call_of 53 (Value.slice co cl cc); refine (rtimes_n (HCC.out.keep q6) (HB.out.keep q6) (Nat.le_trans LC.out (by decide)) (Nat.le_trans LB.out (by decide))).mono ?_; rintro e w7 ⟨v7, rfl, s7, n7, hk7⟩; have k7 : Kp w60 w7 := Kp.trans k6 hk7; have q7 : Kp w2 w7 := Kp.trans HQ6.out k7; have s67 := s6.keep hk7)
      | (go_at_call 52; refine (rminus_n s67 s7 L16.out HLE.out).mono ?_; rintro e w8 ⟨v8, rfl, s8, n8, hk8⟩; have k8 : Kp w60 w8 := Kp.trans k7 hk8; have q8 : Kp w2 w8 := Kp.trans HQ6.out k8)
      | (go_at_call_of 53 (Value.slice bo bl bc); refine (rtimes_n (HB.out.keep q8) (HD.out.keep q8) (Nat.le_trans LB.out (by decide)) (Nat.le_trans LD.out (by decide))).mono ?_; rintro e w9 ⟨v9, rfl, s9, n9, hk9⟩; have k9 : Kp w60 w9 := Kp.trans k8 hk9; have q9 : Kp w2 w9 := Kp.trans HQ6.out k9; have s89 := s8.keep hk9)
      | (go_at_call 51; refine (lowest_n s89 s9 LN.out LDD.out HNE.out).mono ?_; intro e w10 hq; obtain ⟨⟨vn, vd, rfl, s10, t10, m10, o10⟩, hk10⟩ := hq; obtain ⟨no, nl, nc, rfl⟩ := s10.open3; obtain ⟨zo, zl, zc, rfl⟩ := t10.open3; have k10 : Kp w60 w10 := Kp.trans k9 hk10; have q10 : Kp w2 w10 := Kp.trans HQ6.out k10)
      | (go_at_call 48; refine (limited_n s10 t10 HL1.out HL2.out).mono ?_; rintro e w11 ⟨rfl, hk11⟩; have k11 : Kp w60 w11 := Kp.trans k10 hk11; have q11 : Kp w2 w11 := Kp.trans HQ6.out k11; have s11 := s10.keep hk11; have t11 := t10.keep hk11; have hT := HB3.out.keep (Kp.trans HK6.out k11); have f0 := hT.free 0; have c0 := hT.c0; have f1 := (hT.set0 (.slice no nl nc)).free 1; have c1 := (hT.set0 (.slice no nl nc)).c1)
      | fail "no arm")
  have z5 := (Kp.trans HK02.out HQ6.out).size; have z3 := HK6.out.size
  have zk := k9.size
  have mz := m10.mono (C := w60.heap.size) (by omega); have oz := o10.mono (C := w60.heap.size) (by omega)
  rw [← HPE.out] at s11 t11
  have hP := Put.made hT (.slice no nl nc) (.slice zo zl zc)
  have p0 := hP.two.c0; have p1 := hP.two.c1
  have FIN : MkR 0 P w (.returned (.tuple #[.agg #[.slice no nl nc, .slice zo zl zc], .int .i64 0])) _ := ⟨⟨_, _, rfl, s11.only hP.only (mz.offs (by have := HZ.out; omega) _), t11.only hP.only (oz.offs (by have := HZ.out; omega) _), mz.mono (by omega), oz.mono (by omega)⟩, hP.only.kp (Kp.trans HK02.out q11) (Nat.le_trans (Nat.le_succ _) (Nat.le_succ _))⟩
  have HF := Lib.hid FIN
  clear FIN hP hT
  go_wp2_with fail
  exact bodyPost_ret (by simp [results, Tryz.results15, go_sem, p0, p1]) rfl HF.out
set_option maxRecDepth 100000 in
set_option maxHeartbeats 2000000 in
theorem rAddF_n {a b c d : Nat} {va vb vc vd : Value} {w : World} (hb0 : b ≠ 0) (hd0 : d ≠ 0) (la : (limbs a).length ≤ 8) (lb : (limbs b).length ≤ 8) (lc : (limbs c).length ≤ 8) (ld : (limbs d).length ≤ 8) (hab : Nat.gcd a b = 1) (hcd : Nat.gcd c d = 1) (ha : Sl w va (limbs a)) (hb : Sl w vb (limbs b)) (hcc : Sl w vc (limbs c)) (hd : Sl w vd (limbs d)) :
    Calls Tryz.prog 12 #[.agg #[va, vb], .agg #[vc, vd]] w (MkR 0 (FracN.low (a * d + c * b) (b * d)) w) := by
  have HL1 : Hid ((limbs (FracN.low (a * d + c * b) (b * d)).1).length ≤ 128) := Nat.le_trans (limbs_mono (FracN.low_le_self _ _).1) (Nat.le_trans (add_len (mul_len la ld) (mul_len lc lb)) (by decide))
  have HL2 : Hid ((limbs (FracN.low (a * d + c * b) (b * d)).2).length ≤ 128) := Nat.le_trans (limbs_mono (FracN.low_le_self _ _).2) (Nat.le_trans (mul_len lb ld) (by decide))
  have LN : Hid ((limbs (a * d + c * b)).length ≤ 1000) := Nat.le_trans (add_len (mul_len la ld) (mul_len lc lb)) (by decide)
  have LDD : Hid ((limbs (b * d)).length ≤ 1000) := Nat.le_trans (mul_len lb ld) (by decide)
  have HNE : Hid (b * d ≠ 0) := Nat.ne_of_gt (Nat.mul_pos (Nat.pos_of_ne_zero hb0) (Nat.pos_of_ne_zero hd0))
  obtain ⟨P, hP⟩ : ∃ P, P = FracN.low (a * d + c * b) (b * d) := ⟨_, rfl⟩
  rw [← hP]
  have HPE := Lib.hid hP
  clear hP
  obtain ⟨ao, al, ac, rfl⟩ := ha.open3
  obtain ⟨bo, bl, bc, rfl⟩ := hb.open3
  obtain ⟨co, cl, cc, rfl⟩ := hcc.open3
  obtain ⟨do', dl, dc, rfl⟩ := hd.open3
  obtain ⟨w1, hw1, HK1, HB1, hz1⟩ := box2 w 25 (.slice ao al ac) (.slice bo bl bc)
  obtain ⟨w2, hw2, HK2, HB2, hz2⟩ := box2 w1 25 (.slice co cl cc) (.slice do' dl dc)
  have hs1 : w1.heap.size = w.heap.size + 1 := by rw [hw1]; simp
  have hs2 : w2.heap.size = w.heap.size + 1 + 1 := by rw [hw2, ← hs1]; simp
  rw [hs1] at HB2
  have HSZ := Lib.hid hs2
  have hk02 := Kp.trans HK1.out HK2.out
  have HK02 := Lib.hid hk02
  have HA := Lib.hid (ha.keep hk02); have HB := Lib.hid (hb.keep hk02); have HCC := Lib.hid (hcc.keep hk02); have HD := Lib.hid (hd.keep hk02)
  have HT1 := Lib.hid (HB1.out.keep HK2.out); have HT2 := Lib.hid HB2.out
  obtain ⟨w3, hw3, HK3, HB3, hz3⟩ := start2 w2 25
  rw [hs2] at HB3
  have hw : w3 = ((w.alloc (Obj.cells #[.slice ao al ac, .slice bo bl bc] 25)).alloc (Obj.cells #[.slice co cl cc, .slice do' dl dc] 25)).alloc (Obj.cells #[.slice none 0 0, .slice none 0 0] 25) := by rw [hw3, hw2, hw1]
  have HW := Lib.hid hw
  have HB0 := Lib.hid hb0; have HD0 := Lib.hid hd0; have LA := Lib.hid la; have LB := Lib.hid lb; have LC := Lib.hid lc; have LD := Lib.hid ld
  have HZ : Hid (w.heap.size + 1 + 1 < w3.heap.size) := by show _ < _; omega
  have HOK1 := Lib.hid (frOk_n (len8 la) (len8 lb) hb0 hab); have HOK2 := Lib.hid (frOk_n (len8 lc) (len8 ld) hd0 hcd)
  have c10 := (HT1.out.keep HK3.out).c0; have c11 := (HT1.out.keep HK3.out).c1
  rw [hw] at c10 c11
  clear hw1 hw2 hw3 hs1 hs2 hk02 ha hb hcc hd hz1 hz2 hz3 hab hcd hw HK1 HK2 HB1 HB2 hb0 hd0 la lb lc ld
  go_enter Tryz.func12, Tryz.ntmps12
  go_wp2_with fail
  rw [← HW.out]
  refine (rCheck_any (HA.out.keep HK3.out) (HB.out.keep HK3.out)).mono ?_
  rintro e w4 ⟨rfl, hk⟩
  rw [HOK1.out]
  have HK4 := Lib.hid hk; have HQ4 := Lib.hid (Kp.trans HK3.out hk)
  clear hk c10 c11
  have c20 := (HT2.out.keep HQ4.out).c0; have c21 := (HT2.out.keep HQ4.out).c1
  go_wp2_with fail
  refine (rCheck_any (HCC.out.keep HQ4.out) (HD.out.keep HQ4.out)).mono ?_
  rintro e w5 ⟨rfl, hk⟩
  rw [HOK2.out]
  have HK5 := Lib.hid (Kp.trans HK4.out hk); have HQ5 := Lib.hid (Kp.trans HQ4.out hk)
  clear hk c20 c21
  have c10 := (HT1.out.keep HQ5.out).c0; have c11 := (HT1.out.keep HQ5.out).c1; have c20 := (HT2.out.keep HQ5.out).c0; have c21 := (HT2.out.keep HQ5.out).c1
  go_wp2_with fail
  refine (rplusF_n HB0.out HD0.out LA.out LB.out LC.out LD.out (HA.out.keep HQ5.out) (HB.out.keep HQ5.out) (HCC.out.keep HQ5.out) (HD.out.keep HQ5.out)).mono ?_
  intro e w6 hq
  obtain ⟨⟨vn, vd, rfl, s8, t8, m8, o8⟩, hk⟩ := hq
  have S8 := Lib.hid s8; have T8 := Lib.hid t8; have M8 := Lib.hid m8; have O8 := Lib.hid o8
  have HK6 := Lib.hid (Kp.trans HK5.out hk); have HQ6 := Lib.hid (Kp.trans HQ5.out hk)
  obtain ⟨no, nl, nc, rfl⟩ := s8.open3
  obtain ⟨zo, zl, zc, rfl⟩ := t8.open3
  clear hk c10 c11 c20 c21 s8 t8 m8 o8
  go_wp2_with fail
  refine (limited_n S8.out T8.out HL1.out HL2.out).mono ?_
  rintro e w9 ⟨rfl, hk⟩
  have s9 := S8.out.keep hk; have t9 := T8.out.keep hk
  have hT := HB3.out.keep (Kp.trans HK6.out hk)
  have q9 : Kp w2 w9 := Kp.trans HQ6.out hk
  have z5 := HK02.out.size; have z3 := HK5.out.size; have z6 := HQ5.out.size
  have mz := M8.out; have oz := O8.out
  have f0 := hT.free 0; have c0 := hT.c0; have f1 := (hT.set0 (.slice no nl nc)).free 1; have c1 := (hT.set0 (.slice no nl nc)).c1
  rw [← HPE.out] at s9 t9
  clear hk
  have hP := Put.made hT (.slice no nl nc) (.slice zo zl zc)
  have p0 := hP.two.c0; have p1 := hP.two.c1
  have FIN : MkR 0 P w (.returned (.tuple #[.agg #[.slice no nl nc, .slice zo zl zc], .int .i64 0])) _ := ⟨⟨_, _, rfl, s9.only hP.only (mz.offs (by have := HZ.out; omega) _), t9.only hP.only (oz.offs (by have := HZ.out; omega) _), mz.mono (by omega), oz.mono (by omega)⟩, hP.only.kp (Kp.trans HK02.out q9) (Nat.le_trans (Nat.le_succ _) (Nat.le_succ _))⟩
  have HF := Lib.hid FIN
  clear FIN hP hT
  go_wp2_with fail
  exact bodyPost_ret (by simp [results, Tryz.results12, go_sem, p0, p1]) rfl HF.out
set_option maxRecDepth 100000 in
theorem rCompareF_n {a b c d : Nat} {va vb vc vd : Value} {w : World} (hb0 : b ≠ 0) (hd0 : d ≠ 0) (la : (limbs a).length ≤ 8) (lb : (limbs b).length ≤ 8) (lc : (limbs c).length ≤ 8) (ld : (limbs d).length ≤ 8) (hab : Nat.gcd a b = 1) (hcd : Nat.gcd c d = 1)
    (ha : Sl w va (limbs a)) (hb : Sl w vb (limbs b)) (hcc : Sl w vc (limbs c)) (hd : Sl w vd (limbs d)) :
    Calls Tryz.prog 10 #[.agg #[va, vb], .agg #[vc, vd]] w fun e w' => e = .returned (.int .i64 (FracN.ord (a * d) (c * b))) ∧ Kp w w' := by
  obtain ⟨ao, al, ac, rfl⟩ := ha.open3
  obtain ⟨bo, bl, bc, rfl⟩ := hb.open3
  obtain ⟨co, cl, cc, rfl⟩ := hcc.open3
  obtain ⟨do', dl, dc, rfl⟩ := hd.open3
  obtain ⟨w1, hw1, HK1, HB1, hz1⟩ := box2 w 25 (.slice ao al ac) (.slice bo bl bc)
  obtain ⟨w2, hw2, HK2, HB2, hz2⟩ := box2 w1 25 (.slice co cl cc) (.slice do' dl dc)
  have hs1 : w1.heap.size = w.heap.size + 1 := by rw [hw1]; simp
  rw [hs1] at HB2
  have hk02 := Kp.trans HK1.out HK2.out
  have HK02 := Lib.hid hk02
  have HA := Lib.hid (ha.keep hk02); have HB := Lib.hid (hb.keep hk02); have HCC := Lib.hid (hcc.keep hk02); have HD := Lib.hid (hd.keep hk02)
  have HT1 := Lib.hid (HB1.out.keep HK2.out)
  have hw : w2 = (w.alloc (Obj.cells #[.slice ao al ac, .slice bo bl bc] 25)).alloc (Obj.cells #[.slice co cl cc, .slice do' dl dc] 25) := by rw [hw2, hw1]
  have c10 := HT1.out.c0; have c11 := HT1.out.c1
  rw [hw] at c10 c11
  have HW := Lib.hid hw
  have HOK1 := Lib.hid (frOk_n (len8 la) (len8 lb) hb0 hab); have HOK2 := Lib.hid (frOk_n (len8 lc) (len8 ld) hd0 hcd)
  obtain ⟨T, eT⟩ : ∃ T, T = FracN.ord (a * d) (c * b) := ⟨_, rfl⟩
  rw [← eT]
  have HTE := Lib.hid eT
  have HB0 := Lib.hid hb0; have HD0 := Lib.hid hd0; have LA := Lib.hid la; have LB := Lib.hid lb; have LC := Lib.hid lc; have LD := Lib.hid ld
  clear hw1 hw2 hs1 hk02 ha hb hcc hd hz1 hz2 hw HK1 HK2 HB1 hab hcd hb0 hd0 la lb lc ld eT
  go_enter Tryz.func10, Tryz.ntmps10
  go_wp2_with fail
  rw [← HW.out]
  refine (rCheck_any HA.out HB.out).mono ?_
  rintro e w4 ⟨rfl, hk⟩
  rw [HOK1.out]
  have HK4 := Lib.hid hk
  clear hk c10 c11
  have c20 := (HB2.out.keep HK4.out).c0; have c21 := (HB2.out.keep HK4.out).c1
  go_wp2_with fail
  refine (rCheck_any (HCC.out.keep HK4.out) (HD.out.keep HK4.out)).mono ?_
  rintro e w5 ⟨rfl, hk⟩
  rw [HOK2.out]
  have HK5 := Lib.hid (Kp.trans HK4.out hk)
  clear hk c20 c21
  have c10 := (HT1.out.keep HK5.out).c0; have c11 := (HT1.out.keep HK5.out).c1
  have c20 := (HB2.out.keep HK5.out).c0; have c21 := (HB2.out.keep HK5.out).c1
  go_wp2_with fail
  refine (rorderF_n HB0.out HD0.out LA.out LB.out LC.out LD.out (HA.out.keep HK5.out) (HB.out.keep HK5.out) (HCC.out.keep HK5.out) (HD.out.keep HK5.out)).mono ?_
  rw [← HTE.out]
  rintro e w6 ⟨rfl, hk⟩
  have HK6 := Lib.hid (Kp.trans HK02.out (Kp.trans HK5.out hk))
  clear hk c10 c11 c20 c21
  go_wp2_with fail
  go_ret
  exact ⟨rfl, HK6.out⟩
end Go.Proofs.YtgpochhndjadhaaGreatDoor
