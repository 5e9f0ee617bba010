/- Mul of two well-formed fractions. Conditions: the slices hold the numbers that are named, in lowest terms. -/
import Derived.Test.YtgpochhndjadhaaGreatDoorTimes
namespace Go.Proofs.YtgpochhndjadhaaGreatDoor
open Go.RowKit LimbN
set_option linter.unusedVariables false
set_option linter.unusedSimpArgs false

set_option maxRecDepth 100000 in
set_option maxHeartbeats 1600000 in
theorem Mul_n {a b c d : Nat} {va vb vc vd : Value} {w : World} (hb0 : b ≠ 0) (hd0 : d ≠ 0) (la : (limbs a).length ≤ 128) (lb : (limbs b).length ≤ 128) (lc : (limbs c).length ≤ 128) (ld : (limbs d).length ≤ 128) (hab : Nat.gcd a b = 1) (hcd : Nat.gcd c d = 1) (ha : Sl w va (limbs a)) (hb : Sl w vb (limbs b)) (hcc : Sl w vc (limbs c)) (hd : Sl w vd (limbs d)) :
    Calls Tryz.prog 16 #[.agg #[va, vb], .agg #[vc, vd]] w (MkR (fitE ((FracN.low a d).1 * (FracN.low c b).1) ((FracN.low a d).2 * (FracN.low c b).2)) (fitP ((FracN.low a d).1 * (FracN.low c b).1) ((FracN.low a d).2 * (FracN.low c b).2)) w) := by
  obtain ⟨E, hE⟩ : ∃ E, E = fitE ((FracN.low a d).1 * (FracN.low c b).1) ((FracN.low a d).2 * (FracN.low c b).2) := ⟨_, rfl⟩
  obtain ⟨P, hP⟩ : ∃ P, P = fitP ((FracN.low a d).1 * (FracN.low c b).1) ((FracN.low a d).2 * (FracN.low c b).2) := ⟨_, rfl⟩
  rw [← hE, ← hP]
  have HE := Lib.hid hE; have HPE := Lib.hid hP
  have HB0 := Lib.hid hb0; have HD0 := Lib.hid hd0; have LA := Lib.hid la; have LB := Lib.hid lb; have LC := Lib.hid lc; have LD := Lib.hid ld
  obtain ⟨ao, al, ac, rfl⟩ := ha.open3
  obtain ⟨bo, bl, bc, rfl⟩ := hb.open3
  obtain ⟨co, cl, cc, rfl⟩ := hcc.open3
  obtain ⟨do', dl, dc, rfl⟩ := hd.open3
  obtain ⟨w1, hw1, HK1, HB1, hz1⟩ := box2 w 25 (.slice ao al ac) (.slice bo bl bc)
  obtain ⟨w2, hw2, HK2, HB2, hz2⟩ := box2 w1 25 (.slice co cl cc) (.slice do' dl dc)
  obtain ⟨w3, hw3, HK3, HB3, hz3⟩ := start2 w2 25
  have hs1 : w1.heap.size = w.heap.size + 1 := by rw [hw1]; simp
  have hs2 : w2.heap.size = w.heap.size + 1 + 1 := by rw [hw2, ← hs1]; simp
  rw [hs1] at HB2
  rw [hs2] at HB3
  have hk13 := Kp.trans HK2.out HK3.out
  have hk03 := Kp.trans HK1.out hk13
  have HK03 := Lib.hid hk03
  have HA := Lib.hid (ha.keep hk03); have HB := Lib.hid (hb.keep hk03); have HCC := Lib.hid (hcc.keep hk03); have HD := Lib.hid (hd.keep hk03)
  have HT1 := Lib.hid (HB1.out.keep hk13); have HT2 := Lib.hid (HB2.out.keep HK3.out)
  have c10 := HT1.out.c0; have c11 := HT1.out.c1
  have hw : w3 = ((w.alloc (Obj.cells #[.slice ao al ac, .slice bo bl bc] 25)).alloc (Obj.cells #[.slice co cl cc, .slice do' dl dc] 25)).alloc (Obj.cells #[.slice none 0 0, .slice none 0 0] 25) := by rw [hw3, hw2, hw1]
  have HZ : Hid (w.heap.size + 1 + 1 < w3.heap.size) := by show _ < _; omega
  rw [hw] at c10 c11
  have HW := Lib.hid hw
  have HOK1 := Lib.hid (frOk_n la lb hb0 hab); have HOK2 := Lib.hid (frOk_n lc ld hd0 hcd)
  clear hw1 hw2 hw3 hs1 hs2 hk13 hk03 ha hb hcc hd hz1 hz2 hz3 hw HK1 HK2 HK3 HB1 HB2 hab hcd hb0 hd0 la lb lc ld hE hP
  go_enter Tryz.func16, Tryz.ntmps16
  go_wp2_with fail
  rw [← HW.out]
  refine (Check_any HA.out HB.out).mono ?_
  rintro e w4 ⟨rfl, hk⟩
  rw [HOK1.out]
  have HK4 := Lib.hid hk
  clear hk c10 c11
  have c20 := (HT2.out.keep HK4.out).c0; have c21 := (HT2.out.keep HK4.out).c1
  go_wp2_with fail
  refine (Check_any (HCC.out.keep HK4.out) (HD.out.keep HK4.out)).mono ?_
  rintro e w5 ⟨rfl, hk⟩
  rw [HOK2.out]
  have HK5 := Lib.hid (Kp.trans HK4.out hk)
  clear hk c20 c21
  have c10 := (HT1.out.keep HK5.out).c0; have c11 := (HT1.out.keep HK5.out).c1
  have c20 := (HT2.out.keep HK5.out).c0; have c21 := (HT2.out.keep HK5.out).c1
  go_wp2_with fail
  refine (multiply_any HB0.out HD0.out LA.out LB.out LC.out LD.out (HA.out.keep HK5.out) (HB.out.keep HK5.out) (HCC.out.keep HK5.out) (HD.out.keep HK5.out)).mono ?_
  rw [← HE.out, ← HPE.out]
  intro e w7 hq
  obtain ⟨⟨vn, vz, rfl, h1, h2, h3, h4⟩, hk⟩ := hq
  have HS := Lib.hid (Nat.le_trans HK03.out.size HK5.out.size)
  have HK7 := Lib.hid (Kp.trans HK5.out hk); have HN7 := Lib.hid h1; have HV7 := Lib.hid h2; have HNN := Lib.hid (h3.mono HK5.out.size); have HVN := Lib.hid (h4.mono HK5.out.size)
  clear h1 h2 h3 h4 hk c10 c11 c20 c21
  obtain ⟨no, nl, nc, rfl⟩ := HN7.out.open3
  obtain ⟨zo, zl, zc, rfl⟩ := HV7.out.open3
  have hT := HB3.out.keep HK7.out
  have hP := Put.made hT (.slice no nl nc) (.slice zo zl zc)
  obtain ⟨w8, hw8⟩ : ∃ w8, w8 = (w7.setCell ⟨w.heap.size + 1 + 1, 0, none⟩ (.slice no nl nc)).setCell ⟨w.heap.size + 1 + 1, 1, none⟩ (.slice zo zl zc) := ⟨_, rfl⟩
  rw [← hw8] at hP
  have HW8 := Lib.hid hw8
  have HPP := Lib.hid hP
  have f0 := hT.free 0
  have c0 := hT.c0
  have f1 := (hT.set0 (.slice no nl nc)).free 1
  have c1 := (hT.set0 (.slice no nl nc)).c1
  clear hT hw8 hP
  go_wp2_with fail
  have hP' := HPP.out
  rw [← HW8.out]
  clear c0 c1 f0 f1
  have c0 := hP'.two.c0
  have c1 := hP'.two.c1
  have FIN2 : MkR E P w (.returned (.tuple #[.agg #[.slice no nl nc, .slice zo zl zc], .int .i64 E])) w8 :=
    ⟨⟨_, _, rfl, HN7.out.only hP'.only (HNN.out.offs HZ.out _), HV7.out.only hP'.only (HVN.out.offs HZ.out _), HNN.out.mono HK03.out.size, HVN.out.mono HK03.out.size⟩, hP'.only.kp (Kp.trans HK03.out HK7.out) (Nat.le_trans (Nat.le_succ _) (Nat.le_succ _))⟩
  exact bodyPost_ret (by simp [results, Tryz.results16, go_sem, c0, c1]) rfl FIN2
theorem Mul_low {a b c d : Nat} {va vb vc vd : Value} {w : World} (hb0 : b ≠ 0) (hd0 : d ≠ 0) (la : (limbs a).length ≤ 128) (lb : (limbs b).length ≤ 128) (lc : (limbs c).length ≤ 128) (ld : (limbs d).length ≤ 128) (hab : Nat.gcd a b = 1) (hcd : Nat.gcd c d = 1)
    (h1 : (limbs (FracN.low (a * c) (b * d)).1).length ≤ 128) (h2 : (limbs (FracN.low (a * c) (b * d)).2).length ≤ 128) (ha : Sl w va (limbs a)) (hb : Sl w vb (limbs b)) (hcc : Sl w vc (limbs c)) (hd : Sl w vd (limbs d)) :
    Calls Tryz.prog 16 #[.agg #[va, vb], .agg #[vc, vd]] w (MkR 0 (FracN.low (a * c) (b * d)) w) := by
  have e := FracN.cross_eq (Nat.pos_of_ne_zero hb0) (Nat.pos_of_ne_zero hd0) hab hcd
  have := Mul_n hb0 hd0 la lb lc ld hab hcd ha hb hcc hd
  rw [e] at h1 h2 ⊢
  rwa [fitE_ok h1 h2, fitP_ok h1 h2] at this
end Go.Proofs.YtgpochhndjadhaaGreatDoor

/- Div of two well-formed fractions, the second one not 0. Conditions: the slices hold the numbers that are named, in lowest terms. -/
namespace Go.Proofs.YtgpochhndjadhaaGreatDoor
open Go.RowKit LimbN
set_option linter.unusedVariables false
set_option linter.unusedSimpArgs false

set_option maxRecDepth 100000 in
set_option maxHeartbeats 1600000 in
theorem Div_n {a b c d : Nat} {va vb vc vd : Value} {w : World} (hb0 : b ≠ 0) (hd0 : d ≠ 0) (hc0 : c ≠ 0) (la : (limbs a).length ≤ 128) (lb : (limbs b).length ≤ 128) (lc : (limbs c).length ≤ 128) (ld : (limbs d).length ≤ 128) (hab : Nat.gcd a b = 1) (hcd : Nat.gcd c d = 1) (ha : Sl w va (limbs a)) (hb : Sl w vb (limbs b)) (hcc : Sl w vc (limbs c)) (hd : Sl w vd (limbs d)) :
    Calls Tryz.prog 18 #[.agg #[va, vb], .agg #[vc, vd]] w (MkR (fitE ((FracN.low a c).1 * (FracN.low d b).1) ((FracN.low a c).2 * (FracN.low d b).2)) (fitP ((FracN.low a c).1 * (FracN.low d b).1) ((FracN.low a c).2 * (FracN.low d b).2)) w) := by
  obtain ⟨E, hE⟩ : ∃ E, E = fitE ((FracN.low a c).1 * (FracN.low d b).1) ((FracN.low a c).2 * (FracN.low d b).2) := ⟨_, rfl⟩
  obtain ⟨P, hP⟩ : ∃ P, P = fitP ((FracN.low a c).1 * (FracN.low d b).1) ((FracN.low a c).2 * (FracN.low d b).2) := ⟨_, rfl⟩
  rw [← hE, ← hP]
  have HE := Lib.hid hE; have HPE := Lib.hid hP
  have HB0 := Lib.hid hb0; have HD0 := Lib.hid hd0; have LA := Lib.hid la; have LB := Lib.hid lb; have LC := Lib.hid lc; have LD := Lib.hid ld
  obtain ⟨ao, al, ac, rfl⟩ := ha.open3
  obtain ⟨bo, bl, bc, rfl⟩ := hb.open3
  obtain ⟨co, cc, rfl, -⟩ := hcc.ex
  obtain ⟨cl, hcl⟩ : ∃ cl, cl = (limbs c).length := ⟨_, rfl⟩
  have hlz : ((cl : Int) == 0) = false := beq_eq_false_iff_ne.2 (by rw [hcl]; intro h; exact hc0 (limbs_len_zero.1 (by omega)))
  rw [← hcl] at hcc ⊢
  clear hcl
  have HC0 := Lib.hid hc0
  obtain ⟨do', dl, dc, rfl⟩ := hd.open3
  obtain ⟨w1, hw1, HK1, HB1, hz1⟩ := box2 w 25 (.slice ao al ac) (.slice bo bl bc)
  obtain ⟨w2, hw2, HK2, HB2, hz2⟩ := box2 w1 25 (.slice co cl cc) (.slice do' dl dc)
  obtain ⟨w3, hw3, HK3, HB3, hz3⟩ := start2 w2 25
  have hs1 : w1.heap.size = w.heap.size + 1 := by rw [hw1]; simp
  have hs2 : w2.heap.size = w.heap.size + 1 + 1 := by rw [hw2, ← hs1]; simp
  rw [hs1] at HB2
  rw [hs2] at HB3
  have hk13 := Kp.trans HK2.out HK3.out
  have hk03 := Kp.trans HK1.out hk13
  have HK03 := Lib.hid hk03
  have HA := Lib.hid (ha.keep hk03); have HB := Lib.hid (hb.keep hk03); have HCC := Lib.hid (hcc.keep hk03); have HD := Lib.hid (hd.keep hk03)
  have HT1 := Lib.hid (HB1.out.keep hk13); have HT2 := Lib.hid (HB2.out.keep HK3.out)
  have c10 := HT1.out.c0; have c11 := HT1.out.c1
  have hw : w3 = ((w.alloc (Obj.cells #[.slice ao al ac, .slice bo bl bc] 25)).alloc (Obj.cells #[.slice co cl cc, .slice do' dl dc] 25)).alloc (Obj.cells #[.slice none 0 0, .slice none 0 0] 25) := by rw [hw3, hw2, hw1]
  have HZ : Hid (w.heap.size + 1 + 1 < w3.heap.size) := by show _ < _; omega
  rw [hw] at c10 c11
  have HW := Lib.hid hw
  have HOK1 := Lib.hid (frOk_n la lb hb0 hab); have HOK2 := Lib.hid (frOk_n lc ld hd0 hcd)
  clear hw1 hw2 hw3 hs1 hs2 hk13 hk03 ha hb hcc hd hz1 hz2 hz3 hw HK1 HK2 HK3 HB1 HB2 hab hcd hb0 hd0 hc0 la lb lc ld hE hP
  go_enter Tryz.func18, Tryz.ntmps18
  go_wp2_with fail
  rw [← HW.out]
  refine (Check_any HA.out HB.out).mono ?_
  rintro e w4 ⟨rfl, hk⟩
  rw [HOK1.out]
  have HK4 := Lib.hid hk
  clear hk c10 c11
  have c20 := (HT2.out.keep HK4.out).c0; have c21 := (HT2.out.keep HK4.out).c1
  go_wp2_with fail
  refine (Check_any (HCC.out.keep HK4.out) (HD.out.keep HK4.out)).mono ?_
  rintro e w5 ⟨rfl, hk⟩
  rw [HOK2.out]
  have HK5 := Lib.hid (Kp.trans HK4.out hk)
  clear hk c20 c21
  have c10 := (HT1.out.keep HK5.out).c0; have c11 := (HT1.out.keep HK5.out).c1
  have c20 := (HT2.out.keep HK5.out).c0; have c21 := (HT2.out.keep HK5.out).c1
  go_wp2_with fail
  refine (multiply_any HB0.out HC0.out LA.out LB.out LD.out LC.out (HA.out.keep HK5.out) (HB.out.keep HK5.out) (HD.out.keep HK5.out) (HCC.out.keep HK5.out)).mono ?_
  rw [← HE.out, ← HPE.out]
  intro e w7 hq
  obtain ⟨⟨vn, vz, rfl, h1, h2, h3, h4⟩, hk⟩ := hq
  have HS := Lib.hid (Nat.le_trans HK03.out.size HK5.out.size)
  have HK7 := Lib.hid (Kp.trans HK5.out hk); have HN7 := Lib.hid h1; have HV7 := Lib.hid h2; have HNN := Lib.hid (h3.mono HK5.out.size); have HVN := Lib.hid (h4.mono HK5.out.size)
  clear h1 h2 h3 h4 hk c10 c11 c20 c21
  obtain ⟨no, nl, nc, rfl⟩ := HN7.out.open3
  obtain ⟨zo, zl, zc, rfl⟩ := HV7.out.open3
  have hT := HB3.out.keep HK7.out
  have hP := Put.made hT (.slice no nl nc) (.slice zo zl zc)
  obtain ⟨w8, hw8⟩ : ∃ w8, w8 = (w7.setCell ⟨w.heap.size + 1 + 1, 0, none⟩ (.slice no nl nc)).setCell ⟨w.heap.size + 1 + 1, 1, none⟩ (.slice zo zl zc) := ⟨_, rfl⟩
  rw [← hw8] at hP
  have HW8 := Lib.hid hw8
  have HPP := Lib.hid hP
  have f0 := hT.free 0
  have c0 := hT.c0
  have f1 := (hT.set0 (.slice no nl nc)).free 1
  have c1 := (hT.set0 (.slice no nl nc)).c1
  clear hT hw8 hP
  go_wp2_with fail
  have hP' := HPP.out
  rw [← HW8.out]
  clear c0 c1 f0 f1
  have c0 := hP'.two.c0
  have c1 := hP'.two.c1
  have FIN2 : MkR E P w (.returned (.tuple #[.agg #[.slice no nl nc, .slice zo zl zc], .int .i64 E])) w8 :=
    ⟨⟨_, _, rfl, HN7.out.only hP'.only (HNN.out.offs HZ.out _), HV7.out.only hP'.only (HVN.out.offs HZ.out _), HNN.out.mono HK03.out.size, HVN.out.mono HK03.out.size⟩, hP'.only.kp (Kp.trans HK03.out HK7.out) (Nat.le_trans (Nat.le_succ _) (Nat.le_succ _))⟩
  exact bodyPost_ret (by simp [results, Tryz.results18, go_sem, c0, c1]) rfl FIN2
theorem Div_low {a b c d : Nat} {va vb vc vd : Value} {w : World} (hb0 : b ≠ 0) (hd0 : d ≠ 0) (hc0 : c ≠ 0) (la : (limbs a).length ≤ 128) (lb : (limbs b).length ≤ 128) (lc : (limbs c).length ≤ 128) (ld : (limbs d).length ≤ 128) (hab : Nat.gcd a b = 1) (hcd : Nat.gcd c d = 1)
    (h1 : (limbs (FracN.low (a * d) (b * c)).1).length ≤ 128) (h2 : (limbs (FracN.low (a * d) (b * c)).2).length ≤ 128) (ha : Sl w va (limbs a)) (hb : Sl w vb (limbs b)) (hcc : Sl w vc (limbs c)) (hd : Sl w vd (limbs d)) :
    Calls Tryz.prog 18 #[.agg #[va, vb], .agg #[vc, vd]] w (MkR 0 (FracN.low (a * d) (b * c)) w) := by
  have e := FracN.cross_eq (Nat.pos_of_ne_zero hb0) (Nat.pos_of_ne_zero hc0) hab ((Nat.gcd_comm d c).trans hcd)
  have := Div_n hb0 hd0 hc0 la lb lc ld hab hcd ha hb hcc hd
  rw [e] at h1 h2 ⊢
  rwa [fitE_ok h1 h2, fitP_ok h1 h2] at this
end Go.Proofs.YtgpochhndjadhaaGreatDoor
