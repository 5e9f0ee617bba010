/- Differences below 0, quotients by 0, and the reference's sums and differences. Conditions: the slices hold the numbers that are named, of at most 8 limbs, in lowest terms. -/
import Derived.Test.YtdoponlhiidimaaGreatDoorMBn
namespace Go.Proofs.YtdoponlhiidimaaGreatDoor
open Go.RowKit LimbN
set_option maxRecDepth 100000 in
set_option maxHeartbeats 2000000 in
theorem rAddF_n {a b c d : Nat} {va vb vc vd : Value} {w : World} (hb0 : b ≠ 0) (hd0 : d ≠ 0) (la : (limbs a).length ≤ 8) (lb : (limbs b).length ≤ 8) (lc : (limbs c).length ≤ 8) (ld : (limbs d).length ≤ 8) (hab : Nat.gcd a b = 1) (hcd : Nat.gcd c d = 1) (ha : Sl w va (limbs a)) (hb : Sl w vb (limbs b)) (hcc : Sl w vc (limbs c)) (hd : Sl w vd (limbs d)) :
    Calls Tryz.prog 34 #[.agg #[va, vb], .agg #[vc, vd]] w (MkR 0 (FracN.low (a * d + c * b) (b * d)) w) := by
  have HL1 : Hid ((limbs (FracN.low (a * d + c * b) (b * d)).1).length ≤ 128) := Nat.le_trans (limbs_mono (FracN.low_le_self _ _).1) (Nat.le_trans (add_len (mul_len la ld) (mul_len lc lb)) (by decide))
  have HL2 : Hid ((limbs (FracN.low (a * d + c * b) (b * d)).2).length ≤ 128) := Nat.le_trans (limbs_mono (FracN.low_le_self _ _).2) (Nat.le_trans (mul_len lb ld) (by decide))
  have LN : Hid ((limbs (a * d + c * b)).length ≤ 1000) := Nat.le_trans (add_len (mul_len la ld) (mul_len lc lb)) (by decide)
  have LDD : Hid ((limbs (b * d)).length ≤ 1000) := Nat.le_trans (mul_len lb ld) (by decide)
  have HNE : Hid (b * d ≠ 0) := Nat.ne_of_gt (Nat.mul_pos (Nat.pos_of_ne_zero hb0) (Nat.pos_of_ne_zero hd0))
  obtain ⟨P, hP⟩ : ∃ P, P = FracN.low (a * d + c * b) (b * d) := ⟨_, rfl⟩
  rw [← hP]
  have HPE := Lib.hid hP
  clear hP
  obtain ⟨ao, al, ac, rfl⟩ := ha.open3
  obtain ⟨bo, bl, bc, rfl⟩ := hb.open3
  obtain ⟨co, cl, cc, rfl⟩ := hcc.open3
  obtain ⟨do', dl, dc, rfl⟩ := hd.open3
  obtain ⟨w1, hw1, HK1, HB1, hz1⟩ := box2 w 26 (.slice ao al ac) (.slice bo bl bc)
  obtain ⟨w2, hw2, HK2, HB2, hz2⟩ := box2 w1 26 (.slice co cl cc) (.slice do' dl dc)
  have hs1 : w1.heap.size = w.heap.size + 1 := by rw [hw1]; simp
  have hs2 : w2.heap.size = w.heap.size + 1 + 1 := by rw [hw2, ← hs1]; simp
  rw [hs1] at HB2
  have HSZ := Lib.hid hs2
  have hk02 := Kp.trans HK1.out HK2.out
  have HK02 := Lib.hid hk02
  have HA := Lib.hid (ha.keep hk02); have HB := Lib.hid (hb.keep hk02); have HCC := Lib.hid (hcc.keep hk02); have HD := Lib.hid (hd.keep hk02)
  have HT1 := Lib.hid (HB1.out.keep HK2.out); have HT2 := Lib.hid HB2.out
  obtain ⟨w3, hw3, HK3, HB3, hz3⟩ := start2 w2 26
  rw [hs2] at HB3
  have hw : w3 = ((w.alloc (Obj.cells #[.slice ao al ac, .slice bo bl bc] 26)).alloc (Obj.cells #[.slice co cl cc, .slice do' dl dc] 26)).alloc (Obj.cells #[.slice none 0 0, .slice none 0 0] 26) := by rw [hw3, hw2, hw1]
  have HW := Lib.hid hw
  have HB0 := Lib.hid hb0; have HD0 := Lib.hid hd0; have LA := Lib.hid la; have LB := Lib.hid lb; have LC := Lib.hid lc; have LD := Lib.hid ld
  have HZ : Hid (w.heap.size + 1 + 1 < w3.heap.size) := by show _ < _; omega
  have HOK1 := Lib.hid (frOk_n (len8 la) (len8 lb) hb0 hab); have HOK2 := Lib.hid (frOk_n (len8 lc) (len8 ld) hd0 hcd)
  have c10 := (HT1.out.keep HK3.out).c0; have c11 := (HT1.out.keep HK3.out).c1
  rw [hw] at c10 c11
  clear hw1 hw2 hw3 hs1 hs2 hk02 ha hb hcc hd hz1 hz2 hz3 hab hcd hw HK1 HK2 HB1 HB2 hb0 hd0 la lb lc ld
  go_enter Tryz.func34, Tryz.ntmps34
  go_wp2_with fail
  rw [← HW.out]
  refine (rCheck_any (HA.out.keep HK3.out) (HB.out.keep HK3.out)).mono ?_
  rintro e w4 ⟨rfl, hk⟩
  rw [HOK1.out]
  have HK4 := Lib.hid hk; have HQ4 := Lib.hid (Kp.trans HK3.out hk)
  clear hk c10 c11
  have c20 := (HT2.out.keep HQ4.out).c0; have c21 := (HT2.out.keep HQ4.out).c1
  go_wp2_with fail
  refine (rCheck_any (HCC.out.keep HQ4.out) (HD.out.keep HQ4.out)).mono ?_
  rintro e w5 ⟨rfl, hk⟩
  rw [HOK2.out]
  have HK5 := Lib.hid (Kp.trans HK4.out hk); have HQ5 := Lib.hid (Kp.trans HQ4.out hk)
  clear hk c20 c21
  have c10 := (HT1.out.keep HQ5.out).c0; have c11 := (HT1.out.keep HQ5.out).c1; have c20 := (HT2.out.keep HQ5.out).c0; have c21 := (HT2.out.keep HQ5.out).c1
  go_wp2_with fail
  refine (rplusF_n HB0.out HD0.out LA.out LB.out LC.out LD.out (HA.out.keep HQ5.out) (HB.out.keep HQ5.out) (HCC.out.keep HQ5.out) (HD.out.keep HQ5.out)).mono ?_
  intro e w6 hq
  obtain ⟨⟨vn, vd, rfl, s8, t8, m8, o8⟩, hk⟩ := hq
  have S8 := Lib.hid s8; have T8 := Lib.hid t8; have M8 := Lib.hid m8; have O8 := Lib.hid o8
  have HK6 := Lib.hid (Kp.trans HK5.out hk); have HQ6 := Lib.hid (Kp.trans HQ5.out hk)
  obtain ⟨no, nl, nc, rfl⟩ := s8.open3
  obtain ⟨zo, zl, zc, rfl⟩ := t8.open3
  clear hk c10 c11 c20 c21 s8 t8 m8 o8
  go_wp2_with fail
  refine (limited_n S8.out T8.out HL1.out HL2.out).mono ?_
  rintro e w9 ⟨rfl, hk⟩
  have s9 := S8.out.keep hk; have t9 := T8.out.keep hk
  have hT := HB3.out.keep (Kp.trans HK6.out hk)
  have q9 : Kp w2 w9 := Kp.trans HQ6.out hk
  have z5 := HK02.out.size; have z3 := HK5.out.size; have z6 := HQ5.out.size
  have mz := M8.out; have oz := O8.out
  have f0 := hT.free 0; have c0 := hT.c0; have f1 := (hT.set0 (.slice no nl nc)).free 1; have c1 := (hT.set0 (.slice no nl nc)).c1
  rw [← HPE.out] at s9 t9
  clear hk
  have hP := Put.made hT (.slice no nl nc) (.slice zo zl zc)
  have p0 := hP.two.c0; have p1 := hP.two.c1
  have FIN : MkR 0 P w (.returned (.tuple #[.agg #[.slice no nl nc, .slice zo zl zc], .int .i64 0])) _ := ⟨⟨_, _, rfl, s9.only hP.only (mz.offs (by have := HZ.out; omega) _), t9.only hP.only (oz.offs (by have := HZ.out; omega) _), mz.mono (by omega), oz.mono (by omega)⟩, hP.only.kp (Kp.trans HK02.out q9) (Nat.le_trans (Nat.le_succ _) (Nat.le_succ _))⟩
  have HF := Lib.hid FIN
  clear FIN hP hT
  go_wp2_with fail
  exact bodyPost_ret (by simp [results, Tryz.results34, go_sem, p0, p1]) rfl HF.out
end Go.Proofs.YtdoponlhiidimaaGreatDoor
