/- The program's powers of numbers, with their error. Conditions: the slice holds the number that is named, and the exponent is at most 65536. -/
import Derived.Test.YtdoponlhiidimaaGreatDoorPow
import Derived.Test.YtdoponlhiidimaaGreatDoorMCa
import Derived.Test.YtdoponlhiidimaaGreatDoorTimes
namespace Go.Proofs.YtdoponlhiidimaaGreatDoor
open Go.RowKit LimbN
set_option linter.unusedVariables false
set_option linter.unusedSimpArgs false

theorem pow_E {a n : Nat} {va : Value} {w : World} (ha : Sl w va (limbs a)) (h1 : (limbs a).length ≤ 128) (hn : n ≤ 65536) : Calls Tryz.prog 19 #[va, .int .i64 n] w (OpN (lenE (a ^ n)) (lenV (a ^ n)) w) := by
  have := Pow_ok ha (wf_limbs h1) n hn
  rw [val_limbs] at this
  exact this.mono fun e w' h => OpN.got h
end Go.Proofs.YtdoponlhiidimaaGreatDoor

/- Powers of a well-formed fraction, or their error. Conditions: the slices hold the numbers that are named, in lowest terms, and the exponent is at most 65536. -/
namespace Go.Proofs.YtdoponlhiidimaaGreatDoor
open Go.RowKit LimbN
set_option linter.unusedVariables false
set_option linter.unusedSimpArgs false

set_option maxRecDepth 100000 in
set_option maxHeartbeats 4000000 in
theorem PowF_n {a b n : Nat} {va vb : Value} {w : World} (hb0 : b ≠ 0) (la : (limbs a).length ≤ 128) (lb : (limbs b).length ≤ 128) (hab : Nat.gcd a b = 1) (hn : n ≤ 65536) (ha : Sl w va (limbs a)) (hb : Sl w vb (limbs b)) :
    Calls Tryz.prog 5 #[.agg #[va, vb], .int .i64 n] w (MkR (fitE (a ^ n) (b ^ n)) (fitP (a ^ n) (b ^ n)) w) := by
  obtain ⟨ao, al, ac, rfl⟩ := ha.open3
  obtain ⟨bo, bl, bc, rfl⟩ := hb.open3
  obtain ⟨w1, hw1, HK1, HB1, hz1⟩ := box2 w 26 (.slice ao al ac) (.slice bo bl bc)
  obtain ⟨w3, hw3, HK3, HB3, hz3⟩ := start2 w1 26
  have hs1 : w1.heap.size = w.heap.size + 1 := by rw [hw1]; simp
  rw [hs1] at HB3
  have hk03 := Kp.trans HK1.out HK3.out
  have HK03 := Lib.hid hk03
  have HA := Lib.hid (ha.keep hk03); have HB := Lib.hid (hb.keep hk03)
  have HT1 := Lib.hid (HB1.out.keep HK3.out)
  have c10 := HT1.out.c0; have c11 := HT1.out.c1
  have hw : w3 = (w.alloc (Obj.cells #[.slice ao al ac, .slice bo bl bc] 26)).alloc (Obj.cells #[.slice none 0 0, .slice none 0 0] 26) := by rw [hw3, hw1]
  have HZ : Hid (w.heap.size + 1 < w3.heap.size) := by show _ < _; omega
  have HW := Lib.hid hw
  obtain ⟨E, hE⟩ : ∃ E, E = fitE (a ^ n) (b ^ n) := ⟨_, rfl⟩
  obtain ⟨P, hP⟩ : ∃ P, P = fitP (a ^ n) (b ^ n) := ⟨_, rfl⟩
  rw [← hE, ← hP]
  have HE := Lib.hid hE; have HPE := Lib.hid hP
  have HOK1 := Lib.hid (frOk_n la lb hb0 hab)
  have HB0 := Lib.hid hb0; have LA := Lib.hid la; have LB := Lib.hid lb; have HN6 := Lib.hid hn
  rw [hw] at c10 c11
  clear hw1 hw3 hs1 hk03 ha hb hz1 hz3 hw HK1 HK3 HB1 hb0 la lb hE hP hab
  go_enter Tryz.func5, Tryz.ntmps5
  go_wp2_with fail
  rw [← HW.out]
  refine (Check_any HA.out HB.out).mono ?_
  rintro e wq ⟨rfl, hk⟩
  rw [HOK1.out]
  obtain ⟨w6, hw6, HK6, HC6, hz6⟩ := startc wq
  have HKC := Lib.hid hk
  have HW6 := Lib.hid hw6
  have HZ6 := Lib.hid hz6
  clear hk c10 c11 hz6
  have HT1' := Lib.hid (HT1.out.keep HKC.out)
  have HA' := Lib.hid (HA.out.keep HKC.out); have HB' := Lib.hid (HB.out.keep HKC.out)
  clear HA HB HT1
  have HA := HA'; have HB := HB'; have HT1 := HT1'
  clear HA' HB' HT1'
  have c10 := (HT1.out.keep HK6.out).c0
  rw [hw6] at c10
  clear hw6
  go_wp2_with fail
  rw [← HW6.out] at c10 ⊢
  clear c10
  refine (pow_E (HA.out.keep HK6.out) LA.out HN6.out).mono ?_
  intro e w7 hq
  obtain ⟨⟨vp, rfl, h1, h2⟩, hk⟩ := hq
  have HP := Lib.hid h1; have HPN := Lib.hid h2; have HK7 := Lib.hid hk
  clear h1 h2 hk
  go_wp2_with fail
  refine (keep_any (HC6.out.cn.keep HK7.out)).mono ?_
  rintro e w8 ⟨rfl, hc8, ho8⟩
  have HC8 := Lib.hid hc8; have HO8 := Lib.hid ho8
  have HK8 := Lib.hid (Only.kp (Kp.trans HK6.out HK7.out) ho8 (Nat.le_refl _))
  have HP8 := Lib.hid (HP.out.only ho8 (HPN.out.offs HZ6.out _))
  clear hc8 ho8
  have c11 := (HT1.out.keep HK8.out).c1
  go_wp2_with fail
  clear c11
  refine (pow_E (HB.out.keep HK8.out) LB.out HN6.out).mono ?_
  intro e w9 hq
  obtain ⟨⟨vq, rfl, h1, h2⟩, hk⟩ := hq
  have HQ := Lib.hid h1; have HQN := Lib.hid (h2.mono (Nat.le_trans HK7.out.size (Nat.le_of_eq HO8.out.size))); have HK9 := Lib.hid hk; have HP9 := Lib.hid (HP8.out.keep hk)
  clear h1 h2 hk
  go_wp2_with fail
  refine (keep_any (HC8.out.keep HK9.out)).mono ?_
  rintro e wa ⟨rfl, hca, hoa⟩
  have HPA := Lib.hid (HP9.out.only hoa (HPN.out.offs HZ6.out _)); have HQA := Lib.hid (HQ.out.only hoa (HQN.out.offs HZ6.out _)); have HCA := Lib.hid hca
  have HKA := Lib.hid (Only.kp (Kp.trans HK8.out HK9.out) hoa (Nat.le_refl _))
  have hEE : firstE (firstE 0 (lenE (a ^ n))) (lenE (b ^ n)) = E := by rw [HE.out]; rfl
  rw [hEE] at HCA
  clear hca hoa hEE
  go_wp2_with fail
  refine (result_sl HCA.out HPA.out HQA.out HPN.out HQN.out).mono ?_
  rintro e wb ⟨⟨xn, xd, rfl, s1, s2, n1, n2⟩, hk⟩
  have HN7 := Lib.hid s1; have HV7 := Lib.hid s2; have HNN := Lib.hid n1; have HVN := Lib.hid n2
  have HK7 := Lib.hid (Kp.trans HKC.out (Kp.trans HKA.out hk))
  have HZB : Hid (w3.heap.size ≤ w6.heap.size) := Nat.le_trans HKC.out.size HK6.out.size
  obtain ⟨no, nl, nc, rfl⟩ := s1.open3
  obtain ⟨zo, zl, zc, rfl⟩ := s2.open3
  have hT := HB3.out.keep HK7.out
  have hP := Put.made hT (.slice no nl nc) (.slice zo zl zc)
  obtain ⟨wz, hwz⟩ : ∃ wz, wz = (wb.setCell ⟨w.heap.size + 1, 0, none⟩ (.slice no nl nc)).setCell ⟨w.heap.size + 1, 1, none⟩ (.slice zo zl zc) := ⟨_, rfl⟩
  rw [← hwz] at hP
  have HWZ := Lib.hid hwz
  have HPP := Lib.hid hP
  have f0 := hT.free 0
  have c0 := hT.c0
  have f1 := (hT.set0 (.slice no nl nc)).free 1
  have c1 := (hT.set0 (.slice no nl nc)).c1
  clear hT hwz hP hk s1 s2 n1 n2
  go_wp2_with fail
  have hP' := HPP.out
  rw [← HWZ.out]
  clear c0 c1 f0 f1
  have c0 := hP'.two.c0
  have c1 := hP'.two.c1
  have FIN2 : MkR E P w (.returned (.tuple #[.agg #[.slice no nl nc, .slice zo zl zc], .int .i64 E])) wz := by
    have hpe : P = (orNil E (lenV (a ^ n)), orNil E (lenV (b ^ n))) := by rw [HPE.out]; unfold fitP; rw [← HE.out]
    rw [hpe]
    exact ⟨⟨_, _, rfl, HN7.out.only hP'.only (HNN.out.offs (Nat.lt_of_lt_of_le HZ.out HZB.out) _), HV7.out.only hP'.only (HVN.out.offs (Nat.lt_of_lt_of_le HZ.out HZB.out) _), HNN.out.mono (Nat.le_trans HK03.out.size HZB.out), HVN.out.mono (Nat.le_trans HK03.out.size HZB.out)⟩, hP'.only.kp (Kp.trans HK03.out HK7.out) (Nat.le_succ _)⟩
  exact bodyPost_ret (by simp [results, Tryz.results5, go_sem, c0, c1]) rfl FIN2
end Go.Proofs.YtdoponlhiidimaaGreatDoor
