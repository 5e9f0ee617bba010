/- The sum of two fractions. Conditions: the slices hold the numbers that are named, in lowest terms, and the sum in lowest terms has room. -/
import Derived.Test.YtfcpfmjoelhlnaaGreatDoorParts
namespace Go.Proofs.YtfcpfmjoelhlnaaGreatDoor
open Go.RowKit LimbN

set_option maxRecDepth 100000 in
theorem result_n {p : Nat} {no do' : Option Addr} {nl nc dl dc : Nat} {w : World} (hc : Cnt w p) :
    Calls Tryz.prog 70 #[.pointer (some ⟨p, 0, none⟩), .slice no nl nc, .slice do' dl dc] w fun e w' => e = .returned (.tuple #[.agg #[.slice no nl nc, .slice do' dl dc], .int .i64 0]) ∧ Kp w w' := by
  have hcc := (hc.keep (Kp.alloc (Kp.refl w) (Obj.cells #[Value.slice none 0 0, Value.slice none 0 0] 25))).c0
  clear hc
  go_enter Tryz.func70, Tryz.ntmps70
  go_wp2_with fail
  have hT := Two.new w 25 (.slice no nl nc) (.slice do' dl dc)
  have c0 := hT.c0
  have c1 := hT.c1
  exact bodyPost_ret (by simp [results, Tryz.results70, go_sem]) rfl ⟨rfl, Kp.alloc (Kp.refl _) _⟩
theorem Cnt.new (w : World) : Cnt (w.alloc (.cells #[.int .i64 0] 74 (0, 0))) w.heap.size := ⟨Array.getElem?_push_size⟩
/-- The world behind a calculation's own memory. -/
theorem startc (w : World) : ∃ w1, w1 = w.alloc (Obj.cells #[Value.int .i64 0] 74) ∧ Hid (Kp w w1) ∧ Hid (Cnt w1 w.heap.size) ∧ w.heap.size < w1.heap.size :=
  ⟨_, rfl, Kp.alloc (Kp.refl _) _, Cnt.new _, by simp⟩
set_option maxRecDepth 100000 in
set_option maxHeartbeats 1600000 in
theorem fadd_n {a b c d g fa fb k den : Nat} {va vb vc vd : Value} {w : World} (hp : PN a b c d g fa fb k den) (ha : Sl w va (limbs a)) (hb : Sl w vb (limbs b)) (hcc : Sl w vc (limbs c)) (hd : Sl w vd (limbs d)) :
    Calls Tryz.prog 61 #[.agg #[va, vb], .agg #[vc, vd]] w (MkR 0 ((a * fa + c * fb) / k, den) w) := by
  obtain ⟨ao, al, ac, rfl⟩ := ha.open3
  obtain ⟨bo, bl, bc, rfl⟩ := hb.open3
  obtain ⟨co, cl, cc, rfl⟩ := hcc.open3
  obtain ⟨do', dl, dc, rfl⟩ := hd.open3
  obtain ⟨w1, hw1, HK1, HB1, hz1⟩ := box2 w 25 (.slice ao al ac) (.slice bo bl bc)
  obtain ⟨w2, hw2, HK2, HB2, hz2⟩ := box2 w1 25 (.slice co cl cc) (.slice do' dl dc)
  obtain ⟨w3, hw3, HK3, HB3, hz3⟩ := start2 w2 25
  obtain ⟨w4, hw4, HK4, HC4, hz4⟩ := startc w3
  have hs1 : w1.heap.size = w.heap.size + 1 := by rw [hw1]; simp
  have hs2 : w2.heap.size = w.heap.size + 1 + 1 := by rw [hw2, ← hs1]; simp
  have hs3 : w3.heap.size = w.heap.size + 1 + 1 + 1 := by rw [hw3, ← hs2]; simp
  rw [hs1] at HB2
  rw [hs2] at HB3
  rw [hs3] at HC4
  have hk24 := Kp.trans HK3.out HK4.out
  have hk14 := Kp.trans HK2.out hk24
  have hk04 := Kp.trans HK1.out hk14
  have HK04 := Lib.hid hk04
  have HA := Lib.hid (ha.keep hk04); have HB := Lib.hid (hb.keep hk04); have HCC := Lib.hid (hcc.keep hk04); have HD := Lib.hid (hd.keep hk04)
  have HT1 := Lib.hid (HB1.out.keep hk14); have HT2 := Lib.hid (HB2.out.keep hk24); have HT3 := Lib.hid (HB3.out.keep HK4.out)
  have c10 := HT1.out.c0; have c11 := HT1.out.c1; have c20 := HT2.out.c0; have c21 := HT2.out.c1
  have hw : w4 = (((w.alloc (Obj.cells #[.slice ao al ac, .slice bo bl bc] 25)).alloc (Obj.cells #[.slice co cl cc, .slice do' dl dc] 25)).alloc (Obj.cells #[.slice none 0 0, .slice none 0 0] 25)).alloc (Obj.cells #[.int .i64 0] 74) := by rw [hw4, hw3, hw2, hw1]
  have hz : w.heap.size + 1 + 1 < w4.heap.size := by omega
  have HZ := Lib.hid hz
  rw [hw] at c10 c11 c20 c21
  have HW := Lib.hid hw
  have HP := Lib.hid hp
  clear hw1 hw2 hw3 hw4 hs1 hs2 hs3 hk24 hk14 hk04 ha hb hcc hd hz1 hz2 hz3 hz4 hz hw hp HK1 HK2 HK3 HK4 HB1 HB2 HB3
  go_enter Tryz.func61, Tryz.ntmps61
  go_wp2_with fail
  rw [← HW.out]
  refine (parts_n HP.out HC4.out HA.out HB.out HCC.out HD.out).mono ?_
  intro e w5 hq
  obtain ⟨⟨vx, vy, vz, rfl, h1, h2, h3, -, -, h6⟩, hk⟩ := hq
  have HX := Lib.hid h1; have HY := Lib.hid h2; have HV := Lib.hid h3; have HVN := Lib.hid h6; have HK5 := Lib.hid hk
  clear h1 h2 h3 h6 hk c10 c11 c20 c21
  go_wp2_with fail
  refine (add_n HX.out HY.out (by rw [HP.out.sum]; exact HP.out.lnum)).mono ?_
  intro e w6 hq
  rw [HP.out.sum] at hq
  obtain ⟨⟨vn, rfl, h1, h2⟩, hk⟩ := hq
  have HN := Lib.hid h1; have HNN := Lib.hid (h2.mono HK5.out.size); have HK6 := Lib.hid (Kp.trans HK5.out hk); have HV6 := Lib.hid (HV.out.keep hk)
  clear h1 h2 hk
  go_wp2_with fail
  refine (keep_n (HC4.out.keep HK6.out)).mono ?_
  rintro e w' ⟨rfl, rfl⟩
  obtain ⟨no, nl, nc, rfl⟩ := HN.out.open3
  obtain ⟨zo, zl, zc, rfl⟩ := HV6.out.open3
  go_wp2_with fail
  refine (result_n (HC4.out.keep HK6.out)).mono ?_
  rintro e w7 ⟨rfl, hk⟩
  have HK7 := Lib.hid (Kp.trans HK6.out hk); have HN7 := Lib.hid (HN.out.keep hk); have HV7 := Lib.hid (HV6.out.keep hk)
  have hT := HT3.out.keep HK7.out
  have hP := Put.made hT (.slice no nl nc) (.slice zo zl zc)
  obtain ⟨w8, hw8⟩ : ∃ w8, w8 = (w7.setCell ⟨w.heap.size + 1 + 1, 0, none⟩ (.slice no nl nc)).setCell ⟨w.heap.size + 1 + 1, 1, none⟩ (.slice zo zl zc) := ⟨_, rfl⟩
  rw [← hw8] at hP
  have HW8 := Lib.hid hw8
  have HPP := Lib.hid hP
  have f0 := hT.free 0
  have c0 := hT.c0
  have f1 := (hT.set0 (.slice no nl nc)).free 1
  have c1 := (hT.set0 (.slice no nl nc)).c1
  clear hT hw8 hP hk
  go_wp2_with fail
  have hP' := HPP.out
  rw [← HW8.out]
  clear c0 c1 f0 f1
  have c0 := hP'.two.c0
  have c1 := hP'.two.c1
  have FIN2 : MkR 0 ((a * fa + c * fb) / k, den) w (.returned (.tuple #[.agg #[.slice no nl nc, .slice zo zl zc], .int .i64 0])) w8 :=
    ⟨⟨_, _, rfl, HN7.out.only hP'.only (HNN.out.offs HZ.out _), HV7.out.only hP'.only (HVN.out.offs HZ.out _), HNN.out.mono HK04.out.size, HVN.out.mono HK04.out.size⟩, hP'.only.kp (Kp.trans HK04.out HK7.out) (Nat.le_trans (Nat.le_succ _) (Nat.le_succ _))⟩
  exact bodyPost_ret (by simp [results, Tryz.results61, go_sem, c0, c1]) rfl FIN2
end Go.Proofs.YtfcpfmjoelhlnaaGreatDoor
