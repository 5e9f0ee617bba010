/- The reference's lowest terms. Conditions: the slices hold the numbers that are named, of at most 1000 limbs. -/
import Derived.Test.YtfcpfmjoelhlnaaGreatDoorFrac
import Derived.Test.YtfcpfmjoelhlnaaGreatDoorRDivide
namespace Go.Proofs.YtfcpfmjoelhlnaaGreatDoor
open Go.RowKit LimbN

set_option maxRecDepth 100000 in
set_option maxHeartbeats 800000 in
theorem lowest_n {a b : Nat} {va vb : Value} {w : World} (ha : Sl w va (limbs a)) (hb : Sl w vb (limbs b)) (h1 : (limbs a).length ≤ 1000) (h2 : (limbs b).length ≤ 1000) (h0 : b ≠ 0) :
    Calls Tryz.prog 51 #[va, vb] w (FrR (FracN.low a b) w) := by
  have HA := Lib.hid ha; have HB := Lib.hid hb; have H1 := Lib.hid h1; have H2 := Lib.hid h2; have H0 := Lib.hid h0
  clear ha hb h1 h2 h0
  go_enter Tryz.func51, Tryz.ntmps51
  go_wp2_with fail
  have hk1 : Kp w (w.alloc (Obj.cells #[Value.slice none 0 0, Value.slice none 0 0] 25)) := Kp.alloc (Kp.refl _) _
  obtain ⟨w1, hw1⟩ : ∃ w1, w1 = w.alloc (Obj.cells #[Value.slice none 0 0, Value.slice none 0 0] 25) := ⟨_, rfl⟩
  have hB : Two w1 w.heap.size 25 (Value.slice none 0 0) (Value.slice none 0 0) := by rw [hw1]; exact Two.new _ _ _ _
  have hz1 : w.heap.size < w1.heap.size := by rw [hw1]; simp
  rw [← hw1] at hk1 ⊢
  have HK1 := Lib.hid hk1; have HBB := Lib.hid hB
  clear hk1 hw1 hB
  refine (Common_any (HA.out.keep HK1.out) (HB.out.keep HK1.out) H1.out H2.out).mono ?_
  intro e w2 hq
  obtain ⟨⟨vg, rfl, h1, h2⟩, hk⟩ := hq
  have HG := Lib.hid h1; have HK2 := Lib.hid hk; clear h1 h2 hk
  have HG0 : Hid (Nat.gcd a b ≠ 0) := Nat.ne_of_gt (Nat.gcd_pos_of_pos_right _ (Nat.pos_of_ne_zero H0.out))
  go_wp2_with fail
  refine (Split_any ((HA.out.keep HK1.out).keep HK2.out) HG.out H1.out HG0.out).mono ?_
  intro e w3 hq
  obtain ⟨⟨vn, vr, rfl, h1, -, h2, -⟩, hk⟩ := hq
  have HN := Lib.hid h1; have HNN := Lib.hid h2; have HK3 := Lib.hid hk; clear h1 h2 hk
  go_wp2_with fail
  refine (Split_any (((HB.out.keep HK1.out).keep HK2.out).keep HK3.out) (HG.out.keep HK3.out) H2.out HG0.out).mono ?_
  intro e w4 hq
  obtain ⟨⟨vd, vs, rfl, h1, -, h2, -⟩, hk⟩ := hq
  have HD := Lib.hid h1; have HDN := Lib.hid h2; have HK4 := Lib.hid hk; clear h1 h2 hk
  obtain ⟨no, nl, nc, rfl⟩ := HN.out.open3
  obtain ⟨do', dl, dc, rfl⟩ := HD.out.open3
  have hT := ((HBB.out.keep HK2.out).keep HK3.out).keep HK4.out
  have hP := Lib.hid (Put.made hT (.slice no nl nc) (.slice do' dl dc))
  have f0 := hT.free 0
  have c0 := hT.c0
  have f1 := (hT.set0 (.slice no nl nc)).free 1
  have c1 := (hT.set0 (.slice no nl nc)).c1
  clear hT
  go_wp2_with fail
  have hP' := hP.out
  obtain ⟨w5, hw5⟩ : ∃ w5, w5 = (w4.setCell ⟨w.heap.size, 0, none⟩ (.slice no nl nc)).setCell ⟨w.heap.size, 1, none⟩ (.slice do' dl dc) := ⟨_, rfl⟩
  rw [← hw5] at hP' ⊢
  clear hw5 hP c0 c1 f0 f1
  have c0 := hP'.two.c0
  have c1 := hP'.two.c1
  have hk4 : Kp w1 w4 := Kp.trans (Kp.trans HK2.out HK3.out) HK4.out
  have FIN2 : FrR (FracN.low a b) w (.returned (.agg #[.slice no nl nc, .slice do' dl dc])) w5 :=
    ⟨⟨_, _, rfl, (HN.out.keep HK4.out).only hP'.only (HNN.out.offs (Nat.lt_of_lt_of_le hz1 HK2.out.size) _), HD.out.only hP'.only (HDN.out.offs (Nat.lt_of_lt_of_le hz1 (Nat.le_trans HK2.out.size HK3.out.size)) _), HNN.out.mono (Nat.le_trans HK1.out.size HK2.out.size), HDN.out.mono (Nat.le_trans HK1.out.size (Nat.le_trans HK2.out.size HK3.out.size))⟩, hP'.only.kp (Kp.trans HK1.out hk4) (Nat.le_refl _)⟩
  exact bodyPost_ret (by simp [results, Tryz.results51, go_sem, c0, c1]) rfl FIN2
end Go.Proofs.YtfcpfmjoelhlnaaGreatDoor
