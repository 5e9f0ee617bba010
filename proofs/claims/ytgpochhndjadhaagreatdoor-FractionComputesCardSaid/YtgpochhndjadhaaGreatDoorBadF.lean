/- The operations of fractions that are not well-formed, on both sides. Condition: the slices hold the digits that are named. -/
import Derived.Test.YtgpochhndjadhaaGreatDoorTimes
namespace Go.Proofs.YtgpochhndjadhaaGreatDoor
open Go.RowKit LimbN
set_option linter.unusedVariables false
set_option linter.unusedSimpArgs false

set_option maxRecDepth 100000 in
theorem Add_bad {xs ys us vs : List Nat} {va vb vc vd : Value} {w : World} (ha : Sl w va xs) (hb : Sl w vb ys) (hcc : Sl w vc us) (hd : Sl w vd vs) (h : frOk xs ys = false ∨ (frOk xs ys = true ∧ frOk us vs = false)) :
    Calls Tryz.prog 11 #[.agg #[va, vb], .agg #[vc, vd]] w (MkR 1 (0, 0) w) := by
  obtain ⟨ao, al, ac, rfl⟩ := ha.open3
  obtain ⟨bo, bl, bc, rfl⟩ := hb.open3
  obtain ⟨co, cl, cc, rfl⟩ := hcc.open3
  obtain ⟨do', dl, dc, rfl⟩ := hd.open3
  obtain ⟨w1, hw1, HK1, HB1, hz1⟩ := box2 w 25 (.slice ao al ac) (.slice bo bl bc)
  obtain ⟨w2, hw2, HK2, HB2, hz2⟩ := box2 w1 25 (.slice co cl cc) (.slice do' dl dc)
  obtain ⟨w3, hw3, HK3, HB3, hz3⟩ := start2 w2 25
  have hs1 : w1.heap.size = w.heap.size + 1 := by rw [hw1]; simp
  have hs2 : w2.heap.size = w.heap.size + 1 + 1 := by rw [hw2, ← hs1]; simp
  rw [hs2] at HB3
  rw [hs1] at HB2
  have hk13 := Kp.trans HK2.out HK3.out
  have hk03 := Kp.trans HK1.out hk13
  have HK03 := Lib.hid hk03
  have HA := Lib.hid (ha.keep hk03); have HB := Lib.hid (hb.keep hk03); have HCC := Lib.hid (hcc.keep hk03); have HD := Lib.hid (hd.keep hk03)
  have HT1 := Lib.hid (HB1.out.keep hk13); have HT2 := Lib.hid (HB2.out.keep HK3.out)
  have c10 := HT1.out.c0; have c11 := HT1.out.c1
  have hw : w3 = ((w.alloc (Obj.cells #[.slice ao al ac, .slice bo bl bc] 25)).alloc (Obj.cells #[.slice co cl cc, .slice do' dl dc] 25)).alloc (Obj.cells #[.slice none 0 0, .slice none 0 0] 25) := by rw [hw3, hw2, hw1]
  rw [hw] at c10 c11
  have HW := Lib.hid hw
  have HH := Lib.hid h
  clear hw1 hw2 hw3 hs2 hz3 HK3 hs1 hk13 hk03 ha hb hcc hd hz1 hz2 hw HK1 HK2 HB1 h
  go_enter Tryz.func11, Tryz.ntmps11
  go_wp2_with fail
  rw [← HW.out]
  refine (Check_any HA.out HB.out).mono ?_
  rintro e w4 ⟨rfl, hk⟩
  have HK4 := Lib.hid hk
  clear hk c10 c11
  rcases HH.out with h1 | ⟨h1, h2⟩
  · rw [h1]
    clear h1
    have hT := HB3.out.keep HK4.out
    have hP := Put.made hT (.slice none 0 0) (.slice none 0 0)
    obtain ⟨w8, hw8⟩ : ∃ w8, w8 = (w4.setCell ⟨w.heap.size + 1 + 1, 0, none⟩ (.slice none 0 0)).setCell ⟨w.heap.size + 1 + 1, 1, none⟩ (.slice none 0 0) := ⟨_, rfl⟩
    rw [← hw8] at hP
    have HW8 := Lib.hid hw8
    have HPP := Lib.hid hP
    have f0 := hT.free 0
    have c0 := hT.c0
    have f1 := (hT.set0 (.slice none 0 0)).free 1
    have c1 := (hT.set0 (.slice none 0 0)).c1
    clear hT hw8 hP
    go_wp2_with fail
    have hP' := HPP.out
    rw [← HW8.out]
    clear c0 c1 f0 f1
    have c0 := hP'.two.c0
    have c1 := hP'.two.c1
    have FIN2 : MkR 1 (0, 0) w (.returned (.tuple #[.agg #[.slice none 0 0, .slice none 0 0], .int .i64 1])) w8 :=
      ⟨⟨_, _, rfl, Sl.nil _, Sl.nil _, New.nil _, New.nil _⟩, hP'.only.kp (Kp.trans HK03.out HK4.out) (Nat.le_trans (Nat.le_succ _) (Nat.le_succ _))⟩
    exact bodyPost_ret (by simp [results, Tryz.results11, go_sem, c0, c1]) rfl FIN2
  · rw [h1]
    have H2 := Lib.hid h2
    have c20 := (HT2.out.keep HK4.out).c0; have c21 := (HT2.out.keep HK4.out).c1
    clear h1 h2
    go_wp2_with fail
    refine (Check_any (HCC.out.keep HK4.out) (HD.out.keep HK4.out)).mono ?_
    rintro e w5 ⟨rfl, hk⟩
    rw [H2.out]
    have HK5 := Lib.hid (Kp.trans HK4.out hk)
    clear hk c20 c21
    have hT := HB3.out.keep HK5.out
    have hP := Put.made hT (.slice none 0 0) (.slice none 0 0)
    obtain ⟨w8, hw8⟩ : ∃ w8, w8 = (w5.setCell ⟨w.heap.size + 1 + 1, 0, none⟩ (.slice none 0 0)).setCell ⟨w.heap.size + 1 + 1, 1, none⟩ (.slice none 0 0) := ⟨_, rfl⟩
    rw [← hw8] at hP
    have HW8 := Lib.hid hw8
    have HPP := Lib.hid hP
    have f0 := hT.free 0
    have c0 := hT.c0
    have f1 := (hT.set0 (.slice none 0 0)).free 1
    have c1 := (hT.set0 (.slice none 0 0)).c1
    clear hT hw8 hP
    go_wp2_with fail
    have hP' := HPP.out
    rw [← HW8.out]
    clear c0 c1 f0 f1
    have c0 := hP'.two.c0
    have c1 := hP'.two.c1
    have FIN2 : MkR 1 (0, 0) w (.returned (.tuple #[.agg #[.slice none 0 0, .slice none 0 0], .int .i64 1])) w8 :=
      ⟨⟨_, _, rfl, Sl.nil _, Sl.nil _, New.nil _, New.nil _⟩, hP'.only.kp (Kp.trans HK03.out HK5.out) (Nat.le_trans (Nat.le_succ _) (Nat.le_succ _))⟩
    exact bodyPost_ret (by simp [results, Tryz.results11, go_sem, c0, c1]) rfl FIN2

set_option maxRecDepth 100000 in
theorem rAdd_bad {xs ys us vs : List Nat} {va vb vc vd : Value} {w : World} (ha : Sl w va xs) (hb : Sl w vb ys) (hcc : Sl w vc us) (hd : Sl w vd vs) (h : frOk xs ys = false ∨ (frOk xs ys = true ∧ frOk us vs = false)) :
    Calls Tryz.prog 12 #[.agg #[va, vb], .agg #[vc, vd]] w (MkR 1 (0, 0) w) := by
  obtain ⟨ao, al, ac, rfl⟩ := ha.open3
  obtain ⟨bo, bl, bc, rfl⟩ := hb.open3
  obtain ⟨co, cl, cc, rfl⟩ := hcc.open3
  obtain ⟨do', dl, dc, rfl⟩ := hd.open3
  obtain ⟨w1, hw1, HK1, HB1, hz1⟩ := box2 w 25 (.slice ao al ac) (.slice bo bl bc)
  obtain ⟨w2, hw2, HK2, HB2, hz2⟩ := box2 w1 25 (.slice co cl cc) (.slice do' dl dc)
  obtain ⟨w3, hw3, HK3, HB3, hz3⟩ := start2 w2 25
  have hs1 : w1.heap.size = w.heap.size + 1 := by rw [hw1]; simp
  have hs2 : w2.heap.size = w.heap.size + 1 + 1 := by rw [hw2, ← hs1]; simp
  rw [hs2] at HB3
  rw [hs1] at HB2
  have hk13 := Kp.trans HK2.out HK3.out
  have hk03 := Kp.trans HK1.out hk13
  have HK03 := Lib.hid hk03
  have HA := Lib.hid (ha.keep hk03); have HB := Lib.hid (hb.keep hk03); have HCC := Lib.hid (hcc.keep hk03); have HD := Lib.hid (hd.keep hk03)
  have HT1 := Lib.hid (HB1.out.keep hk13); have HT2 := Lib.hid (HB2.out.keep HK3.out)
  have c10 := HT1.out.c0; have c11 := HT1.out.c1
  have hw : w3 = ((w.alloc (Obj.cells #[.slice ao al ac, .slice bo bl bc] 25)).alloc (Obj.cells #[.slice co cl cc, .slice do' dl dc] 25)).alloc (Obj.cells #[.slice none 0 0, .slice none 0 0] 25) := by rw [hw3, hw2, hw1]
  rw [hw] at c10 c11
  have HW := Lib.hid hw
  have HH := Lib.hid h
  clear hw1 hw2 hw3 hs2 hz3 HK3 hs1 hk13 hk03 ha hb hcc hd hz1 hz2 hw HK1 HK2 HB1 h
  go_enter Tryz.func12, Tryz.ntmps12
  go_wp2_with fail
  rw [← HW.out]
  refine (rCheck_any HA.out HB.out).mono ?_
  rintro e w4 ⟨rfl, hk⟩
  have HK4 := Lib.hid hk
  clear hk c10 c11
  rcases HH.out with h1 | ⟨h1, h2⟩
  · rw [h1]
    clear h1
    have hT := HB3.out.keep HK4.out
    have hP := Put.made hT (.slice none 0 0) (.slice none 0 0)
    obtain ⟨w8, hw8⟩ : ∃ w8, w8 = (w4.setCell ⟨w.heap.size + 1 + 1, 0, none⟩ (.slice none 0 0)).setCell ⟨w.heap.size + 1 + 1, 1, none⟩ (.slice none 0 0) := ⟨_, rfl⟩
    rw [← hw8] at hP
    have HW8 := Lib.hid hw8
    have HPP := Lib.hid hP
    have f0 := hT.free 0
    have c0 := hT.c0
    have f1 := (hT.set0 (.slice none 0 0)).free 1
    have c1 := (hT.set0 (.slice none 0 0)).c1
    clear hT hw8 hP
    go_wp2_with fail
    have hP' := HPP.out
    rw [← HW8.out]
    clear c0 c1 f0 f1
    have c0 := hP'.two.c0
    have c1 := hP'.two.c1
    have FIN2 : MkR 1 (0, 0) w (.returned (.tuple #[.agg #[.slice none 0 0, .slice none 0 0], .int .i64 1])) w8 :=
      ⟨⟨_, _, rfl, Sl.nil _, Sl.nil _, New.nil _, New.nil _⟩, hP'.only.kp (Kp.trans HK03.out HK4.out) (Nat.le_trans (Nat.le_succ _) (Nat.le_succ _))⟩
    exact bodyPost_ret (by simp [results, Tryz.results12, go_sem, c0, c1]) rfl FIN2
  · rw [h1]
    have H2 := Lib.hid h2
    have c20 := (HT2.out.keep HK4.out).c0; have c21 := (HT2.out.keep HK4.out).c1
    clear h1 h2
    go_wp2_with fail
    refine (rCheck_any (HCC.out.keep HK4.out) (HD.out.keep HK4.out)).mono ?_
    rintro e w5 ⟨rfl, hk⟩
    rw [H2.out]
    have HK5 := Lib.hid (Kp.trans HK4.out hk)
    clear hk c20 c21
    have hT := HB3.out.keep HK5.out
    have hP := Put.made hT (.slice none 0 0) (.slice none 0 0)
    obtain ⟨w8, hw8⟩ : ∃ w8, w8 = (w5.setCell ⟨w.heap.size + 1 + 1, 0, none⟩ (.slice none 0 0)).setCell ⟨w.heap.size + 1 + 1, 1, none⟩ (.slice none 0 0) := ⟨_, rfl⟩
    rw [← hw8] at hP
    have HW8 := Lib.hid hw8
    have HPP := Lib.hid hP
    have f0 := hT.free 0
    have c0 := hT.c0
    have f1 := (hT.set0 (.slice none 0 0)).free 1
    have c1 := (hT.set0 (.slice none 0 0)).c1
    clear hT hw8 hP
    go_wp2_with fail
    have hP' := HPP.out
    rw [← HW8.out]
    clear c0 c1 f0 f1
    have c0 := hP'.two.c0
    have c1 := hP'.two.c1
    have FIN2 : MkR 1 (0, 0) w (.returned (.tuple #[.agg #[.slice none 0 0, .slice none 0 0], .int .i64 1])) w8 :=
      ⟨⟨_, _, rfl, Sl.nil _, Sl.nil _, New.nil _, New.nil _⟩, hP'.only.kp (Kp.trans HK03.out HK5.out) (Nat.le_trans (Nat.le_succ _) (Nat.le_succ _))⟩
    exact bodyPost_ret (by simp [results, Tryz.results12, go_sem, c0, c1]) rfl FIN2

set_option maxRecDepth 100000 in
theorem Sub_bad {xs ys us vs : List Nat} {va vb vc vd : Value} {w : World} (ha : Sl w va xs) (hb : Sl w vb ys) (hcc : Sl w vc us) (hd : Sl w vd vs) (h : frOk xs ys = false ∨ (frOk xs ys = true ∧ frOk us vs = false)) :
    Calls Tryz.prog 14 #[.agg #[va, vb], .agg #[vc, vd]] w (MkR 1 (0, 0) w) := by
  obtain ⟨ao, al, ac, rfl⟩ := ha.open3
  obtain ⟨bo, bl, bc, rfl⟩ := hb.open3
  obtain ⟨co, cl, cc, rfl⟩ := hcc.open3
  obtain ⟨do', dl, dc, rfl⟩ := hd.open3
  obtain ⟨w1, hw1, HK1, HB1, hz1⟩ := box2 w 25 (.slice ao al ac) (.slice bo bl bc)
  obtain ⟨w2, hw2, HK2, HB2, hz2⟩ := box2 w1 25 (.slice co cl cc) (.slice do' dl dc)
  obtain ⟨w3, hw3, HK3, HB3, hz3⟩ := start2 w2 25
  have hs1 : w1.heap.size = w.heap.size + 1 := by rw [hw1]; simp
  have hs2 : w2.heap.size = w.heap.size + 1 + 1 := by rw [hw2, ← hs1]; simp
  rw [hs2] at HB3
  rw [hs1] at HB2
  have hk13 := Kp.trans HK2.out HK3.out
  have hk03 := Kp.trans HK1.out hk13
  have HK03 := Lib.hid hk03
  have HA := Lib.hid (ha.keep hk03); have HB := Lib.hid (hb.keep hk03); have HCC := Lib.hid (hcc.keep hk03); have HD := Lib.hid (hd.keep hk03)
  have HT1 := Lib.hid (HB1.out.keep hk13); have HT2 := Lib.hid (HB2.out.keep HK3.out)
  have c10 := HT1.out.c0; have c11 := HT1.out.c1
  have hw : w3 = ((w.alloc (Obj.cells #[.slice ao al ac, .slice bo bl bc] 25)).alloc (Obj.cells #[.slice co cl cc, .slice do' dl dc] 25)).alloc (Obj.cells #[.slice none 0 0, .slice none 0 0] 25) := by rw [hw3, hw2, hw1]
  rw [hw] at c10 c11
  have HW := Lib.hid hw
  have HH := Lib.hid h
  clear hw1 hw2 hw3 hs2 hz3 HK3 hs1 hk13 hk03 ha hb hcc hd hz1 hz2 hw HK1 HK2 HB1 h
  go_enter Tryz.func14, Tryz.ntmps14
  go_wp2_with fail
  rw [← HW.out]
  refine (Check_any HA.out HB.out).mono ?_
  rintro e w4 ⟨rfl, hk⟩
  have HK4 := Lib.hid hk
  clear hk c10 c11
  rcases HH.out with h1 | ⟨h1, h2⟩
  · rw [h1]
    clear h1
    have hT := HB3.out.keep HK4.out
    have hP := Put.made hT (.slice none 0 0) (.slice none 0 0)
    obtain ⟨w8, hw8⟩ : ∃ w8, w8 = (w4.setCell ⟨w.heap.size + 1 + 1, 0, none⟩ (.slice none 0 0)).setCell ⟨w.heap.size + 1 + 1, 1, none⟩ (.slice none 0 0) := ⟨_, rfl⟩
    rw [← hw8] at hP
    have HW8 := Lib.hid hw8
    have HPP := Lib.hid hP
    have f0 := hT.free 0
    have c0 := hT.c0
    have f1 := (hT.set0 (.slice none 0 0)).free 1
    have c1 := (hT.set0 (.slice none 0 0)).c1
    clear hT hw8 hP
    go_wp2_with fail
    have hP' := HPP.out
    rw [← HW8.out]
    clear c0 c1 f0 f1
    have c0 := hP'.two.c0
    have c1 := hP'.two.c1
    have FIN2 : MkR 1 (0, 0) w (.returned (.tuple #[.agg #[.slice none 0 0, .slice none 0 0], .int .i64 1])) w8 :=
      ⟨⟨_, _, rfl, Sl.nil _, Sl.nil _, New.nil _, New.nil _⟩, hP'.only.kp (Kp.trans HK03.out HK4.out) (Nat.le_trans (Nat.le_succ _) (Nat.le_succ _))⟩
    exact bodyPost_ret (by simp [results, Tryz.results14, go_sem, c0, c1]) rfl FIN2
  · rw [h1]
    have H2 := Lib.hid h2
    have c20 := (HT2.out.keep HK4.out).c0; have c21 := (HT2.out.keep HK4.out).c1
    clear h1 h2
    go_wp2_with fail
    refine (Check_any (HCC.out.keep HK4.out) (HD.out.keep HK4.out)).mono ?_
    rintro e w5 ⟨rfl, hk⟩
    rw [H2.out]
    have HK5 := Lib.hid (Kp.trans HK4.out hk)
    clear hk c20 c21
    have hT := HB3.out.keep HK5.out
    have hP := Put.made hT (.slice none 0 0) (.slice none 0 0)
    obtain ⟨w8, hw8⟩ : ∃ w8, w8 = (w5.setCell ⟨w.heap.size + 1 + 1, 0, none⟩ (.slice none 0 0)).setCell ⟨w.heap.size + 1 + 1, 1, none⟩ (.slice none 0 0) := ⟨_, rfl⟩
    rw [← hw8] at hP
    have HW8 := Lib.hid hw8
    have HPP := Lib.hid hP
    have f0 := hT.free 0
    have c0 := hT.c0
    have f1 := (hT.set0 (.slice none 0 0)).free 1
    have c1 := (hT.set0 (.slice none 0 0)).c1
    clear hT hw8 hP
    go_wp2_with fail
    have hP' := HPP.out
    rw [← HW8.out]
    clear c0 c1 f0 f1
    have c0 := hP'.two.c0
    have c1 := hP'.two.c1
    have FIN2 : MkR 1 (0, 0) w (.returned (.tuple #[.agg #[.slice none 0 0, .slice none 0 0], .int .i64 1])) w8 :=
      ⟨⟨_, _, rfl, Sl.nil _, Sl.nil _, New.nil _, New.nil _⟩, hP'.only.kp (Kp.trans HK03.out HK5.out) (Nat.le_trans (Nat.le_succ _) (Nat.le_succ _))⟩
    exact bodyPost_ret (by simp [results, Tryz.results14, go_sem, c0, c1]) rfl FIN2

set_option maxRecDepth 100000 in
theorem rSub_bad {xs ys us vs : List Nat} {va vb vc vd : Value} {w : World} (ha : Sl w va xs) (hb : Sl w vb ys) (hcc : Sl w vc us) (hd : Sl w vd vs) (h : frOk xs ys = false ∨ (frOk xs ys = true ∧ frOk us vs = false)) :
    Calls Tryz.prog 15 #[.agg #[va, vb], .agg #[vc, vd]] w (MkR 1 (0, 0) w) := by
  obtain ⟨ao, al, ac, rfl⟩ := ha.open3
  obtain ⟨bo, bl, bc, rfl⟩ := hb.open3
  obtain ⟨co, cl, cc, rfl⟩ := hcc.open3
  obtain ⟨do', dl, dc, rfl⟩ := hd.open3
  obtain ⟨w1, hw1, HK1, HB1, hz1⟩ := box2 w 25 (.slice ao al ac) (.slice bo bl bc)
  obtain ⟨w2, hw2, HK2, HB2, hz2⟩ := box2 w1 25 (.slice co cl cc) (.slice do' dl dc)
  obtain ⟨w3, hw3, HK3, HB3, hz3⟩ := start2 w2 25
  have hs1 : w1.heap.size = w.heap.size + 1 := by rw [hw1]; simp
  have hs2 : w2.heap.size = w.heap.size + 1 + 1 := by rw [hw2, ← hs1]; simp
  rw [hs2] at HB3
  rw [hs1] at HB2
  have hk13 := Kp.trans HK2.out HK3.out
  have hk03 := Kp.trans HK1.out hk13
  have HK03 := Lib.hid hk03
  have HA := Lib.hid (ha.keep hk03); have HB := Lib.hid (hb.keep hk03); have HCC := Lib.hid (hcc.keep hk03); have HD := Lib.hid (hd.keep hk03)
  have HT1 := Lib.hid (HB1.out.keep hk13); have HT2 := Lib.hid (HB2.out.keep HK3.out)
  have c10 := HT1.out.c0; have c11 := HT1.out.c1
  have hw : w3 = ((w.alloc (Obj.cells #[.slice ao al ac, .slice bo bl bc] 25)).alloc (Obj.cells #[.slice co cl cc, .slice do' dl dc] 25)).alloc (Obj.cells #[.slice none 0 0, .slice none 0 0] 25) := by rw [hw3, hw2, hw1]
  rw [hw] at c10 c11
  have HW := Lib.hid hw
  have HH := Lib.hid h
  clear hw1 hw2 hw3 hs2 hz3 HK3 hs1 hk13 hk03 ha hb hcc hd hz1 hz2 hw HK1 HK2 HB1 h
  go_enter Tryz.func15, Tryz.ntmps15
  go_wp2_with fail
  rw [← HW.out]
  refine (rCheck_any HA.out HB.out).mono ?_
  rintro e w4 ⟨rfl, hk⟩
  have HK4 := Lib.hid hk
  clear hk c10 c11
  rcases HH.out with h1 | ⟨h1, h2⟩
  · rw [h1]
    clear h1
    have hT := HB3.out.keep HK4.out
    have hP := Put.made hT (.slice none 0 0) (.slice none 0 0)
    obtain ⟨w8, hw8⟩ : ∃ w8, w8 = (w4.setCell ⟨w.heap.size + 1 + 1, 0, none⟩ (.slice none 0 0)).setCell ⟨w.heap.size + 1 + 1, 1, none⟩ (.slice none 0 0) := ⟨_, rfl⟩
    rw [← hw8] at hP
    have HW8 := Lib.hid hw8
    have HPP := Lib.hid hP
    have f0 := hT.free 0
    have c0 := hT.c0
    have f1 := (hT.set0 (.slice none 0 0)).free 1
    have c1 := (hT.set0 (.slice none 0 0)).c1
    clear hT hw8 hP
    go_wp2_with fail
    have hP' := HPP.out
    rw [← HW8.out]
    clear c0 c1 f0 f1
    have c0 := hP'.two.c0
    have c1 := hP'.two.c1
    have FIN2 : MkR 1 (0, 0) w (.returned (.tuple #[.agg #[.slice none 0 0, .slice none 0 0], .int .i64 1])) w8 :=
      ⟨⟨_, _, rfl, Sl.nil _, Sl.nil _, New.nil _, New.nil _⟩, hP'.only.kp (Kp.trans HK03.out HK4.out) (Nat.le_trans (Nat.le_succ _) (Nat.le_succ _))⟩
    exact bodyPost_ret (by simp [results, Tryz.results15, go_sem, c0, c1]) rfl FIN2
  · rw [h1]
    have H2 := Lib.hid h2
    have c20 := (HT2.out.keep HK4.out).c0; have c21 := (HT2.out.keep HK4.out).c1
    clear h1 h2
    go_wp2_with fail
    refine (rCheck_any (HCC.out.keep HK4.out) (HD.out.keep HK4.out)).mono ?_
    rintro e w5 ⟨rfl, hk⟩
    rw [H2.out]
    have HK5 := Lib.hid (Kp.trans HK4.out hk)
    clear hk c20 c21
    have hT := HB3.out.keep HK5.out
    have hP := Put.made hT (.slice none 0 0) (.slice none 0 0)
    obtain ⟨w8, hw8⟩ : ∃ w8, w8 = (w5.setCell ⟨w.heap.size + 1 + 1, 0, none⟩ (.slice none 0 0)).setCell ⟨w.heap.size + 1 + 1, 1, none⟩ (.slice none 0 0) := ⟨_, rfl⟩
    rw [← hw8] at hP
    have HW8 := Lib.hid hw8
    have HPP := Lib.hid hP
    have f0 := hT.free 0
    have c0 := hT.c0
    have f1 := (hT.set0 (.slice none 0 0)).free 1
    have c1 := (hT.set0 (.slice none 0 0)).c1
    clear hT hw8 hP
    go_wp2_with fail
    have hP' := HPP.out
    rw [← HW8.out]
    clear c0 c1 f0 f1
    have c0 := hP'.two.c0
    have c1 := hP'.two.c1
    have FIN2 : MkR 1 (0, 0) w (.returned (.tuple #[.agg #[.slice none 0 0, .slice none 0 0], .int .i64 1])) w8 :=
      ⟨⟨_, _, rfl, Sl.nil _, Sl.nil _, New.nil _, New.nil _⟩, hP'.only.kp (Kp.trans HK03.out HK5.out) (Nat.le_trans (Nat.le_succ _) (Nat.le_succ _))⟩
    exact bodyPost_ret (by simp [results, Tryz.results15, go_sem, c0, c1]) rfl FIN2

set_option maxRecDepth 100000 in
theorem Mul_bad {xs ys us vs : List Nat} {va vb vc vd : Value} {w : World} (ha : Sl w va xs) (hb : Sl w vb ys) (hcc : Sl w vc us) (hd : Sl w vd vs) (h : frOk xs ys = false ∨ (frOk xs ys = true ∧ frOk us vs = false)) :
    Calls Tryz.prog 16 #[.agg #[va, vb], .agg #[vc, vd]] w (MkR 1 (0, 0) w) := by
  obtain ⟨ao, al, ac, rfl⟩ := ha.open3
  obtain ⟨bo, bl, bc, rfl⟩ := hb.open3
  obtain ⟨co, cl, cc, rfl⟩ := hcc.open3
  obtain ⟨do', dl, dc, rfl⟩ := hd.open3
  obtain ⟨w1, hw1, HK1, HB1, hz1⟩ := box2 w 25 (.slice ao al ac) (.slice bo bl bc)
  obtain ⟨w2, hw2, HK2, HB2, hz2⟩ := box2 w1 25 (.slice co cl cc) (.slice do' dl dc)
  obtain ⟨w3, hw3, HK3, HB3, hz3⟩ := start2 w2 25
  have hs1 : w1.heap.size = w.heap.size + 1 := by rw [hw1]; simp
  have hs2 : w2.heap.size = w.heap.size + 1 + 1 := by rw [hw2, ← hs1]; simp
  rw [hs2] at HB3
  rw [hs1] at HB2
  have hk13 := Kp.trans HK2.out HK3.out
  have hk03 := Kp.trans HK1.out hk13
  have HK03 := Lib.hid hk03
  have HA := Lib.hid (ha.keep hk03); have HB := Lib.hid (hb.keep hk03); have HCC := Lib.hid (hcc.keep hk03); have HD := Lib.hid (hd.keep hk03)
  have HT1 := Lib.hid (HB1.out.keep hk13); have HT2 := Lib.hid (HB2.out.keep HK3.out)
  have c10 := HT1.out.c0; have c11 := HT1.out.c1
  have hw : w3 = ((w.alloc (Obj.cells #[.slice ao al ac, .slice bo bl bc] 25)).alloc (Obj.cells #[.slice co cl cc, .slice do' dl dc] 25)).alloc (Obj.cells #[.slice none 0 0, .slice none 0 0] 25) := by rw [hw3, hw2, hw1]
  rw [hw] at c10 c11
  have HW := Lib.hid hw
  have HH := Lib.hid h
  clear hw1 hw2 hw3 hs2 hz3 HK3 hs1 hk13 hk03 ha hb hcc hd hz1 hz2 hw HK1 HK2 HB1 h
  go_enter Tryz.func16, Tryz.ntmps16
  go_wp2_with fail
  rw [← HW.out]
  refine (Check_any HA.out HB.out).mono ?_
  rintro e w4 ⟨rfl, hk⟩
  have HK4 := Lib.hid hk
  clear hk c10 c11
  rcases HH.out with h1 | ⟨h1, h2⟩
  · rw [h1]
    clear h1
    have hT := HB3.out.keep HK4.out
    have hP := Put.made hT (.slice none 0 0) (.slice none 0 0)
    obtain ⟨w8, hw8⟩ : ∃ w8, w8 = (w4.setCell ⟨w.heap.size + 1 + 1, 0, none⟩ (.slice none 0 0)).setCell ⟨w.heap.size + 1 + 1, 1, none⟩ (.slice none 0 0) := ⟨_, rfl⟩
    rw [← hw8] at hP
    have HW8 := Lib.hid hw8
    have HPP := Lib.hid hP
    have f0 := hT.free 0
    have c0 := hT.c0
    have f1 := (hT.set0 (.slice none 0 0)).free 1
    have c1 := (hT.set0 (.slice none 0 0)).c1
    clear hT hw8 hP
    go_wp2_with fail
    have hP' := HPP.out
    rw [← HW8.out]
    clear c0 c1 f0 f1
    have c0 := hP'.two.c0
    have c1 := hP'.two.c1
    have FIN2 : MkR 1 (0, 0) w (.returned (.tuple #[.agg #[.slice none 0 0, .slice none 0 0], .int .i64 1])) w8 :=
      ⟨⟨_, _, rfl, Sl.nil _, Sl.nil _, New.nil _, New.nil _⟩, hP'.only.kp (Kp.trans HK03.out HK4.out) (Nat.le_trans (Nat.le_succ _) (Nat.le_succ _))⟩
    exact bodyPost_ret (by simp [results, Tryz.results16, go_sem, c0, c1]) rfl FIN2
  · rw [h1]
    have H2 := Lib.hid h2
    have c20 := (HT2.out.keep HK4.out).c0; have c21 := (HT2.out.keep HK4.out).c1
    clear h1 h2
    go_wp2_with fail
    refine (Check_any (HCC.out.keep HK4.out) (HD.out.keep HK4.out)).mono ?_
    rintro e w5 ⟨rfl, hk⟩
    rw [H2.out]
    have HK5 := Lib.hid (Kp.trans HK4.out hk)
    clear hk c20 c21
    have hT := HB3.out.keep HK5.out
    have hP := Put.made hT (.slice none 0 0) (.slice none 0 0)
    obtain ⟨w8, hw8⟩ : ∃ w8, w8 = (w5.setCell ⟨w.heap.size + 1 + 1, 0, none⟩ (.slice none 0 0)).setCell ⟨w.heap.size + 1 + 1, 1, none⟩ (.slice none 0 0) := ⟨_, rfl⟩
    rw [← hw8] at hP
    have HW8 := Lib.hid hw8
    have HPP := Lib.hid hP
    have f0 := hT.free 0
    have c0 := hT.c0
    have f1 := (hT.set0 (.slice none 0 0)).free 1
    have c1 := (hT.set0 (.slice none 0 0)).c1
    clear hT hw8 hP
    go_wp2_with fail
    have hP' := HPP.out
    rw [← HW8.out]
    clear c0 c1 f0 f1
    have c0 := hP'.two.c0
    have c1 := hP'.two.c1
    have FIN2 : MkR 1 (0, 0) w (.returned (.tuple #[.agg #[.slice none 0 0, .slice none 0 0], .int .i64 1])) w8 :=
      ⟨⟨_, _, rfl, Sl.nil _, Sl.nil _, New.nil _, New.nil _⟩, hP'.only.kp (Kp.trans HK03.out HK5.out) (Nat.le_trans (Nat.le_succ _) (Nat.le_succ _))⟩
    exact bodyPost_ret (by simp [results, Tryz.results16, go_sem, c0, c1]) rfl FIN2

set_option maxRecDepth 100000 in
theorem rMul_bad {xs ys us vs : List Nat} {va vb vc vd : Value} {w : World} (ha : Sl w va xs) (hb : Sl w vb ys) (hcc : Sl w vc us) (hd : Sl w vd vs) (h : frOk xs ys = false ∨ (frOk xs ys = true ∧ frOk us vs = false)) :
    Calls Tryz.prog 17 #[.agg #[va, vb], .agg #[vc, vd]] w (MkR 1 (0, 0) w) := by
  obtain ⟨ao, al, ac, rfl⟩ := ha.open3
  obtain ⟨bo, bl, bc, rfl⟩ := hb.open3
  obtain ⟨co, cl, cc, rfl⟩ := hcc.open3
  obtain ⟨do', dl, dc, rfl⟩ := hd.open3
  obtain ⟨w1, hw1, HK1, HB1, hz1⟩ := box2 w 25 (.slice ao al ac) (.slice bo bl bc)
  obtain ⟨w2, hw2, HK2, HB2, hz2⟩ := box2 w1 25 (.slice co cl cc) (.slice do' dl dc)
  obtain ⟨w3, hw3, HK3, HB3, hz3⟩ := start2 w2 25
  have hs1 : w1.heap.size = w.heap.size + 1 := by rw [hw1]; simp
  have hs2 : w2.heap.size = w.heap.size + 1 + 1 := by rw [hw2, ← hs1]; simp
  rw [hs2] at HB3
  rw [hs1] at HB2
  have hk13 := Kp.trans HK2.out HK3.out
  have hk03 := Kp.trans HK1.out hk13
  have HK03 := Lib.hid hk03
  have HA := Lib.hid (ha.keep hk03); have HB := Lib.hid (hb.keep hk03); have HCC := Lib.hid (hcc.keep hk03); have HD := Lib.hid (hd.keep hk03)
  have HT1 := Lib.hid (HB1.out.keep hk13); have HT2 := Lib.hid (HB2.out.keep HK3.out)
  have c10 := HT1.out.c0; have c11 := HT1.out.c1
  have hw : w3 = ((w.alloc (Obj.cells #[.slice ao al ac, .slice bo bl bc] 25)).alloc (Obj.cells #[.slice co cl cc, .slice do' dl dc] 25)).alloc (Obj.cells #[.slice none 0 0, .slice none 0 0] 25) := by rw [hw3, hw2, hw1]
  rw [hw] at c10 c11
  have HW := Lib.hid hw
  have HH := Lib.hid h
  clear hw1 hw2 hw3 hs2 hz3 HK3 hs1 hk13 hk03 ha hb hcc hd hz1 hz2 hw HK1 HK2 HB1 h
  go_enter Tryz.func17, Tryz.ntmps17
  go_wp2_with fail
  rw [← HW.out]
  refine (rCheck_any HA.out HB.out).mono ?_
  rintro e w4 ⟨rfl, hk⟩
  have HK4 := Lib.hid hk
  clear hk c10 c11
  rcases HH.out with h1 | ⟨h1, h2⟩
  · rw [h1]
    clear h1
    have hT := HB3.out.keep HK4.out
    have hP := Put.made hT (.slice none 0 0) (.slice none 0 0)
    obtain ⟨w8, hw8⟩ : ∃ w8, w8 = (w4.setCell ⟨w.heap.size + 1 + 1, 0, none⟩ (.slice none 0 0)).setCell ⟨w.heap.size + 1 + 1, 1, none⟩ (.slice none 0 0) := ⟨_, rfl⟩
    rw [← hw8] at hP
    have HW8 := Lib.hid hw8
    have HPP := Lib.hid hP
    have f0 := hT.free 0
    have c0 := hT.c0
    have f1 := (hT.set0 (.slice none 0 0)).free 1
    have c1 := (hT.set0 (.slice none 0 0)).c1
    clear hT hw8 hP
    go_wp2_with fail
    have hP' := HPP.out
    rw [← HW8.out]
    clear c0 c1 f0 f1
    have c0 := hP'.two.c0
    have c1 := hP'.two.c1
    have FIN2 : MkR 1 (0, 0) w (.returned (.tuple #[.agg #[.slice none 0 0, .slice none 0 0], .int .i64 1])) w8 :=
      ⟨⟨_, _, rfl, Sl.nil _, Sl.nil _, New.nil _, New.nil _⟩, hP'.only.kp (Kp.trans HK03.out HK4.out) (Nat.le_trans (Nat.le_succ _) (Nat.le_succ _))⟩
    exact bodyPost_ret (by simp [results, Tryz.results17, go_sem, c0, c1]) rfl FIN2
  · rw [h1]
    have H2 := Lib.hid h2
    have c20 := (HT2.out.keep HK4.out).c0; have c21 := (HT2.out.keep HK4.out).c1
    clear h1 h2
    go_wp2_with fail
    refine (rCheck_any (HCC.out.keep HK4.out) (HD.out.keep HK4.out)).mono ?_
    rintro e w5 ⟨rfl, hk⟩
    rw [H2.out]
    have HK5 := Lib.hid (Kp.trans HK4.out hk)
    clear hk c20 c21
    have hT := HB3.out.keep HK5.out
    have hP := Put.made hT (.slice none 0 0) (.slice none 0 0)
    obtain ⟨w8, hw8⟩ : ∃ w8, w8 = (w5.setCell ⟨w.heap.size + 1 + 1, 0, none⟩ (.slice none 0 0)).setCell ⟨w.heap.size + 1 + 1, 1, none⟩ (.slice none 0 0) := ⟨_, rfl⟩
    rw [← hw8] at hP
    have HW8 := Lib.hid hw8
    have HPP := Lib.hid hP
    have f0 := hT.free 0
    have c0 := hT.c0
    have f1 := (hT.set0 (.slice none 0 0)).free 1
    have c1 := (hT.set0 (.slice none 0 0)).c1
    clear hT hw8 hP
    go_wp2_with fail
    have hP' := HPP.out
    rw [← HW8.out]
    clear c0 c1 f0 f1
    have c0 := hP'.two.c0
    have c1 := hP'.two.c1
    have FIN2 : MkR 1 (0, 0) w (.returned (.tuple #[.agg #[.slice none 0 0, .slice none 0 0], .int .i64 1])) w8 :=
      ⟨⟨_, _, rfl, Sl.nil _, Sl.nil _, New.nil _, New.nil _⟩, hP'.only.kp (Kp.trans HK03.out HK5.out) (Nat.le_trans (Nat.le_succ _) (Nat.le_succ _))⟩
    exact bodyPost_ret (by simp [results, Tryz.results17, go_sem, c0, c1]) rfl FIN2

set_option maxRecDepth 100000 in
theorem Div_bad {xs ys us vs : List Nat} {va vb vc vd : Value} {w : World} (ha : Sl w va xs) (hb : Sl w vb ys) (hcc : Sl w vc us) (hd : Sl w vd vs) (h : frOk xs ys = false ∨ (frOk xs ys = true ∧ frOk us vs = false)) :
    Calls Tryz.prog 18 #[.agg #[va, vb], .agg #[vc, vd]] w (MkR 1 (0, 0) w) := by
  obtain ⟨ao, al, ac, rfl⟩ := ha.open3
  obtain ⟨bo, bl, bc, rfl⟩ := hb.open3
  obtain ⟨co, cl, cc, rfl⟩ := hcc.open3
  obtain ⟨do', dl, dc, rfl⟩ := hd.open3
  obtain ⟨w1, hw1, HK1, HB1, hz1⟩ := box2 w 25 (.slice ao al ac) (.slice bo bl bc)
  obtain ⟨w2, hw2, HK2, HB2, hz2⟩ := box2 w1 25 (.slice co cl cc) (.slice do' dl dc)
  obtain ⟨w3, hw3, HK3, HB3, hz3⟩ := start2 w2 25
  have hs1 : w1.heap.size = w.heap.size + 1 := by rw [hw1]; simp
  have hs2 : w2.heap.size = w.heap.size + 1 + 1 := by rw [hw2, ← hs1]; simp
  rw [hs2] at HB3
  rw [hs1] at HB2
  have hk13 := Kp.trans HK2.out HK3.out
  have hk03 := Kp.trans HK1.out hk13
  have HK03 := Lib.hid hk03
  have HA := Lib.hid (ha.keep hk03); have HB := Lib.hid (hb.keep hk03); have HCC := Lib.hid (hcc.keep hk03); have HD := Lib.hid (hd.keep hk03)
  have HT1 := Lib.hid (HB1.out.keep hk13); have HT2 := Lib.hid (HB2.out.keep HK3.out)
  have c10 := HT1.out.c0; have c11 := HT1.out.c1
  have hw : w3 = ((w.alloc (Obj.cells #[.slice ao al ac, .slice bo bl bc] 25)).alloc (Obj.cells #[.slice co cl cc, .slice do' dl dc] 25)).alloc (Obj.cells #[.slice none 0 0, .slice none 0 0] 25) := by rw [hw3, hw2, hw1]
  rw [hw] at c10 c11
  have HW := Lib.hid hw
  have HH := Lib.hid h
  clear hw1 hw2 hw3 hs2 hz3 HK3 hs1 hk13 hk03 ha hb hcc hd hz1 hz2 hw HK1 HK2 HB1 h
  go_enter Tryz.func18, Tryz.ntmps18
  go_wp2_with fail
  rw [← HW.out]
  refine (Check_any HA.out HB.out).mono ?_
  rintro e w4 ⟨rfl, hk⟩
  have HK4 := Lib.hid hk
  clear hk c10 c11
  rcases HH.out with h1 | ⟨h1, h2⟩
  · rw [h1]
    clear h1
    have hT := HB3.out.keep HK4.out
    have hP := Put.made hT (.slice none 0 0) (.slice none 0 0)
    obtain ⟨w8, hw8⟩ : ∃ w8, w8 = (w4.setCell ⟨w.heap.size + 1 + 1, 0, none⟩ (.slice none 0 0)).setCell ⟨w.heap.size + 1 + 1, 1, none⟩ (.slice none 0 0) := ⟨_, rfl⟩
    rw [← hw8] at hP
    have HW8 := Lib.hid hw8
    have HPP := Lib.hid hP
    have f0 := hT.free 0
    have c0 := hT.c0
    have f1 := (hT.set0 (.slice none 0 0)).free 1
    have c1 := (hT.set0 (.slice none 0 0)).c1
    clear hT hw8 hP
    go_wp2_with fail
    have hP' := HPP.out
    rw [← HW8.out]
    clear c0 c1 f0 f1
    have c0 := hP'.two.c0
    have c1 := hP'.two.c1
    have FIN2 : MkR 1 (0, 0) w (.returned (.tuple #[.agg #[.slice none 0 0, .slice none 0 0], .int .i64 1])) w8 :=
      ⟨⟨_, _, rfl, Sl.nil _, Sl.nil _, New.nil _, New.nil _⟩, hP'.only.kp (Kp.trans HK03.out HK4.out) (Nat.le_trans (Nat.le_succ _) (Nat.le_succ _))⟩
    exact bodyPost_ret (by simp [results, Tryz.results18, go_sem, c0, c1]) rfl FIN2
  · rw [h1]
    have H2 := Lib.hid h2
    have c20 := (HT2.out.keep HK4.out).c0; have c21 := (HT2.out.keep HK4.out).c1
    clear h1 h2
    go_wp2_with fail
    refine (Check_any (HCC.out.keep HK4.out) (HD.out.keep HK4.out)).mono ?_
    rintro e w5 ⟨rfl, hk⟩
    rw [H2.out]
    have HK5 := Lib.hid (Kp.trans HK4.out hk)
    clear hk c20 c21
    have hT := HB3.out.keep HK5.out
    have hP := Put.made hT (.slice none 0 0) (.slice none 0 0)
    obtain ⟨w8, hw8⟩ : ∃ w8, w8 = (w5.setCell ⟨w.heap.size + 1 + 1, 0, none⟩ (.slice none 0 0)).setCell ⟨w.heap.size + 1 + 1, 1, none⟩ (.slice none 0 0) := ⟨_, rfl⟩
    rw [← hw8] at hP
    have HW8 := Lib.hid hw8
    have HPP := Lib.hid hP
    have f0 := hT.free 0
    have c0 := hT.c0
    have f1 := (hT.set0 (.slice none 0 0)).free 1
    have c1 := (hT.set0 (.slice none 0 0)).c1
    clear hT hw8 hP
    go_wp2_with fail
    have hP' := HPP.out
    rw [← HW8.out]
    clear c0 c1 f0 f1
    have c0 := hP'.two.c0
    have c1 := hP'.two.c1
    have FIN2 : MkR 1 (0, 0) w (.returned (.tuple #[.agg #[.slice none 0 0, .slice none 0 0], .int .i64 1])) w8 :=
      ⟨⟨_, _, rfl, Sl.nil _, Sl.nil _, New.nil _, New.nil _⟩, hP'.only.kp (Kp.trans HK03.out HK5.out) (Nat.le_trans (Nat.le_succ _) (Nat.le_succ _))⟩
    exact bodyPost_ret (by simp [results, Tryz.results18, go_sem, c0, c1]) rfl FIN2

set_option maxRecDepth 100000 in
theorem rDiv_bad {xs ys us vs : List Nat} {va vb vc vd : Value} {w : World} (ha : Sl w va xs) (hb : Sl w vb ys) (hcc : Sl w vc us) (hd : Sl w vd vs) (h : frOk xs ys = false ∨ (frOk xs ys = true ∧ frOk us vs = false)) :
    Calls Tryz.prog 19 #[.agg #[va, vb], .agg #[vc, vd]] w (MkR 1 (0, 0) w) := by
  obtain ⟨ao, al, ac, rfl⟩ := ha.open3
  obtain ⟨bo, bl, bc, rfl⟩ := hb.open3
  obtain ⟨co, cl, cc, rfl⟩ := hcc.open3
  obtain ⟨do', dl, dc, rfl⟩ := hd.open3
  obtain ⟨w1, hw1, HK1, HB1, hz1⟩ := box2 w 25 (.slice ao al ac) (.slice bo bl bc)
  obtain ⟨w2, hw2, HK2, HB2, hz2⟩ := box2 w1 25 (.slice co cl cc) (.slice do' dl dc)
  obtain ⟨w3, hw3, HK3, HB3, hz3⟩ := start2 w2 25
  have hs1 : w1.heap.size = w.heap.size + 1 := by rw [hw1]; simp
  have hs2 : w2.heap.size = w.heap.size + 1 + 1 := by rw [hw2, ← hs1]; simp
  rw [hs2] at HB3
  rw [hs1] at HB2
  have hk13 := Kp.trans HK2.out HK3.out
  have hk03 := Kp.trans HK1.out hk13
  have HK03 := Lib.hid hk03
  have HA := Lib.hid (ha.keep hk03); have HB := Lib.hid (hb.keep hk03); have HCC := Lib.hid (hcc.keep hk03); have HD := Lib.hid (hd.keep hk03)
  have HT1 := Lib.hid (HB1.out.keep hk13); have HT2 := Lib.hid (HB2.out.keep HK3.out)
  have c10 := HT1.out.c0; have c11 := HT1.out.c1
  have hw : w3 = ((w.alloc (Obj.cells #[.slice ao al ac, .slice bo bl bc] 25)).alloc (Obj.cells #[.slice co cl cc, .slice do' dl dc] 25)).alloc (Obj.cells #[.slice none 0 0, .slice none 0 0] 25) := by rw [hw3, hw2, hw1]
  rw [hw] at c10 c11
  have HW := Lib.hid hw
  have HH := Lib.hid h
  clear hw1 hw2 hw3 hs2 hz3 HK3 hs1 hk13 hk03 ha hb hcc hd hz1 hz2 hw HK1 HK2 HB1 h
  go_enter Tryz.func19, Tryz.ntmps19
  go_wp2_with fail
  rw [← HW.out]
  refine (rCheck_any HA.out HB.out).mono ?_
  rintro e w4 ⟨rfl, hk⟩
  have HK4 := Lib.hid hk
  clear hk c10 c11
  rcases HH.out with h1 | ⟨h1, h2⟩
  · rw [h1]
    clear h1
    have hT := HB3.out.keep HK4.out
    have hP := Put.made hT (.slice none 0 0) (.slice none 0 0)
    obtain ⟨w8, hw8⟩ : ∃ w8, w8 = (w4.setCell ⟨w.heap.size + 1 + 1, 0, none⟩ (.slice none 0 0)).setCell ⟨w.heap.size + 1 + 1, 1, none⟩ (.slice none 0 0) := ⟨_, rfl⟩
    rw [← hw8] at hP
    have HW8 := Lib.hid hw8
    have HPP := Lib.hid hP
    have f0 := hT.free 0
    have c0 := hT.c0
    have f1 := (hT.set0 (.slice none 0 0)).free 1
    have c1 := (hT.set0 (.slice none 0 0)).c1
    clear hT hw8 hP
    go_wp2_with fail
    have hP' := HPP.out
    rw [← HW8.out]
    clear c0 c1 f0 f1
    have c0 := hP'.two.c0
    have c1 := hP'.two.c1
    have FIN2 : MkR 1 (0, 0) w (.returned (.tuple #[.agg #[.slice none 0 0, .slice none 0 0], .int .i64 1])) w8 :=
      ⟨⟨_, _, rfl, Sl.nil _, Sl.nil _, New.nil _, New.nil _⟩, hP'.only.kp (Kp.trans HK03.out HK4.out) (Nat.le_trans (Nat.le_succ _) (Nat.le_succ _))⟩
    exact bodyPost_ret (by simp [results, Tryz.results19, go_sem, c0, c1]) rfl FIN2
  · rw [h1]
    have H2 := Lib.hid h2
    have c20 := (HT2.out.keep HK4.out).c0; have c21 := (HT2.out.keep HK4.out).c1
    clear h1 h2
    go_wp2_with fail
    refine (rCheck_any (HCC.out.keep HK4.out) (HD.out.keep HK4.out)).mono ?_
    rintro e w5 ⟨rfl, hk⟩
    rw [H2.out]
    have HK5 := Lib.hid (Kp.trans HK4.out hk)
    clear hk c20 c21
    have hT := HB3.out.keep HK5.out
    have hP := Put.made hT (.slice none 0 0) (.slice none 0 0)
    obtain ⟨w8, hw8⟩ : ∃ w8, w8 = (w5.setCell ⟨w.heap.size + 1 + 1, 0, none⟩ (.slice none 0 0)).setCell ⟨w.heap.size + 1 + 1, 1, none⟩ (.slice none 0 0) := ⟨_, rfl⟩
    rw [← hw8] at hP
    have HW8 := Lib.hid hw8
    have HPP := Lib.hid hP
    have f0 := hT.free 0
    have c0 := hT.c0
    have f1 := (hT.set0 (.slice none 0 0)).free 1
    have c1 := (hT.set0 (.slice none 0 0)).c1
    clear hT hw8 hP
    go_wp2_with fail
    have hP' := HPP.out
    rw [← HW8.out]
    clear c0 c1 f0 f1
    have c0 := hP'.two.c0
    have c1 := hP'.two.c1
    have FIN2 : MkR 1 (0, 0) w (.returned (.tuple #[.agg #[.slice none 0 0, .slice none 0 0], .int .i64 1])) w8 :=
      ⟨⟨_, _, rfl, Sl.nil _, Sl.nil _, New.nil _, New.nil _⟩, hP'.only.kp (Kp.trans HK03.out HK5.out) (Nat.le_trans (Nat.le_succ _) (Nat.le_succ _))⟩
    exact bodyPost_ret (by simp [results, Tryz.results19, go_sem, c0, c1]) rfl FIN2

set_option maxRecDepth 100000 in
theorem Compare_bad {xs ys us vs : List Nat} {va vb vc vd : Value} {w : World} (ha : Sl w va xs) (hb : Sl w vb ys) (hcc : Sl w vc us) (hd : Sl w vd vs) (h : frOk xs ys = false ∨ (frOk xs ys = true ∧ frOk us vs = false)) :
    Calls Tryz.prog 9 #[.agg #[va, vb], .agg #[vc, vd]] w fun e w' => e = .returned (.int .i64 0) ∧ Kp w w' := by
  obtain ⟨ao, al, ac, rfl⟩ := ha.open3
  obtain ⟨bo, bl, bc, rfl⟩ := hb.open3
  obtain ⟨co, cl, cc, rfl⟩ := hcc.open3
  obtain ⟨do', dl, dc, rfl⟩ := hd.open3
  obtain ⟨w1, hw1, HK1, HB1, hz1⟩ := box2 w 25 (.slice ao al ac) (.slice bo bl bc)
  obtain ⟨w2, hw2, HK2, HB2, hz2⟩ := box2 w1 25 (.slice co cl cc) (.slice do' dl dc)
  have hs1 : w1.heap.size = w.heap.size + 1 := by rw [hw1]; simp
  rw [hs1] at HB2
  have hk13 := HK2.out
  have hk03 := Kp.trans HK1.out hk13
  have HK03 := Lib.hid hk03
  have HA := Lib.hid (ha.keep hk03); have HB := Lib.hid (hb.keep hk03); have HCC := Lib.hid (hcc.keep hk03); have HD := Lib.hid (hd.keep hk03)
  have HT1 := Lib.hid (HB1.out.keep hk13); have HT2 := Lib.hid (HB2.out)
  have c10 := HT1.out.c0; have c11 := HT1.out.c1
  have hw : w2 = (w.alloc (Obj.cells #[.slice ao al ac, .slice bo bl bc] 25)).alloc (Obj.cells #[.slice co cl cc, .slice do' dl dc] 25) := by rw [hw2, hw1]
  rw [hw] at c10 c11
  have HW := Lib.hid hw
  have HH := Lib.hid h
  clear hw1 hw2 hs1 hk13 hk03 ha hb hcc hd hz1 hz2 hw HK1 HK2 HB1 h
  go_enter Tryz.func9, Tryz.ntmps9
  go_wp2_with fail
  rw [← HW.out]
  refine (Check_any HA.out HB.out).mono ?_
  rintro e w4 ⟨rfl, hk⟩
  have HK4 := Lib.hid hk
  clear hk c10 c11
  rcases HH.out with h1 | ⟨h1, h2⟩
  · rw [h1]
    clear h1
    go_wp2_with fail
    go_ret
    exact ⟨rfl, Kp.trans HK03.out HK4.out⟩
  · rw [h1]
    have H2 := Lib.hid h2
    have c20 := (HT2.out.keep HK4.out).c0; have c21 := (HT2.out.keep HK4.out).c1
    clear h1 h2
    go_wp2_with fail
    refine (Check_any (HCC.out.keep HK4.out) (HD.out.keep HK4.out)).mono ?_
    rintro e w5 ⟨rfl, hk⟩
    rw [H2.out]
    have HK5 := Lib.hid (Kp.trans HK4.out hk)
    clear hk c20 c21
    go_wp2_with fail
    go_ret
    exact ⟨rfl, Kp.trans HK03.out HK5.out⟩

set_option maxRecDepth 100000 in
theorem rCompare_bad {xs ys us vs : List Nat} {va vb vc vd : Value} {w : World} (ha : Sl w va xs) (hb : Sl w vb ys) (hcc : Sl w vc us) (hd : Sl w vd vs) (h : frOk xs ys = false ∨ (frOk xs ys = true ∧ frOk us vs = false)) :
    Calls Tryz.prog 10 #[.agg #[va, vb], .agg #[vc, vd]] w fun e w' => e = .returned (.int .i64 0) ∧ Kp w w' := by
  obtain ⟨ao, al, ac, rfl⟩ := ha.open3
  obtain ⟨bo, bl, bc, rfl⟩ := hb.open3
  obtain ⟨co, cl, cc, rfl⟩ := hcc.open3
  obtain ⟨do', dl, dc, rfl⟩ := hd.open3
  obtain ⟨w1, hw1, HK1, HB1, hz1⟩ := box2 w 25 (.slice ao al ac) (.slice bo bl bc)
  obtain ⟨w2, hw2, HK2, HB2, hz2⟩ := box2 w1 25 (.slice co cl cc) (.slice do' dl dc)
  have hs1 : w1.heap.size = w.heap.size + 1 := by rw [hw1]; simp
  rw [hs1] at HB2
  have hk13 := HK2.out
  have hk03 := Kp.trans HK1.out hk13
  have HK03 := Lib.hid hk03
  have HA := Lib.hid (ha.keep hk03); have HB := Lib.hid (hb.keep hk03); have HCC := Lib.hid (hcc.keep hk03); have HD := Lib.hid (hd.keep hk03)
  have HT1 := Lib.hid (HB1.out.keep hk13); have HT2 := Lib.hid (HB2.out)
  have c10 := HT1.out.c0; have c11 := HT1.out.c1
  have hw : w2 = (w.alloc (Obj.cells #[.slice ao al ac, .slice bo bl bc] 25)).alloc (Obj.cells #[.slice co cl cc, .slice do' dl dc] 25) := by rw [hw2, hw1]
  rw [hw] at c10 c11
  have HW := Lib.hid hw
  have HH := Lib.hid h
  clear hw1 hw2 hs1 hk13 hk03 ha hb hcc hd hz1 hz2 hw HK1 HK2 HB1 h
  go_enter Tryz.func10, Tryz.ntmps10
  go_wp2_with fail
  rw [← HW.out]
  refine (rCheck_any HA.out HB.out).mono ?_
  rintro e w4 ⟨rfl, hk⟩
  have HK4 := Lib.hid hk
  clear hk c10 c11
  rcases HH.out with h1 | ⟨h1, h2⟩
  · rw [h1]
    clear h1
    go_wp2_with fail
    go_ret
    exact ⟨rfl, Kp.trans HK03.out HK4.out⟩
  · rw [h1]
    have H2 := Lib.hid h2
    have c20 := (HT2.out.keep HK4.out).c0; have c21 := (HT2.out.keep HK4.out).c1
    clear h1 h2
    go_wp2_with fail
    refine (rCheck_any (HCC.out.keep HK4.out) (HD.out.keep HK4.out)).mono ?_
    rintro e w5 ⟨rfl, hk⟩
    rw [H2.out]
    have HK5 := Lib.hid (Kp.trans HK4.out hk)
    clear hk c20 c21
    go_wp2_with fail
    go_ret
    exact ⟨rfl, Kp.trans HK03.out HK5.out⟩
end Go.Proofs.YtgpochhndjadhaaGreatDoor
