/- Powers of any fraction on both sides answer the same. Condition: the slices hold the digits that are named. -/
import Derived.Test.YtdoponlhiidimaaGreatDoorMPe
import Derived.Test.YtdoponlhiidimaaGreatDoorRPow
import Derived.Test.YtdoponlhiidimaaGreatDoorBoth
namespace Go.Proofs.YtdoponlhiidimaaGreatDoor
open Go.RowKit LimbN
set_option linter.unusedVariables false
set_option linter.unusedSimpArgs false

theorem rpow_E {a n : Nat} {va : Value} {w : World} (ha : Sl w va (limbs a)) (h1 : (limbs a).length ≤ 128) (hn : n ≤ 65536) : Calls Tryz.prog 22 #[va, .int .i64 n] w (OpN (lenE (a ^ n)) (lenV (a ^ n)) w) := by
  by_cases hc : (limbs a = [] ∧ 0 < n) ∨ limbs a = [1]
  · have := rPow_early ha (wf_limbs h1) n hn hc
    rw [val_limbs] at this
    exact this.mono fun e w' h => OpN.got h
  · have := rPow_loop ha (wf_limbs h1) n hn hc
    rw [val_limbs] at this
    exact this.mono fun e w' h => OpN.got h
set_option maxRecDepth 100000 in
theorem PowF_bad {xs ys : List Nat} {va vb : Value} {w : World} (ha : Sl w va xs) (hb : Sl w vb ys) (n : Int) (hok : frOk xs ys = false) :
    Calls Tryz.prog 5 #[.agg #[va, vb], .int .i64 n] w (MkR 1 (0, 0) w) := by
  have HOK := Lib.hid hok
  clear hok
  obtain ⟨ao, al, ac, rfl⟩ := ha.open3
  obtain ⟨bo, bl, bc, rfl⟩ := hb.open3
  obtain ⟨w1, hw1, HK1, HB1, hz1⟩ := box2 w 26 (.slice ao al ac) (.slice bo bl bc)
  obtain ⟨w3, hw3, HK3, HB3, hz3⟩ := start2 w1 26
  have hs1 : w1.heap.size = w.heap.size + 1 := by rw [hw1]; simp
  rw [hs1] at HB3
  have hk03 := Kp.trans HK1.out HK3.out
  have HK03 := Lib.hid hk03
  have HA := Lib.hid (ha.keep hk03); have HB := Lib.hid (hb.keep hk03)
  have HT1 := Lib.hid (HB1.out.keep HK3.out)
  have c10 := HT1.out.c0; have c11 := HT1.out.c1
  have hw : w3 = (w.alloc (Obj.cells #[.slice ao al ac, .slice bo bl bc] 26)).alloc (Obj.cells #[.slice none 0 0, .slice none 0 0] 26) := by rw [hw3, hw1]
  have HZ : Hid (w.heap.size + 1 < w3.heap.size) := by show _ < _; omega
  have HW := Lib.hid hw
  rw [hw] at c10 c11
  clear hw1 hw3 hs1 hk03 ha hb hz1 hz3 hw HK1 HK3 HB1
  go_enter Tryz.func5, Tryz.ntmps5
  go_wp2_with fail
  rw [← HW.out]
  refine (Check_any HA.out HB.out).mono ?_
  rintro e w4 ⟨rfl, hk⟩
  rw [HOK.out]
  have HK4 := Lib.hid hk
  clear hk c10 c11
  have hT := HB3.out.keep HK4.out
  have hP := Put.made hT (.slice none 0 0) (.slice none 0 0)
  obtain ⟨w8, hw8⟩ : ∃ w8, w8 = (w4.setCell ⟨w.heap.size + 1, 0, none⟩ (.slice none 0 0)).setCell ⟨w.heap.size + 1, 1, none⟩ (.slice none 0 0) := ⟨_, rfl⟩
  rw [← hw8] at hP
  have HW8 := Lib.hid hw8
  have HPP := Lib.hid hP
  have f0 := hT.free 0
  have c0 := hT.c0
  have f1 := (hT.set0 (.slice none 0 0)).free 1
  have c1 := (hT.set0 (.slice none 0 0)).c1
  clear hT hw8 hP
  go_wp2_with fail
  have hP' := HPP.out
  rw [← HW8.out]
  clear c0 c1 f0 f1
  have c0 := hP'.two.c0
  have c1 := hP'.two.c1
  have FIN2 : MkR 1 (0, 0) w (.returned (.tuple #[.agg #[.slice none 0 0, .slice none 0 0], .int .i64 1])) w8 :=
    ⟨⟨_, _, rfl, Sl.nil _, Sl.nil _, New.nil _, New.nil _⟩, hP'.only.kp (Kp.trans HK03.out HK4.out) (Nat.le_succ _)⟩
  exact bodyPost_ret (by simp [results, Tryz.results5, go_sem, c0, c1]) rfl FIN2
set_option maxRecDepth 100000 in
theorem rPowF_bad {xs ys : List Nat} {va vb : Value} {w : World} (ha : Sl w va xs) (hb : Sl w vb ys) (n : Int) (hok : frOk xs ys = false) :
    Calls Tryz.prog 6 #[.agg #[va, vb], .int .i64 n] w (MkR 1 (0, 0) w) := by
  have HOK := Lib.hid hok
  clear hok
  obtain ⟨ao, al, ac, rfl⟩ := ha.open3
  obtain ⟨bo, bl, bc, rfl⟩ := hb.open3
  obtain ⟨w1, hw1, HK1, HB1, hz1⟩ := box2 w 26 (.slice ao al ac) (.slice bo bl bc)
  obtain ⟨w3, hw3, HK3, HB3, hz3⟩ := start2 w1 26
  have hs1 : w1.heap.size = w.heap.size + 1 := by rw [hw1]; simp
  rw [hs1] at HB3
  have hk03 := Kp.trans HK1.out HK3.out
  have HK03 := Lib.hid hk03
  have HA := Lib.hid (ha.keep hk03); have HB := Lib.hid (hb.keep hk03)
  have HT1 := Lib.hid (HB1.out.keep HK3.out)
  have c10 := HT1.out.c0; have c11 := HT1.out.c1
  have hw : w3 = (w.alloc (Obj.cells #[.slice ao al ac, .slice bo bl bc] 26)).alloc (Obj.cells #[.slice none 0 0, .slice none 0 0] 26) := by rw [hw3, hw1]
  have HZ : Hid (w.heap.size + 1 < w3.heap.size) := by show _ < _; omega
  have HW := Lib.hid hw
  rw [hw] at c10 c11
  clear hw1 hw3 hs1 hk03 ha hb hz1 hz3 hw HK1 HK3 HB1
  go_enter Tryz.func6, Tryz.ntmps6
  go_wp2_with fail
  rw [← HW.out]
  refine (rCheck_any HA.out HB.out).mono ?_
  rintro e w4 ⟨rfl, hk⟩
  rw [HOK.out]
  have HK4 := Lib.hid hk
  clear hk c10 c11
  have hT := HB3.out.keep HK4.out
  have hP := Put.made hT (.slice none 0 0) (.slice none 0 0)
  obtain ⟨w8, hw8⟩ : ∃ w8, w8 = (w4.setCell ⟨w.heap.size + 1, 0, none⟩ (.slice none 0 0)).setCell ⟨w.heap.size + 1, 1, none⟩ (.slice none 0 0) := ⟨_, rfl⟩
  rw [← hw8] at hP
  have HW8 := Lib.hid hw8
  have HPP := Lib.hid hP
  have f0 := hT.free 0
  have c0 := hT.c0
  have f1 := (hT.set0 (.slice none 0 0)).free 1
  have c1 := (hT.set0 (.slice none 0 0)).c1
  clear hT hw8 hP
  go_wp2_with fail
  have hP' := HPP.out
  rw [← HW8.out]
  clear c0 c1 f0 f1
  have c0 := hP'.two.c0
  have c1 := hP'.two.c1
  have FIN2 : MkR 1 (0, 0) w (.returned (.tuple #[.agg #[.slice none 0 0, .slice none 0 0], .int .i64 1])) w8 :=
    ⟨⟨_, _, rfl, Sl.nil _, Sl.nil _, New.nil _, New.nil _⟩, hP'.only.kp (Kp.trans HK03.out HK4.out) (Nat.le_succ _)⟩
  exact bodyPost_ret (by simp [results, Tryz.results6, go_sem, c0, c1]) rfl FIN2
set_option maxRecDepth 100000 in
theorem PowF_rng {xs ys : List Nat} {va vb : Value} {w : World} (ha : Sl w va xs) (hb : Sl w vb ys) (n : Int) (hok : frOk xs ys = true) (hn : n < 0 ∨ 65536 < n) :
    Calls Tryz.prog 5 #[.agg #[va, vb], .int .i64 n] w (MkR 3 (0, 0) w) := by
  have HOK := Lib.hid hok
  have HN := Lib.hid hn
  clear hok hn
  obtain ⟨ao, al, ac, rfl⟩ := ha.open3
  obtain ⟨bo, bl, bc, rfl⟩ := hb.open3
  obtain ⟨w1, hw1, HK1, HB1, hz1⟩ := box2 w 26 (.slice ao al ac) (.slice bo bl bc)
  obtain ⟨w3, hw3, HK3, HB3, hz3⟩ := start2 w1 26
  have hs1 : w1.heap.size = w.heap.size + 1 := by rw [hw1]; simp
  rw [hs1] at HB3
  have hk03 := Kp.trans HK1.out HK3.out
  have HK03 := Lib.hid hk03
  have HA := Lib.hid (ha.keep hk03); have HB := Lib.hid (hb.keep hk03)
  have HT1 := Lib.hid (HB1.out.keep HK3.out)
  have c10 := HT1.out.c0; have c11 := HT1.out.c1
  have hw : w3 = (w.alloc (Obj.cells #[.slice ao al ac, .slice bo bl bc] 26)).alloc (Obj.cells #[.slice none 0 0, .slice none 0 0] 26) := by rw [hw3, hw1]
  have HZ : Hid (w.heap.size + 1 < w3.heap.size) := by show _ < _; omega
  have HW := Lib.hid hw
  rw [hw] at c10 c11
  clear hw1 hw3 hs1 hk03 ha hb hz1 hz3 hw HK1 HK3 HB1
  go_enter Tryz.func5, Tryz.ntmps5
  go_wp2_with fail
  rw [← HW.out]
  refine (Check_any HA.out HB.out).mono ?_
  rintro e w4 ⟨rfl, hk⟩
  rw [HOK.out]
  have HK4 := Lib.hid hk
  clear hk c10 c11
  by_cases hn0 : n < 0
  · have q0 : decide (n < 0) = true := decide_eq_true hn0
    clear hn0
    have hT := HB3.out.keep HK4.out
    have hP := Put.made hT (.slice none 0 0) (.slice none 0 0)
    obtain ⟨w8, hw8⟩ : ∃ w8, w8 = (w4.setCell ⟨w.heap.size + 1, 0, none⟩ (.slice none 0 0)).setCell ⟨w.heap.size + 1, 1, none⟩ (.slice none 0 0) := ⟨_, rfl⟩
    rw [← hw8] at hP
    have HW8 := Lib.hid hw8
    have HPP := Lib.hid hP
    have f0 := hT.free 0
    have c0 := hT.c0
    have f1 := (hT.set0 (.slice none 0 0)).free 1
    have c1 := (hT.set0 (.slice none 0 0)).c1
    clear hT hw8 hP
    go_wp2_with fail
    have hP' := HPP.out
    rw [← HW8.out]
    clear c0 c1 f0 f1
    have c0 := hP'.two.c0
    have c1 := hP'.two.c1
    have FIN2 : MkR 3 (0, 0) w (.returned (.tuple #[.agg #[.slice none 0 0, .slice none 0 0], .int .i64 3])) w8 :=
      ⟨⟨_, _, rfl, Sl.nil _, Sl.nil _, New.nil _, New.nil _⟩, hP'.only.kp (Kp.trans HK03.out HK4.out) (Nat.le_succ _)⟩
    exact bodyPost_ret (by simp [results, Tryz.results5, go_sem, c0, c1]) rfl FIN2
  · have q0 : decide (n < 0) = false := decide_eq_false hn0
    have q1 : decide (65536 < n) = true := decide_eq_true (by rcases HN.out with h | h <;> omega)
    clear hn0
    have hT := HB3.out.keep HK4.out
    have hP := Put.made hT (.slice none 0 0) (.slice none 0 0)
    obtain ⟨w8, hw8⟩ : ∃ w8, w8 = (w4.setCell ⟨w.heap.size + 1, 0, none⟩ (.slice none 0 0)).setCell ⟨w.heap.size + 1, 1, none⟩ (.slice none 0 0) := ⟨_, rfl⟩
    rw [← hw8] at hP
    have HW8 := Lib.hid hw8
    have HPP := Lib.hid hP
    have f0 := hT.free 0
    have c0 := hT.c0
    have f1 := (hT.set0 (.slice none 0 0)).free 1
    have c1 := (hT.set0 (.slice none 0 0)).c1
    clear hT hw8 hP
    go_wp2_with fail
    have hP' := HPP.out
    rw [← HW8.out]
    clear c0 c1 f0 f1
    have c0 := hP'.two.c0
    have c1 := hP'.two.c1
    have FIN2 : MkR 3 (0, 0) w (.returned (.tuple #[.agg #[.slice none 0 0, .slice none 0 0], .int .i64 3])) w8 :=
      ⟨⟨_, _, rfl, Sl.nil _, Sl.nil _, New.nil _, New.nil _⟩, hP'.only.kp (Kp.trans HK03.out HK4.out) (Nat.le_succ _)⟩
    exact bodyPost_ret (by simp [results, Tryz.results5, go_sem, c0, c1]) rfl FIN2
set_option maxRecDepth 100000 in
theorem rPowF_rng {xs ys : List Nat} {va vb : Value} {w : World} (ha : Sl w va xs) (hb : Sl w vb ys) (n : Int) (hok : frOk xs ys = true) (hn : n < 0 ∨ 65536 < n) :
    Calls Tryz.prog 6 #[.agg #[va, vb], .int .i64 n] w (MkR 3 (0, 0) w) := by
  have HOK := Lib.hid hok
  have HN := Lib.hid hn
  clear hok hn
  obtain ⟨ao, al, ac, rfl⟩ := ha.open3
  obtain ⟨bo, bl, bc, rfl⟩ := hb.open3
  obtain ⟨w1, hw1, HK1, HB1, hz1⟩ := box2 w 26 (.slice ao al ac) (.slice bo bl bc)
  obtain ⟨w3, hw3, HK3, HB3, hz3⟩ := start2 w1 26
  have hs1 : w1.heap.size = w.heap.size + 1 := by rw [hw1]; simp
  rw [hs1] at HB3
  have hk03 := Kp.trans HK1.out HK3.out
  have HK03 := Lib.hid hk03
  have HA := Lib.hid (ha.keep hk03); have HB := Lib.hid (hb.keep hk03)
  have HT1 := Lib.hid (HB1.out.keep HK3.out)
  have c10 := HT1.out.c0; have c11 := HT1.out.c1
  have hw : w3 = (w.alloc (Obj.cells #[.slice ao al ac, .slice bo bl bc] 26)).alloc (Obj.cells #[.slice none 0 0, .slice none 0 0] 26) := by rw [hw3, hw1]
  have HZ : Hid (w.heap.size + 1 < w3.heap.size) := by show _ < _; omega
  have HW := Lib.hid hw
  rw [hw] at c10 c11
  clear hw1 hw3 hs1 hk03 ha hb hz1 hz3 hw HK1 HK3 HB1
  go_enter Tryz.func6, Tryz.ntmps6
  go_wp2_with fail
  rw [← HW.out]
  refine (rCheck_any HA.out HB.out).mono ?_
  rintro e w4 ⟨rfl, hk⟩
  rw [HOK.out]
  have HK4 := Lib.hid hk
  clear hk c10 c11
  by_cases hn0 : n < 0
  · have q0 : decide (n < 0) = true := decide_eq_true hn0
    clear hn0
    have hT := HB3.out.keep HK4.out
    have hP := Put.made hT (.slice none 0 0) (.slice none 0 0)
    obtain ⟨w8, hw8⟩ : ∃ w8, w8 = (w4.setCell ⟨w.heap.size + 1, 0, none⟩ (.slice none 0 0)).setCell ⟨w.heap.size + 1, 1, none⟩ (.slice none 0 0) := ⟨_, rfl⟩
    rw [← hw8] at hP
    have HW8 := Lib.hid hw8
    have HPP := Lib.hid hP
    have f0 := hT.free 0
    have c0 := hT.c0
    have f1 := (hT.set0 (.slice none 0 0)).free 1
    have c1 := (hT.set0 (.slice none 0 0)).c1
    clear hT hw8 hP
    go_wp2_with fail
    have hP' := HPP.out
    rw [← HW8.out]
    clear c0 c1 f0 f1
    have c0 := hP'.two.c0
    have c1 := hP'.two.c1
    have FIN2 : MkR 3 (0, 0) w (.returned (.tuple #[.agg #[.slice none 0 0, .slice none 0 0], .int .i64 3])) w8 :=
      ⟨⟨_, _, rfl, Sl.nil _, Sl.nil _, New.nil _, New.nil _⟩, hP'.only.kp (Kp.trans HK03.out HK4.out) (Nat.le_succ _)⟩
    exact bodyPost_ret (by simp [results, Tryz.results6, go_sem, c0, c1]) rfl FIN2
  · have q0 : decide (n < 0) = false := decide_eq_false hn0
    have q1 : decide (65536 < n) = true := decide_eq_true (by rcases HN.out with h | h <;> omega)
    clear hn0
    have hT := HB3.out.keep HK4.out
    have hP := Put.made hT (.slice none 0 0) (.slice none 0 0)
    obtain ⟨w8, hw8⟩ : ∃ w8, w8 = (w4.setCell ⟨w.heap.size + 1, 0, none⟩ (.slice none 0 0)).setCell ⟨w.heap.size + 1, 1, none⟩ (.slice none 0 0) := ⟨_, rfl⟩
    rw [← hw8] at hP
    have HW8 := Lib.hid hw8
    have HPP := Lib.hid hP
    have f0 := hT.free 0
    have c0 := hT.c0
    have f1 := (hT.set0 (.slice none 0 0)).free 1
    have c1 := (hT.set0 (.slice none 0 0)).c1
    clear hT hw8 hP
    go_wp2_with fail
    have hP' := HPP.out
    rw [← HW8.out]
    clear c0 c1 f0 f1
    have c0 := hP'.two.c0
    have c1 := hP'.two.c1
    have FIN2 : MkR 3 (0, 0) w (.returned (.tuple #[.agg #[.slice none 0 0, .slice none 0 0], .int .i64 3])) w8 :=
      ⟨⟨_, _, rfl, Sl.nil _, Sl.nil _, New.nil _, New.nil _⟩, hP'.only.kp (Kp.trans HK03.out HK4.out) (Nat.le_succ _)⟩
    exact bodyPost_ret (by simp [results, Tryz.results6, go_sem, c0, c1]) rfl FIN2
set_option maxRecDepth 100000 in
set_option maxHeartbeats 2000000 in
theorem rPowF_n {a b n : Nat} {va vb : Value} {w : World} (hb0 : b ≠ 0) (la : (limbs a).length ≤ 128) (lb : (limbs b).length ≤ 128) (hab : Nat.gcd a b = 1) (hn : n ≤ 65536) (ha : Sl w va (limbs a)) (hb : Sl w vb (limbs b)) :
    Calls Tryz.prog 6 #[.agg #[va, vb], .int .i64 n] w (MkR (fitE (a ^ n) (b ^ n)) (fitP (a ^ n) (b ^ n)) w) := by
  have HOK := Lib.hid (frOk_n la lb hb0 hab)
  have LA := Lib.hid la; have LB := Lib.hid lb; have HN := Lib.hid hn
  have q0 : decide ((n : Int) < 0) = false := decide_eq_false (by omega)
  have q1 : decide (65536 < (n : Int)) = false := decide_eq_false (by omega)
  by_cases hf : (limbs (a ^ n)).length ≤ 128 ∧ (limbs (b ^ n)).length ≤ 128
  · rw [fitE_ok hf.1 hf.2, fitP_ok hf.1 hf.2]
    have e1 := lenE_ok hf.1; have e2 := lenE_ok hf.2; have e3 := lenV_ok hf.1; have e4 := lenV_ok hf.2
    have EE := Lib.hid (show lenE (a ^ n) = 0 ∧ lenE (b ^ n) = 0 ∧ lenV (a ^ n) = a ^ n ∧ lenV (b ^ n) = b ^ n from ⟨e1, e2, e3, e4⟩)
    clear hb0 la lb hab hn hf e1 e2 e3 e4
    obtain ⟨ao, al, ac, rfl⟩ := ha.open3
    obtain ⟨bo, bl, bc, rfl⟩ := hb.open3
    obtain ⟨w1, hw1, HK1, HB1, hz1⟩ := box2 w 26 (.slice ao al ac) (.slice bo bl bc)
    obtain ⟨w3, hw3, HK3, HB3, hz3⟩ := start2 w1 26
    have hs1 : w1.heap.size = w.heap.size + 1 := by rw [hw1]; simp
    rw [hs1] at HB3
    have hk03 := Kp.trans HK1.out HK3.out
    have HK03 := Lib.hid hk03
    have HA := Lib.hid (ha.keep hk03); have HB := Lib.hid (hb.keep hk03)
    have HT1 := Lib.hid (HB1.out.keep HK3.out)
    have c10 := HT1.out.c0; have c11 := HT1.out.c1
    have hw : w3 = (w.alloc (Obj.cells #[.slice ao al ac, .slice bo bl bc] 26)).alloc (Obj.cells #[.slice none 0 0, .slice none 0 0] 26) := by rw [hw3, hw1]
    have HZ : Hid (w.heap.size + 1 < w3.heap.size) := by show _ < _; omega
    have HW := Lib.hid hw
    rw [hw] at c10 c11
    clear hw1 hw3 hs1 hk03 ha hb hz1 hz3 hw HK1 HK3 HB1
    go_enter Tryz.func6, Tryz.ntmps6
    go_wp2_with fail
    rw [← HW.out]
    refine (rCheck_any HA.out HB.out).mono ?_
    rintro e w4 ⟨rfl, hk⟩
    rw [HOK.out]
    have HK4 := Lib.hid hk
    clear hk c10 c11
    have c10 := (HT1.out.keep HK4.out).c0
    go_wp2_with fail
    refine (rpow_E (HA.out.keep HK4.out) LA.out HN.out).mono ?_
    rw [EE.out.1, EE.out.2.2.1]
    intro e w5 hq
    obtain ⟨⟨v1, rfl, h1, n1⟩, hk⟩ := hq
    have H15 := Lib.hid h1; have N1 := Lib.hid n1; have HK5 := Lib.hid (Kp.trans HK4.out hk)
    clear h1 n1 hk c10
    have c11 := (HT1.out.keep HK5.out).c1
    go_wp2_with fail
    refine (rpow_E (HB.out.keep HK5.out) LB.out HN.out).mono ?_
    rw [EE.out.2.1, EE.out.2.2.2]
    intro e w6 hq
    obtain ⟨⟨v2, rfl, h2, n2⟩, hk⟩ := hq
    have h1 := H15.out.keep hk
    obtain ⟨no, nl, nc, rfl⟩ := h1.open3
    obtain ⟨zo, zl, zc, rfl⟩ := h2.open3
    have H1 := Lib.hid h1; have H2 := Lib.hid h2; have HK6 := Lib.hid (Kp.trans HK5.out hk); have N2 := Lib.hid (n2.mono HK5.out.size)
    clear h1 h2 n2 hk c11
    have hT := HB3.out.keep HK6.out
    have hP := Put.made hT (.slice no nl nc) (.slice zo zl zc)
    obtain ⟨w8, hw8⟩ : ∃ w8, w8 = (w6.setCell ⟨w.heap.size + 1, 0, none⟩ (.slice no nl nc)).setCell ⟨w.heap.size + 1, 1, none⟩ (.slice zo zl zc) := ⟨_, rfl⟩
    rw [← hw8] at hP
    have HW8 := Lib.hid hw8
    have HPP := Lib.hid hP
    have f0 := hT.free 0
    have c0 := hT.c0
    have f1 := (hT.set0 (.slice no nl nc)).free 1
    have c1 := (hT.set0 (.slice no nl nc)).c1
    have hlt := Nat.lt_of_lt_of_le HZ.out HK4.out.size
    have o1 := H1.out.only hP.only (N1.out.offs hlt _)
    have o2 := H2.out.only hP.only (N2.out.offs HZ.out _)
    have FIN2 : MkR 0 (a ^ n, b ^ n) w (.returned (.tuple #[.agg #[.slice no nl nc, .slice zo zl zc], .int .i64 0])) w8 :=
      ⟨⟨_, _, rfl, o1, o2, N1.out.mono (Nat.le_trans HK03.out.size HK4.out.size), N2.out.mono HK03.out.size⟩, hP.only.kp (Kp.trans HK03.out HK6.out) (Nat.le_succ _)⟩
    have HF := Lib.hid FIN2
    clear hT hw8 hP o1 o2 FIN2 hlt
    go_wp2_with fail
    rw [← HW8.out]
    clear c0 c1 f0 f1
    have c0 := HPP.out.two.c0
    have c1 := HPP.out.two.c1
    exact bodyPost_ret (by simp [results, Tryz.results6, go_sem, c0, c1]) rfl HF.out
  · have hE : fitE (a ^ n) (b ^ n) = 2 := by
      unfold fitE lenE firstE
      by_cases h1 : (limbs (a ^ n)).length ≤ 128
      · have h2 : ¬ (limbs (b ^ n)).length ≤ 128 := fun h => hf ⟨h1, h⟩
        rw [if_pos h1, if_neg h2]; rfl
      · rw [if_neg h1]; rfl
    have hPz : fitP (a ^ n) (b ^ n) = (0, 0) := by unfold fitP orNil; rw [hE]; rfl
    rw [hE, hPz]
    have hor : (lenE (a ^ n) = 2) ∨ (lenE (a ^ n) = 0 ∧ lenE (b ^ n) = 2) := by
      unfold lenE
      by_cases h1 : (limbs (a ^ n)).length ≤ 128
      · right; exact ⟨if_pos h1, if_neg (fun h => hf ⟨h1, h⟩)⟩
      · left; exact if_neg h1
    have HOR := Lib.hid hor
    clear hb0 la lb hab hn hf hE hPz hor
    obtain ⟨ao, al, ac, rfl⟩ := ha.open3
    obtain ⟨bo, bl, bc, rfl⟩ := hb.open3
    obtain ⟨w1, hw1, HK1, HB1, hz1⟩ := box2 w 26 (.slice ao al ac) (.slice bo bl bc)
    obtain ⟨w3, hw3, HK3, HB3, hz3⟩ := start2 w1 26
    have hs1 : w1.heap.size = w.heap.size + 1 := by rw [hw1]; simp
    rw [hs1] at HB3
    have hk03 := Kp.trans HK1.out HK3.out
    have HK03 := Lib.hid hk03
    have HA := Lib.hid (ha.keep hk03); have HB := Lib.hid (hb.keep hk03)
    have HT1 := Lib.hid (HB1.out.keep HK3.out)
    have c10 := HT1.out.c0; have c11 := HT1.out.c1
    have hw : w3 = (w.alloc (Obj.cells #[.slice ao al ac, .slice bo bl bc] 26)).alloc (Obj.cells #[.slice none 0 0, .slice none 0 0] 26) := by rw [hw3, hw1]
    have HZ : Hid (w.heap.size + 1 < w3.heap.size) := by show _ < _; omega
    have HW := Lib.hid hw
    rw [hw] at c10 c11
    clear hw1 hw3 hs1 hk03 ha hb hz1 hz3 hw HK1 HK3 HB1
    go_enter Tryz.func6, Tryz.ntmps6
    go_wp2_with fail
    rw [← HW.out]
    refine (rCheck_any HA.out HB.out).mono ?_
    rintro e w4 ⟨rfl, hk⟩
    rw [HOK.out]
    have HK4 := Lib.hid hk
    clear hk c10 c11
    have c10 := (HT1.out.keep HK4.out).c0
    go_wp2_with fail
    refine (rpow_E (HA.out.keep HK4.out) LA.out HN.out).mono ?_
    intro e w5 hq
    obtain ⟨⟨v1, rfl, -, -⟩, hk⟩ := hq
    have HK5 := Lib.hid (Kp.trans HK4.out hk)
    clear hk c10
    have c11 := (HT1.out.keep HK5.out).c1
    go_wp2_with fail
    refine (rpow_E (HB.out.keep HK5.out) LB.out HN.out).mono ?_
    intro e w6 hq
    obtain ⟨⟨v2, rfl, -, -⟩, hk⟩ := hq
    have HK6 := Lib.hid (Kp.trans HK5.out hk)
    clear hk c11
    rcases HOR.out with h | ⟨h, h'⟩
    · rw [h]
      clear h
      have hT := HB3.out.keep HK6.out
      have hP := Put.made hT (.slice none 0 0) (.slice none 0 0)
      obtain ⟨w8, hw8⟩ : ∃ w8, w8 = (w6.setCell ⟨w.heap.size + 1, 0, none⟩ (.slice none 0 0)).setCell ⟨w.heap.size + 1, 1, none⟩ (.slice none 0 0) := ⟨_, rfl⟩
      rw [← hw8] at hP
      have HW8 := Lib.hid hw8
      have HPP := Lib.hid hP
      have f0 := hT.free 0
      have c0 := hT.c0
      have f1 := (hT.set0 (.slice none 0 0)).free 1
      have c1 := (hT.set0 (.slice none 0 0)).c1
      clear hT hw8 hP
      go_wp2_with fail
      have hP' := HPP.out
      rw [← HW8.out]
      clear c0 c1 f0 f1
      have c0 := hP'.two.c0
      have c1 := hP'.two.c1
      have FIN2 : MkR 2 (0, 0) w (.returned (.tuple #[.agg #[.slice none 0 0, .slice none 0 0], .int .i64 2])) w8 :=
        ⟨⟨_, _, rfl, Sl.nil _, Sl.nil _, New.nil _, New.nil _⟩, hP'.only.kp (Kp.trans HK03.out HK6.out) (Nat.le_succ _)⟩
      exact bodyPost_ret (by simp [results, Tryz.results6, go_sem, c0, c1]) rfl FIN2
    · rw [h, h']
      clear h h'
      have hT := HB3.out.keep HK6.out
      have hP := Put.made hT (.slice none 0 0) (.slice none 0 0)
      obtain ⟨w8, hw8⟩ : ∃ w8, w8 = (w6.setCell ⟨w.heap.size + 1, 0, none⟩ (.slice none 0 0)).setCell ⟨w.heap.size + 1, 1, none⟩ (.slice none 0 0) := ⟨_, rfl⟩
      rw [← hw8] at hP
      have HW8 := Lib.hid hw8
      have HPP := Lib.hid hP
      have f0 := hT.free 0
      have c0 := hT.c0
      have f1 := (hT.set0 (.slice none 0 0)).free 1
      have c1 := (hT.set0 (.slice none 0 0)).c1
      clear hT hw8 hP
      go_wp2_with fail
      have hP' := HPP.out
      rw [← HW8.out]
      clear c0 c1 f0 f1
      have c0 := hP'.two.c0
      have c1 := hP'.two.c1
      have FIN2 : MkR 2 (0, 0) w (.returned (.tuple #[.agg #[.slice none 0 0, .slice none 0 0], .int .i64 2])) w8 :=
        ⟨⟨_, _, rfl, Sl.nil _, Sl.nil _, New.nil _, New.nil _⟩, hP'.only.kp (Kp.trans HK03.out HK6.out) (Nat.le_succ _)⟩
      exact bodyPost_ret (by simp [results, Tryz.results6, go_sem, c0, c1]) rfl FIN2
theorem pow_both {xs ys : List Nat} (hx : Lt xs) (hy : Lt ys) (lx : xs.length ≤ 8) (ly : ys.length ≤ 8) (n : Int) : ∃ (E : Int) (p : Nat × Nat), ∀ (w : World) (va vb : Value), Sl w va xs → Sl w vb ys →
    Calls Tryz.prog 5 #[.agg #[va, vb], .int .i64 n] w (MkR E p w) ∧ Calls Tryz.prog 6 #[.agg #[va, vb], .int .i64 n] w (MkR E p w) := by
  cases h : frOk xs ys with
  | false => exact ⟨1, (0, 0), fun w va vb s1 s2 => ⟨PowF_bad s1 s2 n h, rPowF_bad s1 s2 n h⟩⟩
  | true =>
    by_cases hn : n < 0 ∨ 65536 < n
    · exact ⟨3, (0, 0), fun w va vb s1 s2 => ⟨PowF_rng s1 s2 n h hn, rPowF_rng s1 s2 n h hn⟩⟩
    · obtain ⟨a, b, rfl, rfl, b0, g1, la, lb⟩ := fr_nums hx hy h lx ly
      obtain ⟨k, rfl⟩ : ∃ k : Nat, n = k := ⟨n.toNat, by omega⟩
      exact ⟨_, _, fun w va vb s1 s2 => ⟨PowF_n b0 (len8 la) (len8 lb) g1 (by omega) s1 s2, rPowF_n b0 (len8 la) (len8 lb) g1 (by omega) s1 s2⟩⟩
end Go.Proofs.YtdoponlhiidimaaGreatDoor
