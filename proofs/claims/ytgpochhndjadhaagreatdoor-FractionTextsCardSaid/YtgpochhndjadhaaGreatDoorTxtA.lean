/- Floor, Format and Round of any fraction of at most 8 limbs, on both sides. Condition: the slices hold the digits that are named; the library's table of powers of ten holds what its text lays. -/
import Derived.Test.YtgpochhndjadhaaGreatDoorMRd
import Derived.Test.YtgpochhndjadhaaGreatDoorRText
import Derived.Test.YtgpochhndjadhaaGreatDoorMMk
import Derived.Deep.LoopGhost
namespace Go.Proofs.YtgpochhndjadhaaGreatDoor
open Go.RowKit LimbN
set_option linter.unusedVariables false
set_option linter.unusedSimpArgs false

theorem fr_nums8 {xs ys : List Nat} (hx : Lt xs) (hy : Lt ys) (h : frOk xs ys = true) (lx : xs.length ≤ 8) (ly : ys.length ≤ 8) : ∃ n d, xs = limbs n ∧ ys = limbs d ∧ d ≠ 0 ∧ Nat.gcd n d = 1 ∧ (limbs n).length ≤ 8 ∧ (limbs d).length ≤ 8 := by
  unfold frOk at h
  simp only [Bool.and_eq_true, decide_eq_true_eq, beq_iff_eq] at h
  obtain ⟨h1, h2, h3, h4⟩ := h
  have e1 := (wf_canon hx h1).1
  have e2 := (wf_canon hy h2).1
  exact ⟨val xs, val ys, e1.symm, e2.symm, h3, h4, by rw [e1]; exact lx, by rw [e2]; exact ly⟩
theorem len8t {a : Nat} (h : (limbs a).length ≤ 8) : (limbs a).length ≤ 128 := Nat.le_trans h (by decide)
theorem rord_n8 {a b : Nat} {va vb : Value} {w : World} (ha : Sl w va (limbs a)) (hb : Sl w vb (limbs b)) :
    Calls Tryz.prog 76 #[va, vb] w fun e w' => e = .returned (.int .i64 (FracN.ord a b)) ∧ Kp w w' := by
  refine (order_any ha hb).mono ?_
  rintro e w' ⟨rfl, hd⟩
  exact ⟨by rw [cmp_val]; rfl, hd.kp⟩
theorem rtimes_n8 {a b : Nat} {va vb : Value} {w : World} (ha : Sl w va (limbs a)) (hb : Sl w vb (limbs b)) (la : (limbs a).length ≤ 1000) (lb : (limbs b).length ≤ 1000) :
    Calls Tryz.prog 53 #[va, vb] w fun e w' => ∃ v', e = .returned v' ∧ Sl w' v' (limbs (a * b)) ∧ New w.heap.size v' ∧ Kp w w' := by
  have := Times_any ha hb (by omega) (by omega)
  rwa [val_limbs, val_limbs] at this
theorem mul_len8 {a b : Nat} (ha : (limbs a).length ≤ 8) (hb : (limbs b).length ≤ 8) : (limbs (a * b)).length ≤ 16 := by
  rw [limbs_len_le] at *
  rw [show (4294967296 : Nat) ^ 16 = 4294967296 ^ 8 * 4294967296 ^ 8 from rfl]
  exact Nat.mul_lt_mul'' ha hb
theorem rdigits_n {n : Nat} {va : Value} {w : World} (ha : Sl w va (limbs n)) (hl : (limbs n).length ≤ 128) : Calls Tryz.prog 74 #[va] w fun e w' => e = .returned (.string (decS n)) ∧ Kp w w' := by
  refine (Digits_any (V := n) (v := va) (w := w) ha (by omega)).mono ?_
  rintro e w' ⟨rfl, hk⟩
  exact ⟨rfl, hk⟩
set_option maxRecDepth 100000 in
theorem FloorB_bad {xs ys : List Nat} {va vb : Value} {w : World} (ha : Sl w va xs) (hb : Sl w vb ys) (hok : frOk xs ys = false) :
    Calls Tryz.prog 28 #[.agg #[va, vb]] w fun e w' => e = .returned (.tuple #[.slice none 0 0, .int .i64 1]) ∧ Kp w w' := by
  have HOK := Lib.hid hok
  clear hok
  obtain ⟨ao, al, ac, rfl⟩ := ha.open3
  obtain ⟨bo, bl, bc, rfl⟩ := hb.open3
  obtain ⟨w1, hw1, HK1, HB1, hz1⟩ := box2 w 25 (.slice ao al ac) (.slice bo bl bc)
  have HA := Lib.hid (ha.keep HK1.out); have HB := Lib.hid (hb.keep HK1.out)
  have c10 := HB1.out.c0; have c11 := HB1.out.c1
  rw [hw1] at c10 c11
  have HW := Lib.hid hw1
  clear ha hb hw1 hz1
  go_enter Tryz.func28, Tryz.ntmps28
  go_wp2_with fail
  rw [← HW.out]
  refine (Check_any HA.out HB.out).mono ?_
  rintro e w2 ⟨rfl, hk2⟩
  rw [HOK.out]
  have HK2 := Lib.hid hk2
  clear hk2 c10 c11
  go_wp2_with fail
  go_ret2
  exact ⟨rfl, Kp.trans HK1.out HK2.out⟩
set_option maxRecDepth 100000 in
theorem FormatB_bad {xs ys : List Nat} {va vb : Value} {w : World} (ha : Sl w va xs) (hb : Sl w vb ys) (hok : frOk xs ys = false) :
    Calls Tryz.prog 33 #[.agg #[va, vb]] w fun e w' => e = .returned (.tuple #[.string ⟨#[]⟩, .int .i64 1]) ∧ Kp w w' := by
  have HOK := Lib.hid hok
  clear hok
  obtain ⟨ao, al, ac, rfl⟩ := ha.open3
  obtain ⟨bo, bl, bc, rfl⟩ := hb.open3
  obtain ⟨w1, hw1, HK1, HB1, hz1⟩ := box2 w 25 (.slice ao al ac) (.slice bo bl bc)
  have HA := Lib.hid (ha.keep HK1.out); have HB := Lib.hid (hb.keep HK1.out)
  have c10 := HB1.out.c0; have c11 := HB1.out.c1
  rw [hw1] at c10 c11
  have HW := Lib.hid hw1
  clear ha hb hw1 hz1
  go_enter Tryz.func33, Tryz.ntmps33
  go_wp2_with fail
  rw [← HW.out]
  refine (Check_any HA.out HB.out).mono ?_
  rintro e w2 ⟨rfl, hk2⟩
  rw [HOK.out]
  have HK2 := Lib.hid hk2
  clear hk2 c10 c11
  go_wp2_with fail
  go_ret2
  exact ⟨rfl, Kp.trans HK1.out HK2.out⟩
set_option maxRecDepth 100000 in
theorem RoundB_bad {xs ys : List Nat} {va vb : Value} {w : World} (ha : Sl w va xs) (hb : Sl w vb ys) (k : Int) (hok : frOk xs ys = false) :
    Calls Tryz.prog 31 #[.agg #[va, vb], .int .i64 k] w fun e w' => e = .returned (.tuple #[.string ⟨#[]⟩, .int .i64 1]) ∧ Kp w w' := by
  have HOK := Lib.hid hok
  clear hok
  obtain ⟨ao, al, ac, rfl⟩ := ha.open3
  obtain ⟨bo, bl, bc, rfl⟩ := hb.open3
  obtain ⟨w1, hw1, HK1, HB1, hz1⟩ := box2 w 25 (.slice ao al ac) (.slice bo bl bc)
  have HA := Lib.hid (ha.keep HK1.out); have HB := Lib.hid (hb.keep HK1.out)
  have c10 := HB1.out.c0; have c11 := HB1.out.c1
  rw [hw1] at c10 c11
  have HW := Lib.hid hw1
  clear ha hb hw1 hz1
  go_enter Tryz.func31, Tryz.ntmps31
  go_wp2_with fail
  rw [← HW.out]
  refine (Check_any HA.out HB.out).mono ?_
  rintro e w2 ⟨rfl, hk2⟩
  rw [HOK.out]
  have HK2 := Lib.hid hk2
  clear hk2 c10 c11
  go_wp2_with fail
  go_ret2
  exact ⟨rfl, Kp.trans HK1.out HK2.out⟩
set_option maxRecDepth 100000 in
theorem RoundB_rng {xs ys : List Nat} {va vb : Value} {w : World} (ha : Sl w va xs) (hb : Sl w vb ys) (k : Int) (hok : frOk xs ys = true) (hk : k < 0 ∨ 30 < k) :
    Calls Tryz.prog 31 #[.agg #[va, vb], .int .i64 k] w fun e w' => e = .returned (.tuple #[.string ⟨#[]⟩, .int .i64 3]) ∧ Kp w w' := by
  have HOK := Lib.hid hok
  have HN := Lib.hid hk
  clear hok hk
  obtain ⟨ao, al, ac, rfl⟩ := ha.open3
  obtain ⟨bo, bl, bc, rfl⟩ := hb.open3
  obtain ⟨w1, hw1, HK1, HB1, hz1⟩ := box2 w 25 (.slice ao al ac) (.slice bo bl bc)
  have HA := Lib.hid (ha.keep HK1.out); have HB := Lib.hid (hb.keep HK1.out)
  have c10 := HB1.out.c0; have c11 := HB1.out.c1
  rw [hw1] at c10 c11
  have HW := Lib.hid hw1
  clear ha hb hw1 hz1
  go_enter Tryz.func31, Tryz.ntmps31
  go_wp2_with fail
  rw [← HW.out]
  refine (Check_any HA.out HB.out).mono ?_
  rintro e w2 ⟨rfl, hk2⟩
  rw [HOK.out]
  have HK2 := Lib.hid hk2
  clear hk2 c10 c11
  by_cases hn0 : k < 0
  · have q0 : decide (k < 0) = true := decide_eq_true hn0
    clear hn0
    go_wp2_with fail
    go_ret2
    exact ⟨rfl, Kp.trans HK1.out HK2.out⟩
  · have q0 : decide (k < 0) = false := decide_eq_false hn0
    have q1 : decide (30 < k) = true := decide_eq_true (by rcases HN.out with h | h <;> omega)
    clear hn0
    go_wp2_with fail
    go_ret2
    exact ⟨rfl, Kp.trans HK1.out HK2.out⟩
set_option maxRecDepth 100000 in
theorem rFloorB_bad {xs ys : List Nat} {va vb : Value} {w : World} (ha : Sl w va xs) (hb : Sl w vb ys) (hok : frOk xs ys = false) :
    Calls Tryz.prog 29 #[.agg #[va, vb]] w fun e w' => e = .returned (.tuple #[.slice none 0 0, .int .i64 1]) ∧ Kp w w' := by
  have HOK := Lib.hid hok
  clear hok
  obtain ⟨ao, al, ac, rfl⟩ := ha.open3
  obtain ⟨bo, bl, bc, rfl⟩ := hb.open3
  obtain ⟨w1, hw1, HK1, HB1, hz1⟩ := box2 w 25 (.slice ao al ac) (.slice bo bl bc)
  have HA := Lib.hid (ha.keep HK1.out); have HB := Lib.hid (hb.keep HK1.out)
  have c10 := HB1.out.c0; have c11 := HB1.out.c1
  rw [hw1] at c10 c11
  have HW := Lib.hid hw1
  clear ha hb hw1 hz1
  go_enter Tryz.func29, Tryz.ntmps29
  go_wp2_with fail
  rw [← HW.out]
  refine (rCheck_any HA.out HB.out).mono ?_
  rintro e w2 ⟨rfl, hk2⟩
  rw [HOK.out]
  have HK2 := Lib.hid hk2
  clear hk2 c10 c11
  go_wp2_with fail
  go_ret2
  exact ⟨rfl, Kp.trans HK1.out HK2.out⟩
set_option maxRecDepth 100000 in
theorem rFormatB_bad {xs ys : List Nat} {va vb : Value} {w : World} (ha : Sl w va xs) (hb : Sl w vb ys) (hok : frOk xs ys = false) :
    Calls Tryz.prog 34 #[.agg #[va, vb]] w fun e w' => e = .returned (.tuple #[.string ⟨#[]⟩, .int .i64 1]) ∧ Kp w w' := by
  have HOK := Lib.hid hok
  clear hok
  obtain ⟨ao, al, ac, rfl⟩ := ha.open3
  obtain ⟨bo, bl, bc, rfl⟩ := hb.open3
  obtain ⟨w1, hw1, HK1, HB1, hz1⟩ := box2 w 25 (.slice ao al ac) (.slice bo bl bc)
  have HA := Lib.hid (ha.keep HK1.out); have HB := Lib.hid (hb.keep HK1.out)
  have c10 := HB1.out.c0; have c11 := HB1.out.c1
  rw [hw1] at c10 c11
  have HW := Lib.hid hw1
  clear ha hb hw1 hz1
  go_enter Tryz.func34, Tryz.ntmps34
  go_wp2_with fail
  rw [← HW.out]
  refine (rCheck_any HA.out HB.out).mono ?_
  rintro e w2 ⟨rfl, hk2⟩
  rw [HOK.out]
  have HK2 := Lib.hid hk2
  clear hk2 c10 c11
  go_wp2_with fail
  go_ret2
  exact ⟨rfl, Kp.trans HK1.out HK2.out⟩
set_option maxRecDepth 100000 in
theorem rRoundB_bad {xs ys : List Nat} {va vb : Value} {w : World} (ha : Sl w va xs) (hb : Sl w vb ys) (k : Int) (hok : frOk xs ys = false) :
    Calls Tryz.prog 32 #[.agg #[va, vb], .int .i64 k] w fun e w' => e = .returned (.tuple #[.string ⟨#[]⟩, .int .i64 1]) ∧ Kp w w' := by
  have HOK := Lib.hid hok
  clear hok
  obtain ⟨ao, al, ac, rfl⟩ := ha.open3
  obtain ⟨bo, bl, bc, rfl⟩ := hb.open3
  obtain ⟨w1, hw1, HK1, HB1, hz1⟩ := box2 w 25 (.slice ao al ac) (.slice bo bl bc)
  have HA := Lib.hid (ha.keep HK1.out); have HB := Lib.hid (hb.keep HK1.out)
  have c10 := HB1.out.c0; have c11 := HB1.out.c1
  rw [hw1] at c10 c11
  have HW := Lib.hid hw1
  clear ha hb hw1 hz1
  go_enter Tryz.func32, Tryz.ntmps32
  go_wp2_with fail
  rw [← HW.out]
  refine (rCheck_any HA.out HB.out).mono ?_
  rintro e w2 ⟨rfl, hk2⟩
  rw [HOK.out]
  have HK2 := Lib.hid hk2
  clear hk2 c10 c11
  go_wp2_with fail
  go_ret2
  exact ⟨rfl, Kp.trans HK1.out HK2.out⟩
set_option maxRecDepth 100000 in
theorem rRoundB_rng {xs ys : List Nat} {va vb : Value} {w : World} (ha : Sl w va xs) (hb : Sl w vb ys) (k : Int) (hok : frOk xs ys = true) (hk : k < 0 ∨ 30 < k) :
    Calls Tryz.prog 32 #[.agg #[va, vb], .int .i64 k] w fun e w' => e = .returned (.tuple #[.string ⟨#[]⟩, .int .i64 3]) ∧ Kp w w' := by
  have HOK := Lib.hid hok
  have HN := Lib.hid hk
  clear hok hk
  obtain ⟨ao, al, ac, rfl⟩ := ha.open3
  obtain ⟨bo, bl, bc, rfl⟩ := hb.open3
  obtain ⟨w1, hw1, HK1, HB1, hz1⟩ := box2 w 25 (.slice ao al ac) (.slice bo bl bc)
  have HA := Lib.hid (ha.keep HK1.out); have HB := Lib.hid (hb.keep HK1.out)
  have c10 := HB1.out.c0; have c11 := HB1.out.c1
  rw [hw1] at c10 c11
  have HW := Lib.hid hw1
  clear ha hb hw1 hz1
  go_enter Tryz.func32, Tryz.ntmps32
  go_wp2_with fail
  rw [← HW.out]
  refine (rCheck_any HA.out HB.out).mono ?_
  rintro e w2 ⟨rfl, hk2⟩
  rw [HOK.out]
  have HK2 := Lib.hid hk2
  clear hk2 c10 c11
  by_cases hn0 : k < 0
  · have q0 : decide (k < 0) = true := decide_eq_true hn0
    clear hn0
    go_wp2_with fail
    go_ret2
    exact ⟨rfl, Kp.trans HK1.out HK2.out⟩
  · have q0 : decide (k < 0) = false := decide_eq_false hn0
    have q1 : decide (30 < k) = true := decide_eq_true (by rcases HN.out with h | h <;> omega)
    clear hn0
    go_wp2_with fail
    go_ret2
    exact ⟨rfl, Kp.trans HK1.out HK2.out⟩
set_option maxRecDepth 100000 in
theorem rFloor_n {n d : Nat} {va vb : Value} {w : World} (l1 : (limbs n).length ≤ 8) (l2 : (limbs d).length ≤ 8) (d0 : d ≠ 0) (hg : Nat.gcd n d = 1) (ha : Sl w va (limbs n)) (hb : Sl w vb (limbs d)) :
    Calls Tryz.prog 29 #[.agg #[va, vb]] w fun e w' => (∃ v, e = .returned (.tuple #[v, .int .i64 0]) ∧ Sl w' v (limbs (n / d))) ∧ Kp w w' := by
  have m1 : (limbs n).length ≤ 128 := Nat.le_trans l1 (by decide)
  have m2 : (limbs d).length ≤ 128 := Nat.le_trans l2 (by decide)
  have HOK := Lib.hid (frOk_n m1 m2 d0 hg)
  have M1 := Lib.hid m1; have M2 := Lib.hid m2; have D0 := Lib.hid d0
  clear l1 l2 d0 hg m1 m2
  obtain ⟨ao, al, ac, rfl⟩ := ha.open3
  obtain ⟨bo, bl, bc, rfl⟩ := hb.open3
  obtain ⟨w1, hw1, HK1, HB1, hz1⟩ := box2 w 25 (.slice ao al ac) (.slice bo bl bc)
  have HA := Lib.hid (ha.keep HK1.out); have HB := Lib.hid (hb.keep HK1.out)
  have c10 := HB1.out.c0; have c11 := HB1.out.c1
  rw [hw1] at c10 c11
  have HW := Lib.hid hw1
  clear ha hb hw1 hz1
  go_enter Tryz.func29, Tryz.ntmps29
  go_wp2_with fail
  rw [← HW.out]
  refine (rCheck_any HA.out HB.out).mono ?_
  rintro e w2 ⟨rfl, hk2⟩
  rw [HOK.out]
  have HK2 := Lib.hid hk2
  clear hk2 c10 c11
  have c10 := (HB1.out.keep HK2.out).c0; have c11 := (HB1.out.keep HK2.out).c1
  go_wp2_with fail
  refine (Split_any (HA.out.keep HK2.out) (HB.out.keep HK2.out) (Nat.le_trans M1.out (by decide)) D0.out).mono ?_
  intro e w3 hq
  obtain ⟨⟨v, vr, rfl, h1, -, -, -⟩, hk3⟩ := hq
  have FIN : Hid ((∃ u, (.returned (.tuple #[v, .int .i64 0]) : Ending) = .returned (.tuple #[u, .int .i64 0]) ∧ Sl w3 u (limbs (n / d))) ∧ Kp w w3) := ⟨⟨v, rfl, h1⟩, Kp.trans HK1.out (Kp.trans HK2.out hk3)⟩
  clear h1 hk3 c10 c11
  go_wp2_with fail
  go_ret2
  exact FIN.out
set_option maxRecDepth 100000 in
set_option maxHeartbeats 2000000 in
theorem rFormat_n {n d : Nat} {va vb : Value} {w : World} (l1 : (limbs n).length ≤ 8) (l2 : (limbs d).length ≤ 8) (d0 : d ≠ 0) (hg : Nat.gcd n d = 1) (ha : Sl w va (limbs n)) (hb : Sl w vb (limbs d)) :
    Calls Tryz.prog 34 #[.agg #[va, vb]] w fun e w' => e = .returned (.tuple #[.string (fracS n d), .int .i64 0]) ∧ Kp w w' := by
  have m1 : (limbs n).length ≤ 128 := Nat.le_trans l1 (by decide)
  have m2 : (limbs d).length ≤ 128 := Nat.le_trans l2 (by decide)
  have HOK := Lib.hid (frOk_n m1 m2 d0 hg)
  have M1 := Lib.hid m1; have M2 := Lib.hid m2; have D0 := Lib.hid d0
  have za := dec_size n 8 (by decide) (limbs_len_le.1 l1)
  have zb := dec_size d 8 (by decide) (limbs_len_le.1 l2)
  obtain ⟨sn, esn⟩ : ∃ sn, sn = decS n := ⟨_, rfl⟩
  obtain ⟨sd, esd⟩ : ∃ sd, sd = decS d := ⟨_, rfl⟩
  rw [← esn] at za
  rw [← esd] at zb
  have ESN := Lib.hid esn; have ESD := Lib.hid esd
  obtain ⟨S, hS⟩ : ∃ S, S = fracS n d := ⟨_, rfl⟩
  rw [← hS]
  have HS := Lib.hid hS
  have z47 : (⟨#[47]⟩ : ByteArray).size = 1 := rfl
  have hn1 : ¬ (9223372036854775807 < sn.size + 1) := by omega
  have hn2 : ¬ (9223372036854775807 < sn.size + 1 + sd.size) := by omega
  have ho : (FracN.ord d 1 == 0) = decide (d = 1) := by
    unfold FracN.ord
    by_cases h : d = 1
    · subst h; rfl
    · rw [decide_eq_false h]
      rw [if_neg (by omega), if_pos (by omega)]
      rfl
  obtain ⟨O, eO⟩ : ∃ O, O = FracN.ord d 1 := ⟨_, rfl⟩
  rw [← eO] at ho
  have HO := Lib.hid eO
  have HOB := Lib.hid ho
  clear l1 l2 d0 hg m1 m2 esn esd hS z47 za zb eO ho
  obtain ⟨ao, al, ac, rfl⟩ := ha.open3
  obtain ⟨bo, bl, bc, rfl⟩ := hb.open3
  obtain ⟨w1, hw1, HK1, HB1, hz1⟩ := box2 w 25 (.slice ao al ac) (.slice bo bl bc)
  have HA := Lib.hid (ha.keep HK1.out); have HB := Lib.hid (hb.keep HK1.out)
  have c10 := HB1.out.c0; have c11 := HB1.out.c1
  rw [hw1] at c10 c11
  have HW := Lib.hid hw1
  clear ha hb hw1 hz1
  go_enter Tryz.func34, Tryz.ntmps34
  go_wp2_with fail
  rw [← HW.out]
  refine (rCheck_any HA.out HB.out).mono ?_
  rintro e w2 ⟨rfl, hk2⟩
  rw [HOK.out]
  have HK2 := Lib.hid hk2
  clear hk2 c10 c11
  have c10 := (HB1.out.keep HK2.out).c0; have c11 := (HB1.out.keep HK2.out).c1
  obtain ⟨wL, hwL⟩ : ∃ wL, wL = w2.alloc (Obj.cells #[.int .u32 1] 59) := ⟨_, rfl⟩
  have hsl : Sl wL (.slice (some ⟨w2.heap.size, 0, none⟩) 1 1) (limbs 1) := by
    rw [hwL, show limbs 1 = [1] by decide]
    exact sl_lit (w := w2) (e := 59) [1] (Lt.cons (by decide) Lt.nil) (by simp)
  have HKL : Hid (Kp w2 wL) := by show Kp _ _; rw [hwL]; exact Kp.alloc (Kp.refl _) _
  have HSL := Lib.hid hsl; have HWL := Lib.hid hwL
  clear hsl hwL
  go_wp2_with fail
  rw [← HWL.out]
  clear c10 c11
  refine (rord_n8 ((HB.out.keep HK2.out).keep HKL.out) HSL.out).mono ?_
  rw [← HO.out]
  rintro e w3 ⟨rfl, hk3⟩
  have HK3 := Lib.hid (Kp.trans HK2.out (Kp.trans HKL.out hk3))
  clear hk3
  have ho := HOB.out
  have c10 := (HB1.out.keep HK3.out).c0; have c11 := (HB1.out.keep HK3.out).c1
  by_cases h1 : d = 1
  · rw [decide_eq_true h1] at ho
    have hSS : S = sn := by rw [HS.out, ESN.out]; unfold fracS; rw [if_pos h1]
    have HSS := Lib.hid hSS
    clear h1 hSS
    go_wp2_with fail
    refine (rdigits_n (HA.out.keep HK3.out) M1.out).mono ?_
    rw [← ESN.out]
    rintro e w4 ⟨rfl, hk4⟩
    have HK4 := Lib.hid (Kp.trans HK3.out hk4)
    clear hk4 c10 c11
    have FIN : Hid ((.returned (.tuple #[.string sn, .int .i64 0]) : Ending) = .returned (.tuple #[.string S, .int .i64 0]) ∧ Kp w w4) := ⟨by rw [HSS.out], Kp.trans HK1.out HK4.out⟩
    go_wp2_with fail
    go_ret2
    exact FIN.out
  · rw [decide_eq_false h1] at ho
    have hSS : S = sn ++ ⟨#[47]⟩ ++ sd := by rw [HS.out, ESN.out, ESD.out]; unfold fracS; rw [if_neg h1]
    have HSS := Lib.hid hSS
    clear h1 hSS
    go_wp2_with fail
    go_region_held3 (fun w' => w'.cell? ⟨w.heap.size, 0, none⟩ = some (.slice ao al ac) ∧ w'.cell? ⟨w.heap.size, 1, none⟩ = some (.slice bo bl bc) ∧ Kp w3 w')
      (first
        | exact ⟨(HB1.out.keep (Kp.trans HK3.out (by first | assumption | exact Kp.refl _ | exact Kp.drewN _ 1 | exact Kp.trans (by assumption) (Kp.drewN _ 1)))).c0, (HB1.out.keep (Kp.trans HK3.out (by first | assumption | exact Kp.refl _ | exact Kp.drewN _ 1 | exact Kp.trans (by assumption) (Kp.drewN _ 1)))).c1, (by first | assumption | exact Kp.refl _ | exact Kp.drewN _ 1 | exact Kp.trans (by assumption) (Kp.drewN _ 1))⟩
        | (go_split_ands; exact ⟨(HB1.out.keep (Kp.trans HK3.out (by first | assumption | exact Kp.refl _ | exact Kp.drewN _ 1 | exact Kp.trans (by assumption) (Kp.drewN _ 1)))).c0, (HB1.out.keep (Kp.trans HK3.out (by first | assumption | exact Kp.refl _ | exact Kp.drewN _ 1 | exact Kp.trans (by assumption) (Kp.drewN _ 1)))).c1, (by first | assumption | exact Kp.refl _ | exact Kp.drewN _ 1 | exact Kp.trans (by assumption) (Kp.drewN _ 1))⟩)
        | fail "no keep")
      (first
        | (go_at_call_of 74 (Value.slice ao al ac); refine (rdigits_n (HA.out.keep (Kp.trans HK3.out (Kp.drewN w3 1))) M1.out).mono ?_; rw [← ESN.out]; rintro e w4 ⟨rfl, hk4⟩; have k4 : Kp w3 w4 := Kp.trans (Kp.drewN w3 1) hk4)
        | (go_at_call_of 74 (Value.slice bo bl bc); refine (rdigits_n (HB.out.keep (Kp.trans HK3.out k4)) M2.out).mono ?_; rw [← ESD.out]; rintro e w5 ⟨rfl, hk5⟩; have k5 : Kp w3 w5 := Kp.trans k4 hk5)
        | fail "no arm")
    have HK5 := Lib.hid (Kp.trans HK3.out k5)
    clear k4 hk4 k5 hk5 c10 c11
    have FIN : Hid ((.returned (.tuple #[.string (sn ++ ⟨#[47]⟩ ++ sd), .int .i64 0]) : Ending) = .returned (.tuple #[.string S, .int .i64 0]) ∧ Kp w w5) := ⟨by rw [HSS.out], Kp.trans HK1.out HK5.out⟩
    go_wp2_with fail
    go_ret2
    exact FIN.out
end Go.Proofs.YtgpochhndjadhaaGreatDoor
