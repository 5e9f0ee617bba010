/- The reference's lowest terms. Conditions: the slices hold the numbers that are named, of at most 1000 limbs. -/
import Derived.Test.YtdoponlhiidimaaGreatDoorFrac
import Derived.Test.YtdoponlhiidimaaGreatDoorMRs
namespace Go.Proofs.YtdoponlhiidimaaGreatDoor
open Go.RowKit LimbN

set_option maxRecDepth 100000 in
set_option maxHeartbeats 800000 in
theorem lowest_n {a b : Nat} {va vb : Value} {w : World} (ha : Sl w va (limbs a)) (hb : Sl w vb (limbs b)) (h1 : (limbs a).length ≤ 1000) (h2 : (limbs b).length ≤ 1000) (h0 : b ≠ 0) :
    Calls Tryz.prog 39 #[va, vb] w (FrR (FracN.low a b) w) := by
  have HA := Lib.hid ha; have HB := Lib.hid hb; have H1 := Lib.hid h1; have H2 := Lib.hid h2; have H0 := Lib.hid h0
  clear ha hb h1 h2 h0
  go_enter Tryz.func39, Tryz.ntmps39
  go_wp2_with fail
  have hk1 : Kp w (w.alloc (Obj.cells #[Value.slice none 0 0, Value.slice none 0 0] 26)) := Kp.alloc (Kp.refl _) _
  obtain ⟨w1, hw1⟩ : ∃ w1, w1 = w.alloc (Obj.cells #[Value.slice none 0 0, Value.slice none 0 0] 26) := ⟨_, rfl⟩
  have hB : Two w1 w.heap.size 26 (Value.slice none 0 0) (Value.slice none 0 0) := by rw [hw1]; exact Two.new _ _ _ _
  have hz1 : w.heap.size < w1.heap.size := by rw [hw1]; simp
  rw [← hw1] at hk1 ⊢
  have HK1 := Lib.hid hk1; have HBB := Lib.hid hB
  clear hk1 hw1 hB
  refine (Common_any (HA.out.keep HK1.out) (HB.out.keep HK1.out) H1.out H2.out).mono ?_
  intro e w2 hq
  obtain ⟨⟨vg, rfl, h1, h2⟩, hk⟩ := hq
  have HG := Lib.hid h1; have HK2 := Lib.hid hk; clear h1 h2 hk
  have HG0 : Hid (Nat.gcd a b ≠ 0) := Nat.ne_of_gt (Nat.gcd_pos_of_pos_right _ (Nat.pos_of_ne_zero H0.out))
  go_wp2_with fail
  refine (Split_any ((HA.out.keep HK1.out).keep HK2.out) HG.out H1.out HG0.out).mono ?_
  intro e w3 hq
  obtain ⟨⟨vn, vr, rfl, h1, -, h2, -⟩, hk⟩ := hq
  have HN := Lib.hid h1; have HNN := Lib.hid h2; have HK3 := Lib.hid hk; clear h1 h2 hk
  go_wp2_with fail
  refine (Split_any (((HB.out.keep HK1.out).keep HK2.out).keep HK3.out) (HG.out.keep HK3.out) H2.out HG0.out).mono ?_
  intro e w4 hq
  obtain ⟨⟨vd, vs, rfl, h1, -, h2, -⟩, hk⟩ := hq
  have HD := Lib.hid h1; have HDN := Lib.hid h2; have HK4 := Lib.hid hk; clear h1 h2 hk
  obtain ⟨no, nl, nc, rfl⟩ := HN.out.open3
  obtain ⟨do', dl, dc, rfl⟩ := HD.out.open3
  have hT := ((HBB.out.keep HK2.out).keep HK3.out).keep HK4.out
  have hP := Lib.hid (Put.made hT (.slice no nl nc) (.slice do' dl dc))
  have f0 := hT.free 0
  have c0 := hT.c0
  have f1 := (hT.set0 (.slice no nl nc)).free 1
  have c1 := (hT.set0 (.slice no nl nc)).c1
  clear hT
  go_wp2_with fail
  have hP' := hP.out
  obtain ⟨w5, hw5⟩ : ∃ w5, w5 = (w4.setCell ⟨w.heap.size, 0, none⟩ (.slice no nl nc)).setCell ⟨w.heap.size, 1, none⟩ (.slice do' dl dc) := ⟨_, rfl⟩
  rw [← hw5] at hP' ⊢
  clear hw5 hP c0 c1 f0 f1
  have c0 := hP'.two.c0
  have c1 := hP'.two.c1
  have hk4 : Kp w1 w4 := Kp.trans (Kp.trans HK2.out HK3.out) HK4.out
  have FIN2 : FrR (FracN.low a b) w (.returned (.agg #[.slice no nl nc, .slice do' dl dc])) w5 :=
    ⟨⟨_, _, rfl, (HN.out.keep HK4.out).only hP'.only (HNN.out.offs (Nat.lt_of_lt_of_le hz1 HK2.out.size) _), HD.out.only hP'.only (HDN.out.offs (Nat.lt_of_lt_of_le hz1 (Nat.le_trans HK2.out.size HK3.out.size)) _), HNN.out.mono (Nat.le_trans HK1.out.size HK2.out.size), HDN.out.mono (Nat.le_trans HK1.out.size (Nat.le_trans HK2.out.size HK3.out.size))⟩, hP'.only.kp (Kp.trans HK1.out hk4) (Nat.le_refl _)⟩
  exact bodyPost_ret (by simp [results, Tryz.results39, go_sem, c0, c1]) rfl FIN2
end Go.Proofs.YtdoponlhiidimaaGreatDoor

/- Make on both sides: a fraction in lowest terms, or an error. Conditions: the slices hold the digits that are named. -/
namespace Go.Proofs.YtdoponlhiidimaaGreatDoor
open Go.RowKit LimbN

/-- The world behind a function's own struct. -/
theorem start2 (w : World) (t : TypeId) : ∃ w1, w1 = w.alloc (Obj.cells #[Value.slice none 0 0, Value.slice none 0 0] t) ∧ Hid (Kp w w1) ∧ Hid (Two w1 w.heap.size t (Value.slice none 0 0) (Value.slice none 0 0)) ∧ w.heap.size < w1.heap.size :=
  ⟨_, rfl, Kp.alloc (Kp.refl _) _, Two.new _ _ _ _, by simp⟩
/-- a fraction and an error. -/
structure MkR (E : Int) (p : Nat × Nat) (w : World) (e : Ending) (w' : World) : Prop where
  ex : ∃ vn vd, e = .returned (.tuple #[.agg #[vn, vd], .int .i64 E]) ∧ Sl w' vn (limbs p.1) ∧ Sl w' vd (limbs p.2) ∧ New w.heap.size vn ∧ New w.heap.size vd
  kp : Kp w w'
/-- the fraction that Make answers. -/
noncomputable def mkP (xs ys : List Nat) : Nat × Nat := open Classical in if divE xs ys = 0 then FracN.low (val xs) (val ys) else (0, 0)
theorem mk_bad {xs ys : List Nat} {E : Int} (h : divE xs ys = E) (hE : E ≠ 0) {w w' : World} {e : Ending} (hr : MkR E (0, 0) w e w') : MkR (divE xs ys) (mkP xs ys) w e w' := by
  unfold mkP
  rw [h, if_neg hE]
  exact hr
theorem mk_good {xs ys : List Nat} (h : divE xs ys = 0) {w w' : World} {e : Ending} (hr : MkR 0 (FracN.low (val xs) (val ys)) w e w') : MkR (divE xs ys) (mkP xs ys) w e w' := by
  unfold mkP
  rw [h, if_pos rfl]
  exact hr
theorem divE_bad {xs ys : List Nat} (h : wf xs = false ∨ wf ys = false) : divE xs ys = 1 := by unfold divE; rw [if_pos h]
theorem divE_zero {xs ys : List Nat} (hx : wf xs = true) (hy : wf ys = true) (h0 : val ys = 0) : divE xs ys = 4 := by unfold divE; rw [if_neg (by simp [hx, hy]), if_pos h0]
theorem divE_ok {xs ys : List Nat} (hx : wf xs = true) (hy : wf ys = true) (h0 : val ys ≠ 0) : divE xs ys = 0 := by unfold divE; rw [if_neg (by simp [hx, hy]), if_neg h0]
/-- a number's digits are the list that reads as it, if the list is well-formed. -/
theorem wf_limbs_eq {xs : List Nat} (hl : Lt xs) (h : wf xs = true) : xs = limbs (val xs) ∧ (limbs (val xs)).length ≤ 128 := by
  have h2 := wf_canon hl h
  exact ⟨h2.1.symm, by rw [h2.1]; exact h2.2⟩
set_option maxRecDepth 100000 in
theorem Make_bad1 {xs : List Nat} {va vb : Value} {w : World} (ha : Sl w va xs) (hx : wf xs = false) :
    Calls Tryz.prog 55 #[va, vb] w (MkR 1 (0, 0) w) := by
  have HA := Lib.hid ha; have HX := Lib.hid hx; clear ha hx
  go_enter Tryz.func55, Tryz.ntmps55
  go_wp2_with fail
  obtain ⟨w1, hw1, HK1, HBB, hz1⟩ := start2 w 26
  rw [← hw1]
  clear hw1
  refine (check_any (HA.out.keep HK1.out)).mono ?_
  rintro e w' ⟨rfl, rfl⟩
  rw [HX.out]
  have hT := HBB.out
  have hP := Put.made hT (.slice none 0 0) (.slice none 0 0)
  obtain ⟨w5, hw5⟩ : ∃ w5, w5 = (w1.setCell ⟨w.heap.size, 0, none⟩ (.slice none 0 0)).setCell ⟨w.heap.size, 1, none⟩ (.slice none 0 0) := ⟨_, rfl⟩
  rw [← hw5] at hP
  have HW5 := Lib.hid hw5
  have HP := Lib.hid hP
  have f0 := hT.free 0
  have c0 := hT.c0
  have f1 := (hT.set0 (.slice none 0 0)).free 1
  have c1 := (hT.set0 (.slice none 0 0)).c1
  clear hT hw5 hP
  go_wp2_with fail
  have hP' := HP.out
  rw [← HW5.out]
  clear c0 c1 f0 f1
  have c0 := hP'.two.c0
  have c1 := hP'.two.c1
  have FIN2 : MkR 1 (0, 0) w (.returned (.tuple #[.agg #[.slice none 0 0, .slice none 0 0], .int .i64 1])) w5 :=
    ⟨⟨_, _, rfl, Sl.nil _, Sl.nil _, New.nil _, New.nil _⟩, hP'.only.kp HK1.out (Nat.le_refl _)⟩
  exact bodyPost_ret (by simp [results, Tryz.results55, go_sem, c0, c1]) rfl FIN2
set_option maxRecDepth 100000 in
theorem Make_bad2 {xs ys : List Nat} {va vb : Value} {w : World} (ha : Sl w va xs) (hb : Sl w vb ys) (hx : wf xs = true) (hy : wf ys = false) :
    Calls Tryz.prog 55 #[va, vb] w (MkR 1 (0, 0) w) := by
  have HA := Lib.hid ha; have HX := Lib.hid hx; have HB := Lib.hid hb; have HY := Lib.hid hy; clear ha hb hx hy
  go_enter Tryz.func55, Tryz.ntmps55
  go_wp2_with fail
  obtain ⟨w1, hw1, HK1, HBB, hz1⟩ := start2 w 26
  rw [← hw1]
  clear hw1
  refine (check_any (HA.out.keep HK1.out)).mono ?_
  rintro e w' ⟨rfl, rfl⟩
  rw [HX.out]
  go_wp2_with fail
  refine (check_any (HB.out.keep HK1.out)).mono ?_
  rintro e w' ⟨rfl, rfl⟩
  rw [HY.out]
  have hT := HBB.out
  have hP := Put.made hT (.slice none 0 0) (.slice none 0 0)
  obtain ⟨w5, hw5⟩ : ∃ w5, w5 = (w1.setCell ⟨w.heap.size, 0, none⟩ (.slice none 0 0)).setCell ⟨w.heap.size, 1, none⟩ (.slice none 0 0) := ⟨_, rfl⟩
  rw [← hw5] at hP
  have HW5 := Lib.hid hw5
  have HP := Lib.hid hP
  have f0 := hT.free 0
  have c0 := hT.c0
  have f1 := (hT.set0 (.slice none 0 0)).free 1
  have c1 := (hT.set0 (.slice none 0 0)).c1
  clear hT hw5 hP
  go_wp2_with fail
  have hP' := HP.out
  rw [← HW5.out]
  clear c0 c1 f0 f1
  have c0 := hP'.two.c0
  have c1 := hP'.two.c1
  have FIN2 : MkR 1 (0, 0) w (.returned (.tuple #[.agg #[.slice none 0 0, .slice none 0 0], .int .i64 1])) w5 :=
    ⟨⟨_, _, rfl, Sl.nil _, Sl.nil _, New.nil _, New.nil _⟩, hP'.only.kp HK1.out (Nat.le_refl _)⟩
  exact bodyPost_ret (by simp [results, Tryz.results55, go_sem, c0, c1]) rfl FIN2
set_option maxRecDepth 100000 in
theorem Make_zero {xs ys : List Nat} {va vb : Value} {w : World} (ha : Sl w va xs) (hb : Sl w vb ys) (hx : wf xs = true) (hy : wf ys = true) (h0 : val ys = 0) :
    Calls Tryz.prog 55 #[va, vb] w (MkR 4 (0, 0) w) := by
  have hl0 : ys.length = 0 := (wf_zero hb.lt hy).1 h0
  have HA := Lib.hid ha; have HX := Lib.hid hx; have HB := Lib.hid hb; have HY := Lib.hid hy
  obtain ⟨bo, cb, rfl, -⟩ := hb.ex
  rw [hl0] at HB ⊢
  clear ha hb hx hy h0 hl0
  go_enter Tryz.func55, Tryz.ntmps55
  go_wp2_with fail
  obtain ⟨w1, hw1, HK1, HBB, hz1⟩ := start2 w 26
  rw [← hw1]
  clear hw1
  refine (check_any (HA.out.keep HK1.out)).mono ?_
  rintro e w' ⟨rfl, rfl⟩
  rw [HX.out]
  go_wp2_with fail
  refine (check_any (HB.out.keep HK1.out)).mono ?_
  rintro e w' ⟨rfl, rfl⟩
  rw [HY.out]
  have hT := HBB.out
  have hP := Put.made hT (.slice none 0 0) (.slice none 0 0)
  obtain ⟨w5, hw5⟩ : ∃ w5, w5 = (w1.setCell ⟨w.heap.size, 0, none⟩ (.slice none 0 0)).setCell ⟨w.heap.size, 1, none⟩ (.slice none 0 0) := ⟨_, rfl⟩
  rw [← hw5] at hP
  have HW5 := Lib.hid hw5
  have HP := Lib.hid hP
  have f0 := hT.free 0
  have c0 := hT.c0
  have f1 := (hT.set0 (.slice none 0 0)).free 1
  have c1 := (hT.set0 (.slice none 0 0)).c1
  clear hT hw5 hP
  go_wp2_with fail
  have hP' := HP.out
  rw [← HW5.out]
  clear c0 c1 f0 f1
  have c0 := hP'.two.c0
  have c1 := hP'.two.c1
  have FIN2 : MkR 4 (0, 0) w (.returned (.tuple #[.agg #[.slice none 0 0, .slice none 0 0], .int .i64 4])) w5 :=
    ⟨⟨_, _, rfl, Sl.nil _, Sl.nil _, New.nil _, New.nil _⟩, hP'.only.kp HK1.out (Nat.le_refl _)⟩
  exact bodyPost_ret (by simp [results, Tryz.results55, go_sem, c0, c1]) rfl FIN2
set_option maxRecDepth 100000 in
theorem Make_ok {xs ys : List Nat} {va vb : Value} {w : World} (ha : Sl w va xs) (hb : Sl w vb ys) (hx : wf xs = true) (hy : wf ys = true) (h0 : val ys ≠ 0) :
    Calls Tryz.prog 55 #[va, vb] w (MkR 0 (FracN.low (val xs) (val ys)) w) := by
  have hl0 : ys.length ≠ 0 := fun h => h0 ((wf_zero hb.lt hy).2 h)
  have HA := Lib.hid ha; have HX := Lib.hid hx; have HB := Lib.hid hb; have HY := Lib.hid hy; have H0 := Lib.hid h0
  have HEX := Lib.hid (wf_limbs_eq ha.lt hx); have HEY := Lib.hid (wf_limbs_eq hb.lt hy)
  obtain ⟨bo, cb, rfl, -⟩ := hb.ex
  obtain ⟨l, hl'⟩ : ∃ l, l = ys.length := ⟨_, rfl⟩
  rw [← hl'] at hl0 HB ⊢
  have hlz : ((l : Int) == 0) = false := beq_eq_false_iff_ne.2 (by omega)
  clear ha hb hx hy h0 hl0 hl'
  go_enter Tryz.func55, Tryz.ntmps55
  go_wp2_with fail
  obtain ⟨w1, hw1, HK1, HBB, hz1⟩ := start2 w 26
  rw [← hw1]
  clear hw1
  refine (check_any (HA.out.keep HK1.out)).mono ?_
  rintro e w' ⟨rfl, rfl⟩
  rw [HX.out]
  go_wp2_with fail
  refine (check_any (HB.out.keep HK1.out)).mono ?_
  rintro e w' ⟨rfl, rfl⟩
  rw [HY.out]
  go_wp2_with fail
  refine (reduced_n (a := val xs) (b := val ys) (by rw [← HEX.out.1]; exact HA.out.keep HK1.out) (by rw [← HEY.out.1]; exact HB.out.keep HK1.out) HEX.out.2 HEY.out.2 H0.out).mono ?_
  intro e w4 hq
  obtain ⟨⟨vn, vd, rfl, h1, h2, h3, h4⟩, hk⟩ := hq
  have HN := Lib.hid h1; have HD := Lib.hid h2; have HNN := Lib.hid h3; have HDN := Lib.hid h4; have HK4 := Lib.hid hk; clear h1 h2 h3 h4 hk
  obtain ⟨no, nl, nc, rfl⟩ := HN.out.open3
  obtain ⟨do', dl, dc, rfl⟩ := HD.out.open3
  have hT := HBB.out.keep HK4.out
  have hP := Put.made hT (.slice no nl nc) (.slice do' dl dc)
  obtain ⟨w5, hw5⟩ : ∃ w5, w5 = (w4.setCell ⟨w.heap.size, 0, none⟩ (.slice no nl nc)).setCell ⟨w.heap.size, 1, none⟩ (.slice do' dl dc) := ⟨_, rfl⟩
  rw [← hw5] at hP
  have HW5 := Lib.hid hw5
  have HP := Lib.hid hP
  have f0 := hT.free 0
  have c0 := hT.c0
  have f1 := (hT.set0 (.slice no nl nc)).free 1
  have c1 := (hT.set0 (.slice no nl nc)).c1
  clear hT hw5 hP
  go_wp2_with fail
  have hP' := HP.out
  rw [← HW5.out]
  clear c0 c1 f0 f1
  have c0 := hP'.two.c0
  have c1 := hP'.two.c1
  have FIN2 : MkR 0 (FracN.low (val xs) (val ys)) w (.returned (.tuple #[.agg #[.slice no nl nc, .slice do' dl dc], .int .i64 0])) w5 :=
    ⟨⟨_, _, rfl, HN.out.only hP'.only (HNN.out.offs hz1 _), HD.out.only hP'.only (HDN.out.offs hz1 _), HNN.out.mono HK1.out.size, HDN.out.mono HK1.out.size⟩, hP'.only.kp (Kp.trans HK1.out HK4.out) (Nat.le_refl _)⟩
  exact bodyPost_ret (by simp [results, Tryz.results55, go_sem, c0, c1]) rfl FIN2
theorem Make_any {xs ys : List Nat} {va vb : Value} {w : World} (ha : Sl w va xs) (hb : Sl w vb ys) : Calls Tryz.prog 55 #[va, vb] w (MkR (divE xs ys) (mkP xs ys) w) := by
  cases hx : wf xs with
  | false => exact (Make_bad1 ha hx).mono fun e w' h => mk_bad (divE_bad (.inl hx)) (by decide) h
  | true =>
    cases hy : wf ys with
    | false => exact (Make_bad2 ha hb hx hy).mono fun e w' h => mk_bad (divE_bad (.inr hy)) (by decide) h
    | true =>
      by_cases h0 : val ys = 0
      · exact (Make_zero ha hb hx hy h0).mono fun e w' h => mk_bad (divE_zero hx hy h0) (by decide) h
      · exact (Make_ok ha hb hx hy h0).mono fun e w' h => mk_good (divE_ok hx hy h0) h
set_option maxRecDepth 100000 in
theorem rMake_bad1 {xs : List Nat} {va vb : Value} {w : World} (ha : Sl w va xs) (hx : wf xs = false) :
    Calls Tryz.prog 16 #[va, vb] w (MkR 1 (0, 0) w) := by
  have HA := Lib.hid ha; have HX := Lib.hid hx; clear ha hx
  go_enter Tryz.func16, Tryz.ntmps16
  go_wp2_with fail
  obtain ⟨w1, hw1, HK1, HBB, hz1⟩ := start2 w 26
  rw [← hw1]
  clear hw1
  refine (rcheck_any (HA.out.keep HK1.out)).mono ?_
  rintro e w' ⟨rfl, rfl⟩
  rw [HX.out]
  have hT := HBB.out
  have hP := Put.made hT (.slice none 0 0) (.slice none 0 0)
  obtain ⟨w5, hw5⟩ : ∃ w5, w5 = (w1.setCell ⟨w.heap.size, 0, none⟩ (.slice none 0 0)).setCell ⟨w.heap.size, 1, none⟩ (.slice none 0 0) := ⟨_, rfl⟩
  rw [← hw5] at hP
  have HW5 := Lib.hid hw5
  have HP := Lib.hid hP
  have f0 := hT.free 0
  have c0 := hT.c0
  have f1 := (hT.set0 (.slice none 0 0)).free 1
  have c1 := (hT.set0 (.slice none 0 0)).c1
  clear hT hw5 hP
  go_wp2_with fail
  have hP' := HP.out
  rw [← HW5.out]
  clear c0 c1 f0 f1
  have c0 := hP'.two.c0
  have c1 := hP'.two.c1
  have FIN2 : MkR 1 (0, 0) w (.returned (.tuple #[.agg #[.slice none 0 0, .slice none 0 0], .int .i64 1])) w5 :=
    ⟨⟨_, _, rfl, Sl.nil _, Sl.nil _, New.nil _, New.nil _⟩, hP'.only.kp HK1.out (Nat.le_refl _)⟩
  exact bodyPost_ret (by simp [results, Tryz.results16, go_sem, c0, c1]) rfl FIN2
set_option maxRecDepth 100000 in
theorem rMake_bad2 {xs ys : List Nat} {va vb : Value} {w : World} (ha : Sl w va xs) (hb : Sl w vb ys) (hx : wf xs = true) (hy : wf ys = false) :
    Calls Tryz.prog 16 #[va, vb] w (MkR 1 (0, 0) w) := by
  have HA := Lib.hid ha; have HX := Lib.hid hx; have HB := Lib.hid hb; have HY := Lib.hid hy; clear ha hb hx hy
  go_enter Tryz.func16, Tryz.ntmps16
  go_wp2_with fail
  obtain ⟨w1, hw1, HK1, HBB, hz1⟩ := start2 w 26
  rw [← hw1]
  clear hw1
  refine (rcheck_any (HA.out.keep HK1.out)).mono ?_
  rintro e w' ⟨rfl, rfl⟩
  rw [HX.out]
  go_wp2_with fail
  refine (rcheck_any (HB.out.keep HK1.out)).mono ?_
  rintro e w' ⟨rfl, rfl⟩
  rw [HY.out]
  have hT := HBB.out
  have hP := Put.made hT (.slice none 0 0) (.slice none 0 0)
  obtain ⟨w5, hw5⟩ : ∃ w5, w5 = (w1.setCell ⟨w.heap.size, 0, none⟩ (.slice none 0 0)).setCell ⟨w.heap.size, 1, none⟩ (.slice none 0 0) := ⟨_, rfl⟩
  rw [← hw5] at hP
  have HW5 := Lib.hid hw5
  have HP := Lib.hid hP
  have f0 := hT.free 0
  have c0 := hT.c0
  have f1 := (hT.set0 (.slice none 0 0)).free 1
  have c1 := (hT.set0 (.slice none 0 0)).c1
  clear hT hw5 hP
  go_wp2_with fail
  have hP' := HP.out
  rw [← HW5.out]
  clear c0 c1 f0 f1
  have c0 := hP'.two.c0
  have c1 := hP'.two.c1
  have FIN2 : MkR 1 (0, 0) w (.returned (.tuple #[.agg #[.slice none 0 0, .slice none 0 0], .int .i64 1])) w5 :=
    ⟨⟨_, _, rfl, Sl.nil _, Sl.nil _, New.nil _, New.nil _⟩, hP'.only.kp HK1.out (Nat.le_refl _)⟩
  exact bodyPost_ret (by simp [results, Tryz.results16, go_sem, c0, c1]) rfl FIN2
set_option maxRecDepth 100000 in
theorem rMake_zero {xs ys : List Nat} {va vb : Value} {w : World} (ha : Sl w va xs) (hb : Sl w vb ys) (hx : wf xs = true) (hy : wf ys = true) (h0 : val ys = 0) :
    Calls Tryz.prog 16 #[va, vb] w (MkR 4 (0, 0) w) := by
  have hl0 : ys.length = 0 := (wf_zero hb.lt hy).1 h0
  have HA := Lib.hid ha; have HX := Lib.hid hx; have HB := Lib.hid hb; have HY := Lib.hid hy
  obtain ⟨bo, cb, rfl, -⟩ := hb.ex
  rw [hl0] at HB ⊢
  clear ha hb hx hy h0 hl0
  go_enter Tryz.func16, Tryz.ntmps16
  go_wp2_with fail
  obtain ⟨w1, hw1, HK1, HBB, hz1⟩ := start2 w 26
  rw [← hw1]
  clear hw1
  refine (rcheck_any (HA.out.keep HK1.out)).mono ?_
  rintro e w' ⟨rfl, rfl⟩
  rw [HX.out]
  go_wp2_with fail
  refine (rcheck_any (HB.out.keep HK1.out)).mono ?_
  rintro e w' ⟨rfl, rfl⟩
  rw [HY.out]
  have hT := HBB.out
  have hP := Put.made hT (.slice none 0 0) (.slice none 0 0)
  obtain ⟨w5, hw5⟩ : ∃ w5, w5 = (w1.setCell ⟨w.heap.size, 0, none⟩ (.slice none 0 0)).setCell ⟨w.heap.size, 1, none⟩ (.slice none 0 0) := ⟨_, rfl⟩
  rw [← hw5] at hP
  have HW5 := Lib.hid hw5
  have HP := Lib.hid hP
  have f0 := hT.free 0
  have c0 := hT.c0
  have f1 := (hT.set0 (.slice none 0 0)).free 1
  have c1 := (hT.set0 (.slice none 0 0)).c1
  clear hT hw5 hP
  go_wp2_with fail
  have hP' := HP.out
  rw [← HW5.out]
  clear c0 c1 f0 f1
  have c0 := hP'.two.c0
  have c1 := hP'.two.c1
  have FIN2 : MkR 4 (0, 0) w (.returned (.tuple #[.agg #[.slice none 0 0, .slice none 0 0], .int .i64 4])) w5 :=
    ⟨⟨_, _, rfl, Sl.nil _, Sl.nil _, New.nil _, New.nil _⟩, hP'.only.kp HK1.out (Nat.le_refl _)⟩
  exact bodyPost_ret (by simp [results, Tryz.results16, go_sem, c0, c1]) rfl FIN2
set_option maxRecDepth 100000 in
theorem rMake_ok {xs ys : List Nat} {va vb : Value} {w : World} (ha : Sl w va xs) (hb : Sl w vb ys) (hx : wf xs = true) (hy : wf ys = true) (h0 : val ys ≠ 0) :
    Calls Tryz.prog 16 #[va, vb] w (MkR 0 (FracN.low (val xs) (val ys)) w) := by
  have hl0 : ys.length ≠ 0 := fun h => h0 ((wf_zero hb.lt hy).2 h)
  have HA := Lib.hid ha; have HX := Lib.hid hx; have HB := Lib.hid hb; have HY := Lib.hid hy; have H0 := Lib.hid h0
  have HEX := Lib.hid (wf_limbs_eq ha.lt hx); have HEY := Lib.hid (wf_limbs_eq hb.lt hy)
  obtain ⟨bo, cb, rfl, -⟩ := hb.ex
  obtain ⟨l, hl'⟩ : ∃ l, l = ys.length := ⟨_, rfl⟩
  rw [← hl'] at hl0 HB ⊢
  have hlz : ((l : Int) == 0) = false := beq_eq_false_iff_ne.2 (by omega)
  clear ha hb hx hy h0 hl0 hl'
  go_enter Tryz.func16, Tryz.ntmps16
  go_wp2_with fail
  obtain ⟨w1, hw1, HK1, HBB, hz1⟩ := start2 w 26
  rw [← hw1]
  clear hw1
  refine (rcheck_any (HA.out.keep HK1.out)).mono ?_
  rintro e w' ⟨rfl, rfl⟩
  rw [HX.out]
  go_wp2_with fail
  refine (rcheck_any (HB.out.keep HK1.out)).mono ?_
  rintro e w' ⟨rfl, rfl⟩
  rw [HY.out]
  go_wp2_with fail
  refine (lowest_n (a := val xs) (b := val ys) (by rw [← HEX.out.1]; exact HA.out.keep HK1.out) (by rw [← HEY.out.1]; exact HB.out.keep HK1.out) (Nat.le_trans HEX.out.2 (by decide)) (Nat.le_trans HEY.out.2 (by decide)) H0.out).mono ?_
  intro e w4 hq
  obtain ⟨⟨vn, vd, rfl, h1, h2, h3, h4⟩, hk⟩ := hq
  have HN := Lib.hid h1; have HD := Lib.hid h2; have HNN := Lib.hid h3; have HDN := Lib.hid h4; have HK4 := Lib.hid hk; clear h1 h2 h3 h4 hk
  obtain ⟨no, nl, nc, rfl⟩ := HN.out.open3
  obtain ⟨do', dl, dc, rfl⟩ := HD.out.open3
  have hT := HBB.out.keep HK4.out
  have hP := Put.made hT (.slice no nl nc) (.slice do' dl dc)
  obtain ⟨w5, hw5⟩ : ∃ w5, w5 = (w4.setCell ⟨w.heap.size, 0, none⟩ (.slice no nl nc)).setCell ⟨w.heap.size, 1, none⟩ (.slice do' dl dc) := ⟨_, rfl⟩
  rw [← hw5] at hP
  have HW5 := Lib.hid hw5
  have HP := Lib.hid hP
  have f0 := hT.free 0
  have c0 := hT.c0
  have f1 := (hT.set0 (.slice no nl nc)).free 1
  have c1 := (hT.set0 (.slice no nl nc)).c1
  clear hT hw5 hP
  go_wp2_with fail
  have hP' := HP.out
  rw [← HW5.out]
  clear c0 c1 f0 f1
  have c0 := hP'.two.c0
  have c1 := hP'.two.c1
  have FIN2 : MkR 0 (FracN.low (val xs) (val ys)) w (.returned (.tuple #[.agg #[.slice no nl nc, .slice do' dl dc], .int .i64 0])) w5 :=
    ⟨⟨_, _, rfl, HN.out.only hP'.only (HNN.out.offs hz1 _), HD.out.only hP'.only (HDN.out.offs hz1 _), HNN.out.mono HK1.out.size, HDN.out.mono HK1.out.size⟩, hP'.only.kp (Kp.trans HK1.out HK4.out) (Nat.le_refl _)⟩
  exact bodyPost_ret (by simp [results, Tryz.results16, go_sem, c0, c1]) rfl FIN2
theorem rMake_any {xs ys : List Nat} {va vb : Value} {w : World} (ha : Sl w va xs) (hb : Sl w vb ys) : Calls Tryz.prog 16 #[va, vb] w (MkR (divE xs ys) (mkP xs ys) w) := by
  cases hx : wf xs with
  | false => exact (rMake_bad1 ha hx).mono fun e w' h => mk_bad (divE_bad (.inl hx)) (by decide) h
  | true =>
    cases hy : wf ys with
    | false => exact (rMake_bad2 ha hb hx hy).mono fun e w' h => mk_bad (divE_bad (.inr hy)) (by decide) h
    | true =>
      by_cases h0 : val ys = 0
      · exact (rMake_zero ha hb hx hy h0).mono fun e w' h => mk_bad (divE_zero hx hy h0) (by decide) h
      · exact (rMake_ok ha hb hx hy h0).mono fun e w' h => mk_good (divE_ok hx hy h0) h
end Go.Proofs.YtdoponlhiidimaaGreatDoor

/- Of on both sides: a fraction of two ints in lowest terms, or an error. Conditions: none but that the arguments are what they are said to be. -/
namespace Go.Proofs.YtdoponlhiidimaaGreatDoor
open Go.RowKit LimbN
set_option maxRecDepth 100000 in
theorem Of_neg {z y : Int} {w : World} (h : z < 0 ∨ y < 0) : Calls Tryz.prog 35 #[.int .i64 z, .int .i64 y] w (MkR 5 (0, 0) w) := by
  by_cases hz : z < 0
  · have hz' : decide (z < 0) = true := decide_eq_true hz
    clear hz h
    have hT := Two.new w 26 (Value.slice none 0 0) (Value.slice none 0 0)
    have HK1 : Hid (Kp w (w.alloc (Obj.cells #[Value.slice none 0 0, Value.slice none 0 0] 26))) := Kp.alloc (Kp.refl _) _
    have c0 := hT.c0
    have c1 := hT.c1
    clear hT
    go_enter Tryz.func35, Tryz.ntmps35
    go_wp2_with fail
    exact bodyPost_ret (by simp [results, Tryz.results35, go_sem]) rfl
      ⟨⟨_, _, rfl, Sl.nil _, Sl.nil _, New.nil _, New.nil _⟩, HK1.out⟩
  · have hz' : decide (z < 0) = false := decide_eq_false hz
    have hy' : decide (y < 0) = true := decide_eq_true (by omega)
    clear hz h
    have hT := Two.new w 26 (Value.slice none 0 0) (Value.slice none 0 0)
    have HK1 : Hid (Kp w (w.alloc (Obj.cells #[Value.slice none 0 0, Value.slice none 0 0] 26))) := Kp.alloc (Kp.refl _) _
    have c0 := hT.c0
    have c1 := hT.c1
    clear hT
    go_enter Tryz.func35, Tryz.ntmps35
    go_wp2_with fail
    exact bodyPost_ret (by simp [results, Tryz.results35, go_sem]) rfl
      ⟨⟨_, _, rfl, Sl.nil _, Sl.nil _, New.nil _, New.nil _⟩, HK1.out⟩
set_option maxRecDepth 100000 in
theorem Of_ok {a b : Nat} {w : World} (ha : a < 9223372036854775808) (hb : b < 9223372036854775808) : Calls Tryz.prog 35 #[.int .i64 a, .int .i64 b] w (MkR (divE (limbs a) (limbs b)) (mkP (limbs a) (limbs b)) w) := by
  have hz' : decide ((a : Int) < 0) = false := decide_eq_false (by omega)
  have hy' : decide ((b : Int) < 0) = false := decide_eq_false (by omega)
  have hwa : IntKind.u64.wrap (a : Int) = (a : Int) := wrap_inu (by omega) (by omega)
  have hwb : IntKind.u64.wrap (b : Int) = (b : Int) := wrap_inu (by omega) (by omega)
  have HA : Hid (a < 18446744073709551616) := by show _ < _; omega
  have HB : Hid (b < 18446744073709551616) := by show _ < _; omega
  clear ha hb
  obtain ⟨E, hE⟩ : ∃ E, E = divE (limbs a) (limbs b) := ⟨_, rfl⟩
  obtain ⟨p, hp⟩ : ∃ p, p = mkP (limbs a) (limbs b) := ⟨_, rfl⟩
  rw [← hE, ← hp]
  have HE := Lib.hid hE; have HPP := Lib.hid hp; clear hE hp
  go_enter Tryz.func35, Tryz.ntmps35
  go_wp2_with fail
  obtain ⟨w1, hw1, HK1, HBB, hz1⟩ := start2 w 26
  rw [← hw1]
  clear hw1
  refine (of_any a w1 HA.out).mono ?_
  rintro e w2 ⟨va, rfl, h1, -, h2⟩
  have HVA := Lib.hid h1; have HK2 := Lib.hid h2; clear h1 h2
  go_wp2_with fail
  refine (of_any b w2 HB.out).mono ?_
  rintro e w3 ⟨vb, rfl, h1, -, h2⟩
  have HVB := Lib.hid h1; have HK3 := Lib.hid h2; clear h1 h2
  go_wp2_with fail
  refine (Make_any (HVA.out.keep HK3.out) HVB.out).mono ?_
  rw [← HE.out, ← HPP.out]
  intro e w4 hq
  obtain ⟨⟨vn, vd, rfl, h1, h2, h3, h4⟩, hk⟩ := hq
  have HN := Lib.hid h1; have HD := Lib.hid h2; have HNN := Lib.hid h3; have HDN := Lib.hid h4; have HK4 := Lib.hid (Kp.trans (Kp.trans HK2.out HK3.out) hk); have HS := Lib.hid (Nat.le_trans HK2.out.size HK3.out.size); clear h1 h2 h3 h4 hk
  obtain ⟨no, nl, nc, rfl⟩ := HN.out.open3
  obtain ⟨do', dl, dc, rfl⟩ := HD.out.open3
  have hT := HBB.out.keep HK4.out
  have hP := Put.made hT (.slice no nl nc) (.slice do' dl dc)
  obtain ⟨w5, hw5⟩ : ∃ w5, w5 = (w4.setCell ⟨w.heap.size, 0, none⟩ (.slice no nl nc)).setCell ⟨w.heap.size, 1, none⟩ (.slice do' dl dc) := ⟨_, rfl⟩
  rw [← hw5] at hP
  have HW5 := Lib.hid hw5
  have HP := Lib.hid hP
  have f0 := hT.free 0
  have c0 := hT.c0
  have f1 := (hT.set0 (.slice no nl nc)).free 1
  have c1 := (hT.set0 (.slice no nl nc)).c1
  clear hT hw5 hP
  go_wp2_with fail
  have hP' := HP.out
  rw [← HW5.out]
  clear c0 c1 f0 f1
  have c0 := hP'.two.c0
  have c1 := hP'.two.c1
  have FIN2 : MkR E p w (.returned (.tuple #[.agg #[.slice no nl nc, .slice do' dl dc], .int .i64 E])) w5 :=
    ⟨⟨_, _, rfl, HN.out.only hP'.only (HNN.out.offs (Nat.lt_of_lt_of_le hz1 HS.out) _), HD.out.only hP'.only (HDN.out.offs (Nat.lt_of_lt_of_le hz1 HS.out) _), HNN.out.mono (Nat.le_trans HK1.out.size HS.out), HDN.out.mono (Nat.le_trans HK1.out.size HS.out)⟩, hP'.only.kp (Kp.trans HK1.out HK4.out) (Nat.le_refl _)⟩
  exact bodyPost_ret (by simp [results, Tryz.results35, go_sem, c0, c1]) rfl FIN2
end Go.Proofs.YtdoponlhiidimaaGreatDoor

/- Check on both sides. Condition: the slices hold the digits that are named. -/
namespace Go.Proofs.YtdoponlhiidimaaGreatDoor
open Go.RowKit LimbN

/-- what makes a fraction well-formed. -/
def frOk (xs ys : List Nat) : Bool := wf xs && (wf ys && (decide (val ys ≠ 0) && (Nat.gcd (val xs) (val ys) == 1)))
theorem frOk_b1 {xs ys : List Nat} (h : wf xs = false) : frOk xs ys = false := by unfold frOk; rw [h]; rfl
theorem frOk_b2 {xs ys : List Nat} (h : wf ys = false) : frOk xs ys = false := by unfold frOk; rw [h]; simp
theorem frOk_b3 {xs ys : List Nat} (h : val ys = 0) : frOk xs ys = false := by unfold frOk; simp [h]
theorem frOk_ok {xs ys : List Nat} (hx : wf xs = true) (hy : wf ys = true) (h0 : val ys ≠ 0) : frOk xs ys = (Nat.gcd (val xs) (val ys) == 1) := by unfold frOk; simp [hx, hy, h0]
/-- a struct of slices lies in memory. -/
theorem box2 (w : World) (t : TypeId) (x y : Value) : ∃ w1, w1 = w.alloc (Obj.cells #[x, y] t) ∧ Hid (Kp w w1) ∧ Hid (Two w1 w.heap.size t x y) ∧ w.heap.size < w1.heap.size :=
  ⟨_, rfl, Kp.alloc (Kp.refl _) _, Two.new _ _ _ _, by simp⟩
set_option maxRecDepth 100000 in
theorem Check_b1 {xs ys : List Nat} {va vb : Value} {w : World} (ha : Sl w va xs) (hb : Sl w vb ys) (hx : wf xs = false) :
    Calls Tryz.prog 17 #[.agg #[va, vb]] w fun e w' => e = .returned (.bool false) ∧ Kp w w' := by
  have HX := Lib.hid hx; clear hx
  obtain ⟨ao, al, ac, rfl⟩ := ha.open3
  obtain ⟨bo, bl, bc, rfl⟩ := hb.open3
  obtain ⟨w1, hw1, HK1, HBB, hz1⟩ := box2 w 26 (.slice ao al ac) (.slice bo bl bc)
  have HA := Lib.hid (ha.keep HK1.out); have HB := Lib.hid (hb.keep HK1.out); clear ha hb
  have c0 := HBB.out.c0
  have c1 := HBB.out.c1
  have HW1 := Lib.hid hw1; clear hw1
  go_enter Tryz.func17, Tryz.ntmps17
  go_wp2_with fail
  rw [← HW1.out]
  refine (check_any HA.out).mono ?_
  rintro e w' ⟨rfl, rfl⟩
  rw [HX.out]
  go_wp2
  go_ret
  exact ⟨rfl, HK1.out⟩
set_option maxRecDepth 100000 in
theorem Check_b2 {xs ys : List Nat} {va vb : Value} {w : World} (ha : Sl w va xs) (hb : Sl w vb ys) (hx : wf xs = true) (hy : wf ys = false) :
    Calls Tryz.prog 17 #[.agg #[va, vb]] w fun e w' => e = .returned (.bool false) ∧ Kp w w' := by
  have HX := Lib.hid hx; have HY := Lib.hid hy; clear hx hy
  obtain ⟨ao, al, ac, rfl⟩ := ha.open3
  obtain ⟨bo, bl, bc, rfl⟩ := hb.open3
  obtain ⟨w1, hw1, HK1, HBB, hz1⟩ := box2 w 26 (.slice ao al ac) (.slice bo bl bc)
  have HA := Lib.hid (ha.keep HK1.out); have HB := Lib.hid (hb.keep HK1.out); clear ha hb
  have c0 := HBB.out.c0
  have c1 := HBB.out.c1
  have HW1 := Lib.hid hw1; clear hw1
  go_enter Tryz.func17, Tryz.ntmps17
  go_wp2_with fail
  rw [← HW1.out]
  refine (check_any HA.out).mono ?_
  rintro e w' ⟨rfl, rfl⟩
  rw [HX.out]
  go_wp2_with fail
  refine (check_any HB.out).mono ?_
  rintro e w' ⟨rfl, rfl⟩
  rw [HY.out]
  go_wp2
  go_ret
  exact ⟨rfl, HK1.out⟩
set_option maxRecDepth 100000 in
theorem Check_b3 {xs ys : List Nat} {va vb : Value} {w : World} (ha : Sl w va xs) (hb : Sl w vb ys) (hx : wf xs = true) (hy : wf ys = true) (h0 : val ys = 0) :
    Calls Tryz.prog 17 #[.agg #[va, vb]] w fun e w' => e = .returned (.bool false) ∧ Kp w w' := by
  have hl0 : ys.length = 0 := (wf_zero hb.lt hy).1 h0
  have HX := Lib.hid hx; have HY := Lib.hid hy; clear hx hy h0
  obtain ⟨ao, al, ac, rfl⟩ := ha.open3
  obtain ⟨bo, bc, rfl, -⟩ := hb.ex
  obtain ⟨bl, hbl⟩ : ∃ bl, bl = ys.length := ⟨_, rfl⟩
  rw [← hbl] at hb hl0 ⊢
  clear hbl
  subst hl0
  obtain ⟨w1, hw1, HK1, HBB, hz1⟩ := box2 w 26 (.slice ao al ac) (.slice bo 0 bc)
  have HA := Lib.hid (ha.keep HK1.out); have HB := Lib.hid (hb.keep HK1.out); clear ha hb
  have c0 := HBB.out.c0
  have c1 := HBB.out.c1
  have HW1 := Lib.hid hw1; clear hw1
  go_enter Tryz.func17, Tryz.ntmps17
  go_wp2_with fail
  rw [← HW1.out]
  refine (check_any HA.out).mono ?_
  rintro e w' ⟨rfl, rfl⟩
  rw [HX.out]
  go_wp2_with fail
  refine (check_any HB.out).mono ?_
  rintro e w' ⟨rfl, rfl⟩
  rw [HY.out]
  go_wp2
  go_ret
  exact ⟨rfl, HK1.out⟩
set_option maxRecDepth 100000 in
theorem Check_ok {xs ys : List Nat} {va vb : Value} {w : World} (ha : Sl w va xs) (hb : Sl w vb ys) (hx : wf xs = true) (hy : wf ys = true) (h0 : val ys ≠ 0) :
    Calls Tryz.prog 17 #[.agg #[va, vb]] w fun e w' => e = .returned (.bool (Nat.gcd (val xs) (val ys) == 1)) ∧ Kp w w' := by
  have hl0 : ys.length ≠ 0 := fun h => h0 ((wf_zero hb.lt hy).2 h)
  have hlz : ((ys.length : Int) == 0) = false := beq_eq_false_iff_ne.2 (by omega)
  have HEX := Lib.hid (wf_canon ha.lt hx); have HEY := Lib.hid (wf_canon hb.lt hy)
  have HX := Lib.hid hx; have HY := Lib.hid hy; clear hx hy h0 hl0
  obtain ⟨b, hbq⟩ : ∃ b : Bool, b = (Nat.gcd (val xs) (val ys) == 1) := ⟨_, rfl⟩
  rw [← hbq]
  have HBQ := Lib.hid hbq; clear hbq
  obtain ⟨ao, al, ac, rfl⟩ := ha.open3
  obtain ⟨bo, bc, rfl, -⟩ := hb.ex
  obtain ⟨bl, hbl⟩ : ∃ bl, bl = ys.length := ⟨_, rfl⟩
  rw [← hbl] at hb hlz ⊢
  clear hbl
  obtain ⟨w1, hw1, HK1, HBB, hz1⟩ := box2 w 26 (.slice ao al ac) (.slice bo bl bc)
  have HA := Lib.hid (ha.keep HK1.out); have HB := Lib.hid (hb.keep HK1.out); clear ha hb
  have c0 := HBB.out.c0
  have c1 := HBB.out.c1
  have HW1 := Lib.hid hw1; clear hw1
  go_enter Tryz.func17, Tryz.ntmps17
  go_wp2_with fail
  rw [← HW1.out]
  refine (check_any HA.out).mono ?_
  rintro e w' ⟨rfl, rfl⟩
  rw [HX.out]
  go_wp2_with fail
  refine (check_any HB.out).mono ?_
  rintro e w' ⟨rfl, rfl⟩
  rw [HY.out]
  go_wp2_with fail
  refine (Gcd_ok HA.out HB.out HX.out HY.out).mono ?_
  intro e w2 hq
  obtain ⟨⟨vg, rfl, h1, h2⟩, hk⟩ := hq
  have HG := Lib.hid h1; have HK2 := Lib.hid (Kp.trans HK1.out hk); clear h1 h2 hk
  go_wp2_with fail
  refine (isOne_n HG.out).mono ?_
  rintro e w' ⟨he, rfl⟩
  have he' : e = .returned (.bool b) := by rw [he, HBQ.out]; rfl
  subst he'
  clear he
  go_wp2
  go_ret
  exact ⟨rfl, HK2.out⟩
theorem Check_any {xs ys : List Nat} {va vb : Value} {w : World} (ha : Sl w va xs) (hb : Sl w vb ys) : Calls Tryz.prog 17 #[.agg #[va, vb]] w fun e w' => e = .returned (.bool (frOk xs ys)) ∧ Kp w w' := by
  cases hx : wf xs with
  | false => rw [frOk_b1 hx]; exact Check_b1 ha hb hx
  | true =>
    cases hy : wf ys with
    | false => rw [frOk_b2 hy]; exact Check_b2 ha hb hx hy
    | true =>
      by_cases h0 : val ys = 0
      · rw [frOk_b3 h0]; exact Check_b3 ha hb hx hy h0
      · rw [frOk_ok hx hy h0]; exact Check_ok ha hb hx hy h0
set_option maxRecDepth 100000 in
theorem rCheck_b1 {xs ys : List Nat} {va vb : Value} {w : World} (ha : Sl w va xs) (hb : Sl w vb ys) (hx : wf xs = false) :
    Calls Tryz.prog 21 #[.agg #[va, vb]] w fun e w' => e = .returned (.bool false) ∧ Kp w w' := by
  have HX := Lib.hid hx; clear hx
  obtain ⟨ao, al, ac, rfl⟩ := ha.open3
  obtain ⟨bo, bl, bc, rfl⟩ := hb.open3
  obtain ⟨w1, hw1, HK1, HBB, hz1⟩ := box2 w 26 (.slice ao al ac) (.slice bo bl bc)
  have HA := Lib.hid (ha.keep HK1.out); have HB := Lib.hid (hb.keep HK1.out); clear ha hb
  have c0 := HBB.out.c0
  have c1 := HBB.out.c1
  have HW1 := Lib.hid hw1; clear hw1
  go_enter Tryz.func21, Tryz.ntmps21
  go_wp2_with fail
  rw [← HW1.out]
  refine (rcheck_any HA.out).mono ?_
  rintro e w' ⟨rfl, rfl⟩
  rw [HX.out]
  go_wp2
  go_ret
  exact ⟨rfl, HK1.out⟩
set_option maxRecDepth 100000 in
theorem rCheck_b2 {xs ys : List Nat} {va vb : Value} {w : World} (ha : Sl w va xs) (hb : Sl w vb ys) (hx : wf xs = true) (hy : wf ys = false) :
    Calls Tryz.prog 21 #[.agg #[va, vb]] w fun e w' => e = .returned (.bool false) ∧ Kp w w' := by
  have HX := Lib.hid hx; have HY := Lib.hid hy; clear hx hy
  obtain ⟨ao, al, ac, rfl⟩ := ha.open3
  obtain ⟨bo, bl, bc, rfl⟩ := hb.open3
  obtain ⟨w1, hw1, HK1, HBB, hz1⟩ := box2 w 26 (.slice ao al ac) (.slice bo bl bc)
  have HA := Lib.hid (ha.keep HK1.out); have HB := Lib.hid (hb.keep HK1.out); clear ha hb
  have c0 := HBB.out.c0
  have c1 := HBB.out.c1
  have HW1 := Lib.hid hw1; clear hw1
  go_enter Tryz.func21, Tryz.ntmps21
  go_wp2_with fail
  rw [← HW1.out]
  refine (rcheck_any HA.out).mono ?_
  rintro e w' ⟨rfl, rfl⟩
  rw [HX.out]
  go_wp2_with fail
  refine (rcheck_any HB.out).mono ?_
  rintro e w' ⟨rfl, rfl⟩
  rw [HY.out]
  go_wp2
  go_ret
  exact ⟨rfl, HK1.out⟩
set_option maxRecDepth 100000 in
theorem rCheck_b3 {xs ys : List Nat} {va vb : Value} {w : World} (ha : Sl w va xs) (hb : Sl w vb ys) (hx : wf xs = true) (hy : wf ys = true) (h0 : val ys = 0) :
    Calls Tryz.prog 21 #[.agg #[va, vb]] w fun e w' => e = .returned (.bool false) ∧ Kp w w' := by
  have hl0 : ys.length = 0 := (wf_zero hb.lt hy).1 h0
  have HX := Lib.hid hx; have HY := Lib.hid hy; clear hx hy h0
  obtain ⟨ao, al, ac, rfl⟩ := ha.open3
  obtain ⟨bo, bc, rfl, -⟩ := hb.ex
  obtain ⟨bl, hbl⟩ : ∃ bl, bl = ys.length := ⟨_, rfl⟩
  rw [← hbl] at hb hl0 ⊢
  clear hbl
  subst hl0
  obtain ⟨w1, hw1, HK1, HBB, hz1⟩ := box2 w 26 (.slice ao al ac) (.slice bo 0 bc)
  have HA := Lib.hid (ha.keep HK1.out); have HB := Lib.hid (hb.keep HK1.out); clear ha hb
  have c0 := HBB.out.c0
  have c1 := HBB.out.c1
  have HW1 := Lib.hid hw1; clear hw1
  go_enter Tryz.func21, Tryz.ntmps21
  go_wp2_with fail
  rw [← HW1.out]
  refine (rcheck_any HA.out).mono ?_
  rintro e w' ⟨rfl, rfl⟩
  rw [HX.out]
  go_wp2_with fail
  refine (rcheck_any HB.out).mono ?_
  rintro e w' ⟨rfl, rfl⟩
  rw [HY.out]
  go_wp2
  go_ret
  exact ⟨rfl, HK1.out⟩
set_option maxRecDepth 100000 in
theorem rCheck_ok {xs ys : List Nat} {va vb : Value} {w : World} (ha : Sl w va xs) (hb : Sl w vb ys) (hx : wf xs = true) (hy : wf ys = true) (h0 : val ys ≠ 0) :
    Calls Tryz.prog 21 #[.agg #[va, vb]] w fun e w' => e = .returned (.bool (Nat.gcd (val xs) (val ys) == 1)) ∧ Kp w w' := by
  have hl0 : ys.length ≠ 0 := fun h => h0 ((wf_zero hb.lt hy).2 h)
  have hlz : decide (0 < ys.length) = true := decide_eq_true (by omega)
  have HEX := Lib.hid (wf_canon ha.lt hx); have HEY := Lib.hid (wf_canon hb.lt hy)
  have HX := Lib.hid hx; have HY := Lib.hid hy; clear hx hy h0 hl0
  obtain ⟨b, hbq⟩ : ∃ b : Bool, b = (Nat.gcd (val xs) (val ys) == 1) := ⟨_, rfl⟩
  rw [← hbq]
  have HBQ := Lib.hid hbq; clear hbq
  obtain ⟨ao, al, ac, rfl⟩ := ha.open3
  obtain ⟨bo, bc, rfl, -⟩ := hb.ex
  obtain ⟨bl, hbl⟩ : ∃ bl, bl = ys.length := ⟨_, rfl⟩
  rw [← hbl] at hb hlz ⊢
  clear hbl
  obtain ⟨w1, hw1, HK1, HBB, hz1⟩ := box2 w 26 (.slice ao al ac) (.slice bo bl bc)
  have HA := Lib.hid (ha.keep HK1.out); have HB := Lib.hid (hb.keep HK1.out); clear ha hb
  have c0 := HBB.out.c0
  have c1 := HBB.out.c1
  have HW1 := Lib.hid hw1; clear hw1
  go_enter Tryz.func21, Tryz.ntmps21
  go_wp2_with fail
  rw [← HW1.out]
  refine (rcheck_any HA.out).mono ?_
  rintro e w' ⟨rfl, rfl⟩
  rw [HX.out]
  go_wp2_with fail
  refine (rcheck_any HB.out).mono ?_
  rintro e w' ⟨rfl, rfl⟩
  rw [HY.out]
  go_wp2_with fail
  refine (Common_any (a := val xs) (b := val ys) (by rw [HEX.out.1]; exact HA.out) (by rw [HEY.out.1]; exact HB.out) (by rw [HEX.out.1]; exact Nat.le_trans HEX.out.2 (by decide)) (by rw [HEY.out.1]; exact Nat.le_trans HEY.out.2 (by decide))).mono ?_
  intro e w2 hq
  obtain ⟨⟨vg, rfl, h1, h2⟩, hk⟩ := hq
  have HG := Lib.hid h1; have HK2 := Lib.hid (Kp.trans HK1.out hk); clear h1 h2 hk
  have HSL := fun e => Lib.hid (sl_lit (w := w2) (e := e) [1] (Lt.cons (by decide) Lt.nil) (by simp))
  go_wp2_with fail
  refine (order_any (ys := limbs 1) (HG.out.keep (Kp.alloc (Kp.refl _) _)) (HSL _).out).mono ?_
  rintro e w3 ⟨rfl, hd⟩
  rw [cmp_val]
  obtain ⟨T, hT⟩ : ∃ T : Int, T = if Nat.gcd (val xs) (val ys) < 1 then -1 else if 1 < Nat.gcd (val xs) (val ys) then 1 else 0 := ⟨_, rfl⟩
  have hq : b = (T == 0) := by
    rw [hT, HBQ.out]
    rcases Nat.lt_trichotomy (Nat.gcd (val xs) (val ys)) 1 with h | h | h
    · rw [if_pos h, beq_eq_false_iff_ne.2 (by omega)]; rfl
    · rw [h]; rfl
    · rw [if_neg (by omega), if_pos h, beq_eq_false_iff_ne.2 (by omega)]; rfl
  rw [← hT]
  subst hq
  have HK3 := Lib.hid (Kp.trans (Kp.alloc HK2.out _) hd.kp); clear hd hT HBQ
  go_wp2
  go_ret
  exact ⟨rfl, HK3.out⟩
theorem rCheck_any {xs ys : List Nat} {va vb : Value} {w : World} (ha : Sl w va xs) (hb : Sl w vb ys) : Calls Tryz.prog 21 #[.agg #[va, vb]] w fun e w' => e = .returned (.bool (frOk xs ys)) ∧ Kp w w' := by
  cases hx : wf xs with
  | false => rw [frOk_b1 hx]; exact rCheck_b1 ha hb hx
  | true =>
    cases hy : wf ys with
    | false => rw [frOk_b2 hy]; exact rCheck_b2 ha hb hx hy
    | true =>
      by_cases h0 : val ys = 0
      · rw [frOk_b3 h0]; exact rCheck_b3 ha hb hx hy h0
      · rw [frOk_ok hx hy h0]; exact rCheck_ok ha hb hx hy h0
end Go.Proofs.YtdoponlhiidimaaGreatDoor
