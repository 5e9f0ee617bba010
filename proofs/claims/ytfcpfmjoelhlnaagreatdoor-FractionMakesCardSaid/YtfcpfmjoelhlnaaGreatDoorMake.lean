/- Make on both sides: a fraction in lowest terms, or an error. Conditions: the slices hold the digits that are named. -/
import Derived.Test.YtfcpfmjoelhlnaaGreatDoorRLow
namespace Go.Proofs.YtfcpfmjoelhlnaaGreatDoor
open Go.RowKit LimbN

/-- The world behind a function's own struct. -/
theorem start2 (w : World) (t : TypeId) : ∃ w1, w1 = w.alloc (Obj.cells #[Value.slice none 0 0, Value.slice none 0 0] t) ∧ Hid (Kp w w1) ∧ Hid (Two w1 w.heap.size t (Value.slice none 0 0) (Value.slice none 0 0)) ∧ w.heap.size < w1.heap.size :=
  ⟨_, rfl, Kp.alloc (Kp.refl _) _, Two.new _ _ _ _, by simp⟩
/-- a fraction and an error. -/
structure MkR (E : Int) (p : Nat × Nat) (w : World) (e : Ending) (w' : World) : Prop where
  ex : ∃ vn vd, e = .returned (.tuple #[.agg #[vn, vd], .int .i64 E]) ∧ Sl w' vn (limbs p.1) ∧ Sl w' vd (limbs p.2) ∧ New w.heap.size vn ∧ New w.heap.size vd
  kp : Kp w w'
/-- the fraction that Make answers. -/
noncomputable def mkP (xs ys : List Nat) : Nat × Nat := open Classical in if divE xs ys = 0 then FracN.low (val xs) (val ys) else (0, 0)
theorem mk_bad {xs ys : List Nat} {E : Int} (h : divE xs ys = E) (hE : E ≠ 0) {w w' : World} {e : Ending} (hr : MkR E (0, 0) w e w') : MkR (divE xs ys) (mkP xs ys) w e w' := by
  unfold mkP
  rw [h, if_neg hE]
  exact hr
theorem mk_good {xs ys : List Nat} (h : divE xs ys = 0) {w w' : World} {e : Ending} (hr : MkR 0 (FracN.low (val xs) (val ys)) w e w') : MkR (divE xs ys) (mkP xs ys) w e w' := by
  unfold mkP
  rw [h, if_pos rfl]
  exact hr
theorem divE_bad {xs ys : List Nat} (h : wf xs = false ∨ wf ys = false) : divE xs ys = 1 := by unfold divE; rw [if_pos h]
theorem divE_zero {xs ys : List Nat} (hx : wf xs = true) (hy : wf ys = true) (h0 : val ys = 0) : divE xs ys = 4 := by unfold divE; rw [if_neg (by simp [hx, hy]), if_pos h0]
theorem divE_ok {xs ys : List Nat} (hx : wf xs = true) (hy : wf ys = true) (h0 : val ys ≠ 0) : divE xs ys = 0 := by unfold divE; rw [if_neg (by simp [hx, hy]), if_neg h0]
/-- a number's digits are the list that reads as it, if the list is well-formed. -/
theorem wf_limbs_eq {xs : List Nat} (hl : Lt xs) (h : wf xs = true) : xs = limbs (val xs) ∧ (limbs (val xs)).length ≤ 128 := by
  have h2 := wf_canon hl h
  exact ⟨h2.1.symm, by rw [h2.1]; exact h2.2⟩
set_option maxRecDepth 100000 in
theorem Make_bad1 {xs : List Nat} {va vb : Value} {w : World} (ha : Sl w va xs) (hx : wf xs = false) :
    Calls Tryz.prog 9 #[va, vb] w (MkR 1 (0, 0) w) := by
  have HA := Lib.hid ha; have HX := Lib.hid hx; clear ha hx
  go_enter Tryz.func9, Tryz.ntmps9
  go_wp2_with fail
  obtain ⟨w1, hw1, HK1, HBB, hz1⟩ := start2 w 25
  rw [← hw1]
  clear hw1
  refine (check_any (HA.out.keep HK1.out)).mono ?_
  rintro e w' ⟨rfl, rfl⟩
  rw [HX.out]
  have hT := HBB.out
  have hP := Put.made hT (.slice none 0 0) (.slice none 0 0)
  obtain ⟨w5, hw5⟩ : ∃ w5, w5 = (w1.setCell ⟨w.heap.size, 0, none⟩ (.slice none 0 0)).setCell ⟨w.heap.size, 1, none⟩ (.slice none 0 0) := ⟨_, rfl⟩
  rw [← hw5] at hP
  have HW5 := Lib.hid hw5
  have HP := Lib.hid hP
  have f0 := hT.free 0
  have c0 := hT.c0
  have f1 := (hT.set0 (.slice none 0 0)).free 1
  have c1 := (hT.set0 (.slice none 0 0)).c1
  clear hT hw5 hP
  go_wp2_with fail
  have hP' := HP.out
  rw [← HW5.out]
  clear c0 c1 f0 f1
  have c0 := hP'.two.c0
  have c1 := hP'.two.c1
  have FIN2 : MkR 1 (0, 0) w (.returned (.tuple #[.agg #[.slice none 0 0, .slice none 0 0], .int .i64 1])) w5 :=
    ⟨⟨_, _, rfl, Sl.nil _, Sl.nil _, New.nil _, New.nil _⟩, hP'.only.kp HK1.out (Nat.le_refl _)⟩
  exact bodyPost_ret (by simp [results, Tryz.results9, go_sem, c0, c1]) rfl FIN2
set_option maxRecDepth 100000 in
theorem Make_bad2 {xs ys : List Nat} {va vb : Value} {w : World} (ha : Sl w va xs) (hb : Sl w vb ys) (hx : wf xs = true) (hy : wf ys = false) :
    Calls Tryz.prog 9 #[va, vb] w (MkR 1 (0, 0) w) := by
  have HA := Lib.hid ha; have HX := Lib.hid hx; have HB := Lib.hid hb; have HY := Lib.hid hy; clear ha hb hx hy
  go_enter Tryz.func9, Tryz.ntmps9
  go_wp2_with fail
  obtain ⟨w1, hw1, HK1, HBB, hz1⟩ := start2 w 25
  rw [← hw1]
  clear hw1
  refine (check_any (HA.out.keep HK1.out)).mono ?_
  rintro e w' ⟨rfl, rfl⟩
  rw [HX.out]
  go_wp2_with fail
  refine (check_any (HB.out.keep HK1.out)).mono ?_
  rintro e w' ⟨rfl, rfl⟩
  rw [HY.out]
  have hT := HBB.out
  have hP := Put.made hT (.slice none 0 0) (.slice none 0 0)
  obtain ⟨w5, hw5⟩ : ∃ w5, w5 = (w1.setCell ⟨w.heap.size, 0, none⟩ (.slice none 0 0)).setCell ⟨w.heap.size, 1, none⟩ (.slice none 0 0) := ⟨_, rfl⟩
  rw [← hw5] at hP
  have HW5 := Lib.hid hw5
  have HP := Lib.hid hP
  have f0 := hT.free 0
  have c0 := hT.c0
  have f1 := (hT.set0 (.slice none 0 0)).free 1
  have c1 := (hT.set0 (.slice none 0 0)).c1
  clear hT hw5 hP
  go_wp2_with fail
  have hP' := HP.out
  rw [← HW5.out]
  clear c0 c1 f0 f1
  have c0 := hP'.two.c0
  have c1 := hP'.two.c1
  have FIN2 : MkR 1 (0, 0) w (.returned (.tuple #[.agg #[.slice none 0 0, .slice none 0 0], .int .i64 1])) w5 :=
    ⟨⟨_, _, rfl, Sl.nil _, Sl.nil _, New.nil _, New.nil _⟩, hP'.only.kp HK1.out (Nat.le_refl _)⟩
  exact bodyPost_ret (by simp [results, Tryz.results9, go_sem, c0, c1]) rfl FIN2
set_option maxRecDepth 100000 in
theorem Make_zero {xs ys : List Nat} {va vb : Value} {w : World} (ha : Sl w va xs) (hb : Sl w vb ys) (hx : wf xs = true) (hy : wf ys = true) (h0 : val ys = 0) :
    Calls Tryz.prog 9 #[va, vb] w (MkR 4 (0, 0) w) := by
  have hl0 : ys.length = 0 := (wf_zero hb.lt hy).1 h0
  have HA := Lib.hid ha; have HX := Lib.hid hx; have HB := Lib.hid hb; have HY := Lib.hid hy
  obtain ⟨bo, cb, rfl, -⟩ := hb.ex
  rw [hl0] at HB ⊢
  clear ha hb hx hy h0 hl0
  go_enter Tryz.func9, Tryz.ntmps9
  go_wp2_with fail
  obtain ⟨w1, hw1, HK1, HBB, hz1⟩ := start2 w 25
  rw [← hw1]
  clear hw1
  refine (check_any (HA.out.keep HK1.out)).mono ?_
  rintro e w' ⟨rfl, rfl⟩
  rw [HX.out]
  go_wp2_with fail
  refine (check_any (HB.out.keep HK1.out)).mono ?_
  rintro e w' ⟨rfl, rfl⟩
  rw [HY.out]
  have hT := HBB.out
  have hP := Put.made hT (.slice none 0 0) (.slice none 0 0)
  obtain ⟨w5, hw5⟩ : ∃ w5, w5 = (w1.setCell ⟨w.heap.size, 0, none⟩ (.slice none 0 0)).setCell ⟨w.heap.size, 1, none⟩ (.slice none 0 0) := ⟨_, rfl⟩
  rw [← hw5] at hP
  have HW5 := Lib.hid hw5
  have HP := Lib.hid hP
  have f0 := hT.free 0
  have c0 := hT.c0
  have f1 := (hT.set0 (.slice none 0 0)).free 1
  have c1 := (hT.set0 (.slice none 0 0)).c1
  clear hT hw5 hP
  go_wp2_with fail
  have hP' := HP.out
  rw [← HW5.out]
  clear c0 c1 f0 f1
  have c0 := hP'.two.c0
  have c1 := hP'.two.c1
  have FIN2 : MkR 4 (0, 0) w (.returned (.tuple #[.agg #[.slice none 0 0, .slice none 0 0], .int .i64 4])) w5 :=
    ⟨⟨_, _, rfl, Sl.nil _, Sl.nil _, New.nil _, New.nil _⟩, hP'.only.kp HK1.out (Nat.le_refl _)⟩
  exact bodyPost_ret (by simp [results, Tryz.results9, go_sem, c0, c1]) rfl FIN2
set_option maxRecDepth 100000 in
theorem Make_ok {xs ys : List Nat} {va vb : Value} {w : World} (ha : Sl w va xs) (hb : Sl w vb ys) (hx : wf xs = true) (hy : wf ys = true) (h0 : val ys ≠ 0) :
    Calls Tryz.prog 9 #[va, vb] w (MkR 0 (FracN.low (val xs) (val ys)) w) := by
  have hl0 : ys.length ≠ 0 := fun h => h0 ((wf_zero hb.lt hy).2 h)
  have HA := Lib.hid ha; have HX := Lib.hid hx; have HB := Lib.hid hb; have HY := Lib.hid hy; have H0 := Lib.hid h0
  have HEX := Lib.hid (wf_limbs_eq ha.lt hx); have HEY := Lib.hid (wf_limbs_eq hb.lt hy)
  obtain ⟨bo, cb, rfl, -⟩ := hb.ex
  obtain ⟨l, hl'⟩ : ∃ l, l = ys.length := ⟨_, rfl⟩
  rw [← hl'] at hl0 HB ⊢
  have hlz : ((l : Int) == 0) = false := beq_eq_false_iff_ne.2 (by omega)
  clear ha hb hx hy h0 hl0 hl'
  go_enter Tryz.func9, Tryz.ntmps9
  go_wp2_with fail
  obtain ⟨w1, hw1, HK1, HBB, hz1⟩ := start2 w 25
  rw [← hw1]
  clear hw1
  refine (check_any (HA.out.keep HK1.out)).mono ?_
  rintro e w' ⟨rfl, rfl⟩
  rw [HX.out]
  go_wp2_with fail
  refine (check_any (HB.out.keep HK1.out)).mono ?_
  rintro e w' ⟨rfl, rfl⟩
  rw [HY.out]
  go_wp2_with fail
  refine (reduced_n (a := val xs) (b := val ys) (by rw [← HEX.out.1]; exact HA.out.keep HK1.out) (by rw [← HEY.out.1]; exact HB.out.keep HK1.out) HEX.out.2 HEY.out.2 H0.out).mono ?_
  intro e w4 hq
  obtain ⟨⟨vn, vd, rfl, h1, h2, h3, h4⟩, hk⟩ := hq
  have HN := Lib.hid h1; have HD := Lib.hid h2; have HNN := Lib.hid h3; have HDN := Lib.hid h4; have HK4 := Lib.hid hk; clear h1 h2 h3 h4 hk
  obtain ⟨no, nl, nc, rfl⟩ := HN.out.open3
  obtain ⟨do', dl, dc, rfl⟩ := HD.out.open3
  have hT := HBB.out.keep HK4.out
  have hP := Put.made hT (.slice no nl nc) (.slice do' dl dc)
  obtain ⟨w5, hw5⟩ : ∃ w5, w5 = (w4.setCell ⟨w.heap.size, 0, none⟩ (.slice no nl nc)).setCell ⟨w.heap.size, 1, none⟩ (.slice do' dl dc) := ⟨_, rfl⟩
  rw [← hw5] at hP
  have HW5 := Lib.hid hw5
  have HP := Lib.hid hP
  have f0 := hT.free 0
  have c0 := hT.c0
  have f1 := (hT.set0 (.slice no nl nc)).free 1
  have c1 := (hT.set0 (.slice no nl nc)).c1
  clear hT hw5 hP
  go_wp2_with fail
  have hP' := HP.out
  rw [← HW5.out]
  clear c0 c1 f0 f1
  have c0 := hP'.two.c0
  have c1 := hP'.two.c1
  have FIN2 : MkR 0 (FracN.low (val xs) (val ys)) w (.returned (.tuple #[.agg #[.slice no nl nc, .slice do' dl dc], .int .i64 0])) w5 :=
    ⟨⟨_, _, rfl, HN.out.only hP'.only (HNN.out.offs hz1 _), HD.out.only hP'.only (HDN.out.offs hz1 _), HNN.out.mono HK1.out.size, HDN.out.mono HK1.out.size⟩, hP'.only.kp (Kp.trans HK1.out HK4.out) (Nat.le_refl _)⟩
  exact bodyPost_ret (by simp [results, Tryz.results9, go_sem, c0, c1]) rfl FIN2
theorem Make_any {xs ys : List Nat} {va vb : Value} {w : World} (ha : Sl w va xs) (hb : Sl w vb ys) : Calls Tryz.prog 9 #[va, vb] w (MkR (divE xs ys) (mkP xs ys) w) := by
  cases hx : wf xs with
  | false => exact (Make_bad1 ha hx).mono fun e w' h => mk_bad (divE_bad (.inl hx)) (by decide) h
  | true =>
    cases hy : wf ys with
    | false => exact (Make_bad2 ha hb hx hy).mono fun e w' h => mk_bad (divE_bad (.inr hy)) (by decide) h
    | true =>
      by_cases h0 : val ys = 0
      · exact (Make_zero ha hb hx hy h0).mono fun e w' h => mk_bad (divE_zero hx hy h0) (by decide) h
      · exact (Make_ok ha hb hx hy h0).mono fun e w' h => mk_good (divE_ok hx hy h0) h
set_option maxRecDepth 100000 in
theorem rMake_bad1 {xs : List Nat} {va vb : Value} {w : World} (ha : Sl w va xs) (hx : wf xs = false) :
    Calls Tryz.prog 11 #[va, vb] w (MkR 1 (0, 0) w) := by
  have HA := Lib.hid ha; have HX := Lib.hid hx; clear ha hx
  go_enter Tryz.func11, Tryz.ntmps11
  go_wp2_with fail
  obtain ⟨w1, hw1, HK1, HBB, hz1⟩ := start2 w 25
  rw [← hw1]
  clear hw1
  refine (rcheck_any (HA.out.keep HK1.out)).mono ?_
  rintro e w' ⟨rfl, rfl⟩
  rw [HX.out]
  have hT := HBB.out
  have hP := Put.made hT (.slice none 0 0) (.slice none 0 0)
  obtain ⟨w5, hw5⟩ : ∃ w5, w5 = (w1.setCell ⟨w.heap.size, 0, none⟩ (.slice none 0 0)).setCell ⟨w.heap.size, 1, none⟩ (.slice none 0 0) := ⟨_, rfl⟩
  rw [← hw5] at hP
  have HW5 := Lib.hid hw5
  have HP := Lib.hid hP
  have f0 := hT.free 0
  have c0 := hT.c0
  have f1 := (hT.set0 (.slice none 0 0)).free 1
  have c1 := (hT.set0 (.slice none 0 0)).c1
  clear hT hw5 hP
  go_wp2_with fail
  have hP' := HP.out
  rw [← HW5.out]
  clear c0 c1 f0 f1
  have c0 := hP'.two.c0
  have c1 := hP'.two.c1
  have FIN2 : MkR 1 (0, 0) w (.returned (.tuple #[.agg #[.slice none 0 0, .slice none 0 0], .int .i64 1])) w5 :=
    ⟨⟨_, _, rfl, Sl.nil _, Sl.nil _, New.nil _, New.nil _⟩, hP'.only.kp HK1.out (Nat.le_refl _)⟩
  exact bodyPost_ret (by simp [results, Tryz.results11, go_sem, c0, c1]) rfl FIN2
set_option maxRecDepth 100000 in
theorem rMake_bad2 {xs ys : List Nat} {va vb : Value} {w : World} (ha : Sl w va xs) (hb : Sl w vb ys) (hx : wf xs = true) (hy : wf ys = false) :
    Calls Tryz.prog 11 #[va, vb] w (MkR 1 (0, 0) w) := by
  have HA := Lib.hid ha; have HX := Lib.hid hx; have HB := Lib.hid hb; have HY := Lib.hid hy; clear ha hb hx hy
  go_enter Tryz.func11, Tryz.ntmps11
  go_wp2_with fail
  obtain ⟨w1, hw1, HK1, HBB, hz1⟩ := start2 w 25
  rw [← hw1]
  clear hw1
  refine (rcheck_any (HA.out.keep HK1.out)).mono ?_
  rintro e w' ⟨rfl, rfl⟩
  rw [HX.out]
  go_wp2_with fail
  refine (rcheck_any (HB.out.keep HK1.out)).mono ?_
  rintro e w' ⟨rfl, rfl⟩
  rw [HY.out]
  have hT := HBB.out
  have hP := Put.made hT (.slice none 0 0) (.slice none 0 0)
  obtain ⟨w5, hw5⟩ : ∃ w5, w5 = (w1.setCell ⟨w.heap.size, 0, none⟩ (.slice none 0 0)).setCell ⟨w.heap.size, 1, none⟩ (.slice none 0 0) := ⟨_, rfl⟩
  rw [← hw5] at hP
  have HW5 := Lib.hid hw5
  have HP := Lib.hid hP
  have f0 := hT.free 0
  have c0 := hT.c0
  have f1 := (hT.set0 (.slice none 0 0)).free 1
  have c1 := (hT.set0 (.slice none 0 0)).c1
  clear hT hw5 hP
  go_wp2_with fail
  have hP' := HP.out
  rw [← HW5.out]
  clear c0 c1 f0 f1
  have c0 := hP'.two.c0
  have c1 := hP'.two.c1
  have FIN2 : MkR 1 (0, 0) w (.returned (.tuple #[.agg #[.slice none 0 0, .slice none 0 0], .int .i64 1])) w5 :=
    ⟨⟨_, _, rfl, Sl.nil _, Sl.nil _, New.nil _, New.nil _⟩, hP'.only.kp HK1.out (Nat.le_refl _)⟩
  exact bodyPost_ret (by simp [results, Tryz.results11, go_sem, c0, c1]) rfl FIN2
set_option maxRecDepth 100000 in
theorem rMake_zero {xs ys : List Nat} {va vb : Value} {w : World} (ha : Sl w va xs) (hb : Sl w vb ys) (hx : wf xs = true) (hy : wf ys = true) (h0 : val ys = 0) :
    Calls Tryz.prog 11 #[va, vb] w (MkR 4 (0, 0) w) := by
  have hl0 : ys.length = 0 := (wf_zero hb.lt hy).1 h0
  have HA := Lib.hid ha; have HX := Lib.hid hx; have HB := Lib.hid hb; have HY := Lib.hid hy
  obtain ⟨bo, cb, rfl, -⟩ := hb.ex
  rw [hl0] at HB ⊢
  clear ha hb hx hy h0 hl0
  go_enter Tryz.func11, Tryz.ntmps11
  go_wp2_with fail
  obtain ⟨w1, hw1, HK1, HBB, hz1⟩ := start2 w 25
  rw [← hw1]
  clear hw1
  refine (rcheck_any (HA.out.keep HK1.out)).mono ?_
  rintro e w' ⟨rfl, rfl⟩
  rw [HX.out]
  go_wp2_with fail
  refine (rcheck_any (HB.out.keep HK1.out)).mono ?_
  rintro e w' ⟨rfl, rfl⟩
  rw [HY.out]
  have hT := HBB.out
  have hP := Put.made hT (.slice none 0 0) (.slice none 0 0)
  obtain ⟨w5, hw5⟩ : ∃ w5, w5 = (w1.setCell ⟨w.heap.size, 0, none⟩ (.slice none 0 0)).setCell ⟨w.heap.size, 1, none⟩ (.slice none 0 0) := ⟨_, rfl⟩
  rw [← hw5] at hP
  have HW5 := Lib.hid hw5
  have HP := Lib.hid hP
  have f0 := hT.free 0
  have c0 := hT.c0
  have f1 := (hT.set0 (.slice none 0 0)).free 1
  have c1 := (hT.set0 (.slice none 0 0)).c1
  clear hT hw5 hP
  go_wp2_with fail
  have hP' := HP.out
  rw [← HW5.out]
  clear c0 c1 f0 f1
  have c0 := hP'.two.c0
  have c1 := hP'.two.c1
  have FIN2 : MkR 4 (0, 0) w (.returned (.tuple #[.agg #[.slice none 0 0, .slice none 0 0], .int .i64 4])) w5 :=
    ⟨⟨_, _, rfl, Sl.nil _, Sl.nil _, New.nil _, New.nil _⟩, hP'.only.kp HK1.out (Nat.le_refl _)⟩
  exact bodyPost_ret (by simp [results, Tryz.results11, go_sem, c0, c1]) rfl FIN2
set_option maxRecDepth 100000 in
theorem rMake_ok {xs ys : List Nat} {va vb : Value} {w : World} (ha : Sl w va xs) (hb : Sl w vb ys) (hx : wf xs = true) (hy : wf ys = true) (h0 : val ys ≠ 0) :
    Calls Tryz.prog 11 #[va, vb] w (MkR 0 (FracN.low (val xs) (val ys)) w) := by
  have hl0 : ys.length ≠ 0 := fun h => h0 ((wf_zero hb.lt hy).2 h)
  have HA := Lib.hid ha; have HX := Lib.hid hx; have HB := Lib.hid hb; have HY := Lib.hid hy; have H0 := Lib.hid h0
  have HEX := Lib.hid (wf_limbs_eq ha.lt hx); have HEY := Lib.hid (wf_limbs_eq hb.lt hy)
  obtain ⟨bo, cb, rfl, -⟩ := hb.ex
  obtain ⟨l, hl'⟩ : ∃ l, l = ys.length := ⟨_, rfl⟩
  rw [← hl'] at hl0 HB ⊢
  have hlz : ((l : Int) == 0) = false := beq_eq_false_iff_ne.2 (by omega)
  clear ha hb hx hy h0 hl0 hl'
  go_enter Tryz.func11, Tryz.ntmps11
  go_wp2_with fail
  obtain ⟨w1, hw1, HK1, HBB, hz1⟩ := start2 w 25
  rw [← hw1]
  clear hw1
  refine (rcheck_any (HA.out.keep HK1.out)).mono ?_
  rintro e w' ⟨rfl, rfl⟩
  rw [HX.out]
  go_wp2_with fail
  refine (rcheck_any (HB.out.keep HK1.out)).mono ?_
  rintro e w' ⟨rfl, rfl⟩
  rw [HY.out]
  go_wp2_with fail
  refine (lowest_n (a := val xs) (b := val ys) (by rw [← HEX.out.1]; exact HA.out.keep HK1.out) (by rw [← HEY.out.1]; exact HB.out.keep HK1.out) (Nat.le_trans HEX.out.2 (by decide)) (Nat.le_trans HEY.out.2 (by decide)) H0.out).mono ?_
  intro e w4 hq
  obtain ⟨⟨vn, vd, rfl, h1, h2, h3, h4⟩, hk⟩ := hq
  have HN := Lib.hid h1; have HD := Lib.hid h2; have HNN := Lib.hid h3; have HDN := Lib.hid h4; have HK4 := Lib.hid hk; clear h1 h2 h3 h4 hk
  obtain ⟨no, nl, nc, rfl⟩ := HN.out.open3
  obtain ⟨do', dl, dc, rfl⟩ := HD.out.open3
  have hT := HBB.out.keep HK4.out
  have hP := Put.made hT (.slice no nl nc) (.slice do' dl dc)
  obtain ⟨w5, hw5⟩ : ∃ w5, w5 = (w4.setCell ⟨w.heap.size, 0, none⟩ (.slice no nl nc)).setCell ⟨w.heap.size, 1, none⟩ (.slice do' dl dc) := ⟨_, rfl⟩
  rw [← hw5] at hP
  have HW5 := Lib.hid hw5
  have HP := Lib.hid hP
  have f0 := hT.free 0
  have c0 := hT.c0
  have f1 := (hT.set0 (.slice no nl nc)).free 1
  have c1 := (hT.set0 (.slice no nl nc)).c1
  clear hT hw5 hP
  go_wp2_with fail
  have hP' := HP.out
  rw [← HW5.out]
  clear c0 c1 f0 f1
  have c0 := hP'.two.c0
  have c1 := hP'.two.c1
  have FIN2 : MkR 0 (FracN.low (val xs) (val ys)) w (.returned (.tuple #[.agg #[.slice no nl nc, .slice do' dl dc], .int .i64 0])) w5 :=
    ⟨⟨_, _, rfl, HN.out.only hP'.only (HNN.out.offs hz1 _), HD.out.only hP'.only (HDN.out.offs hz1 _), HNN.out.mono HK1.out.size, HDN.out.mono HK1.out.size⟩, hP'.only.kp (Kp.trans HK1.out HK4.out) (Nat.le_refl _)⟩
  exact bodyPost_ret (by simp [results, Tryz.results11, go_sem, c0, c1]) rfl FIN2
theorem rMake_any {xs ys : List Nat} {va vb : Value} {w : World} (ha : Sl w va xs) (hb : Sl w vb ys) : Calls Tryz.prog 11 #[va, vb] w (MkR (divE xs ys) (mkP xs ys) w) := by
  cases hx : wf xs with
  | false => exact (rMake_bad1 ha hx).mono fun e w' h => mk_bad (divE_bad (.inl hx)) (by decide) h
  | true =>
    cases hy : wf ys with
    | false => exact (rMake_bad2 ha hb hx hy).mono fun e w' h => mk_bad (divE_bad (.inr hy)) (by decide) h
    | true =>
      by_cases h0 : val ys = 0
      · exact (rMake_zero ha hb hx hy h0).mono fun e w' h => mk_bad (divE_zero hx hy h0) (by decide) h
      · exact (rMake_ok ha hb hx hy h0).mono fun e w' h => mk_good (divE_ok hx hy h0) h
end Go.Proofs.YtfcpfmjoelhlnaaGreatDoor
