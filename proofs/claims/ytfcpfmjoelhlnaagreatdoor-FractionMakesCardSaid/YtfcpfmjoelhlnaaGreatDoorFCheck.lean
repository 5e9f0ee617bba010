/- Check on both sides. Condition: the slices hold the digits that are named. -/
import Derived.Test.YtfcpfmjoelhlnaaGreatDoorOf
namespace Go.Proofs.YtfcpfmjoelhlnaaGreatDoor
open Go.RowKit LimbN

/-- what makes a fraction well-formed. -/
def frOk (xs ys : List Nat) : Bool := wf xs && (wf ys && (decide (val ys ≠ 0) && (Nat.gcd (val xs) (val ys) == 1)))
theorem frOk_b1 {xs ys : List Nat} (h : wf xs = false) : frOk xs ys = false := by unfold frOk; rw [h]; rfl
theorem frOk_b2 {xs ys : List Nat} (h : wf ys = false) : frOk xs ys = false := by unfold frOk; rw [h]; simp
theorem frOk_b3 {xs ys : List Nat} (h : val ys = 0) : frOk xs ys = false := by unfold frOk; simp [h]
theorem frOk_ok {xs ys : List Nat} (hx : wf xs = true) (hy : wf ys = true) (h0 : val ys ≠ 0) : frOk xs ys = (Nat.gcd (val xs) (val ys) == 1) := by unfold frOk; simp [hx, hy, h0]
/-- a struct of slices lies in memory. -/
theorem box2 (w : World) (t : TypeId) (x y : Value) : ∃ w1, w1 = w.alloc (Obj.cells #[x, y] t) ∧ Hid (Kp w w1) ∧ Hid (Two w1 w.heap.size t x y) ∧ w.heap.size < w1.heap.size :=
  ⟨_, rfl, Kp.alloc (Kp.refl _) _, Two.new _ _ _ _, by simp⟩
set_option maxRecDepth 100000 in
theorem Check_b1 {xs ys : List Nat} {va vb : Value} {w : World} (ha : Sl w va xs) (hb : Sl w vb ys) (hx : wf xs = false) :
    Calls Tryz.prog 15 #[.agg #[va, vb]] w fun e w' => e = .returned (.bool false) ∧ Kp w w' := by
  have HX := Lib.hid hx; clear hx
  obtain ⟨ao, al, ac, rfl⟩ := ha.open3
  obtain ⟨bo, bl, bc, rfl⟩ := hb.open3
  obtain ⟨w1, hw1, HK1, HBB, hz1⟩ := box2 w 25 (.slice ao al ac) (.slice bo bl bc)
  have HA := Lib.hid (ha.keep HK1.out); have HB := Lib.hid (hb.keep HK1.out); clear ha hb
  have c0 := HBB.out.c0
  have c1 := HBB.out.c1
  have HW1 := Lib.hid hw1; clear hw1
  go_enter Tryz.func15, Tryz.ntmps15
  go_wp2_with fail
  rw [← HW1.out]
  refine (check_any HA.out).mono ?_
  rintro e w' ⟨rfl, rfl⟩
  rw [HX.out]
  go_wp2
  go_ret
  exact ⟨rfl, HK1.out⟩
set_option maxRecDepth 100000 in
theorem Check_b2 {xs ys : List Nat} {va vb : Value} {w : World} (ha : Sl w va xs) (hb : Sl w vb ys) (hx : wf xs = true) (hy : wf ys = false) :
    Calls Tryz.prog 15 #[.agg #[va, vb]] w fun e w' => e = .returned (.bool false) ∧ Kp w w' := by
  have HX := Lib.hid hx; have HY := Lib.hid hy; clear hx hy
  obtain ⟨ao, al, ac, rfl⟩ := ha.open3
  obtain ⟨bo, bl, bc, rfl⟩ := hb.open3
  obtain ⟨w1, hw1, HK1, HBB, hz1⟩ := box2 w 25 (.slice ao al ac) (.slice bo bl bc)
  have HA := Lib.hid (ha.keep HK1.out); have HB := Lib.hid (hb.keep HK1.out); clear ha hb
  have c0 := HBB.out.c0
  have c1 := HBB.out.c1
  have HW1 := Lib.hid hw1; clear hw1
  go_enter Tryz.func15, Tryz.ntmps15
  go_wp2_with fail
  rw [← HW1.out]
  refine (check_any HA.out).mono ?_
  rintro e w' ⟨rfl, rfl⟩
  rw [HX.out]
  go_wp2_with fail
  refine (check_any HB.out).mono ?_
  rintro e w' ⟨rfl, rfl⟩
  rw [HY.out]
  go_wp2
  go_ret
  exact ⟨rfl, HK1.out⟩
set_option maxRecDepth 100000 in
theorem Check_b3 {xs ys : List Nat} {va vb : Value} {w : World} (ha : Sl w va xs) (hb : Sl w vb ys) (hx : wf xs = true) (hy : wf ys = true) (h0 : val ys = 0) :
    Calls Tryz.prog 15 #[.agg #[va, vb]] w fun e w' => e = .returned (.bool false) ∧ Kp w w' := by
  have hl0 : ys.length = 0 := (wf_zero hb.lt hy).1 h0
  have HX := Lib.hid hx; have HY := Lib.hid hy; clear hx hy h0
  obtain ⟨ao, al, ac, rfl⟩ := ha.open3
  obtain ⟨bo, bc, rfl, -⟩ := hb.ex
  obtain ⟨bl, hbl⟩ : ∃ bl, bl = ys.length := ⟨_, rfl⟩
  rw [← hbl] at hb hl0 ⊢
  clear hbl
  subst hl0
  obtain ⟨w1, hw1, HK1, HBB, hz1⟩ := box2 w 25 (.slice ao al ac) (.slice bo 0 bc)
  have HA := Lib.hid (ha.keep HK1.out); have HB := Lib.hid (hb.keep HK1.out); clear ha hb
  have c0 := HBB.out.c0
  have c1 := HBB.out.c1
  have HW1 := Lib.hid hw1; clear hw1
  go_enter Tryz.func15, Tryz.ntmps15
  go_wp2_with fail
  rw [← HW1.out]
  refine (check_any HA.out).mono ?_
  rintro e w' ⟨rfl, rfl⟩
  rw [HX.out]
  go_wp2_with fail
  refine (check_any HB.out).mono ?_
  rintro e w' ⟨rfl, rfl⟩
  rw [HY.out]
  go_wp2
  go_ret
  exact ⟨rfl, HK1.out⟩
set_option maxRecDepth 100000 in
theorem Check_ok {xs ys : List Nat} {va vb : Value} {w : World} (ha : Sl w va xs) (hb : Sl w vb ys) (hx : wf xs = true) (hy : wf ys = true) (h0 : val ys ≠ 0) :
    Calls Tryz.prog 15 #[.agg #[va, vb]] w fun e w' => e = .returned (.bool (Nat.gcd (val xs) (val ys) == 1)) ∧ Kp w w' := by
  have hl0 : ys.length ≠ 0 := fun h => h0 ((wf_zero hb.lt hy).2 h)
  have hlz : ((ys.length : Int) == 0) = false := beq_eq_false_iff_ne.2 (by omega)
  have HEX := Lib.hid (wf_canon ha.lt hx); have HEY := Lib.hid (wf_canon hb.lt hy)
  have HX := Lib.hid hx; have HY := Lib.hid hy; clear hx hy h0 hl0
  obtain ⟨b, hbq⟩ : ∃ b : Bool, b = (Nat.gcd (val xs) (val ys) == 1) := ⟨_, rfl⟩
  rw [← hbq]
  have HBQ := Lib.hid hbq; clear hbq
  obtain ⟨ao, al, ac, rfl⟩ := ha.open3
  obtain ⟨bo, bc, rfl, -⟩ := hb.ex
  obtain ⟨bl, hbl⟩ : ∃ bl, bl = ys.length := ⟨_, rfl⟩
  rw [← hbl] at hb hlz ⊢
  clear hbl
  obtain ⟨w1, hw1, HK1, HBB, hz1⟩ := box2 w 25 (.slice ao al ac) (.slice bo bl bc)
  have HA := Lib.hid (ha.keep HK1.out); have HB := Lib.hid (hb.keep HK1.out); clear ha hb
  have c0 := HBB.out.c0
  have c1 := HBB.out.c1
  have HW1 := Lib.hid hw1; clear hw1
  go_enter Tryz.func15, Tryz.ntmps15
  go_wp2_with fail
  rw [← HW1.out]
  refine (check_any HA.out).mono ?_
  rintro e w' ⟨rfl, rfl⟩
  rw [HX.out]
  go_wp2_with fail
  refine (check_any HB.out).mono ?_
  rintro e w' ⟨rfl, rfl⟩
  rw [HY.out]
  go_wp2_with fail
  refine (Gcd_ok HA.out HB.out HX.out HY.out).mono ?_
  intro e w2 hq
  obtain ⟨⟨vg, rfl, h1, h2⟩, hk⟩ := hq
  have HG := Lib.hid h1; have HK2 := Lib.hid (Kp.trans HK1.out hk); clear h1 h2 hk
  go_wp2_with fail
  refine (isOne_n HG.out).mono ?_
  rintro e w' ⟨he, rfl⟩
  have he' : e = .returned (.bool b) := by rw [he, HBQ.out]; rfl
  subst he'
  clear he
  go_wp2
  go_ret
  exact ⟨rfl, HK2.out⟩
theorem Check_any {xs ys : List Nat} {va vb : Value} {w : World} (ha : Sl w va xs) (hb : Sl w vb ys) : Calls Tryz.prog 15 #[.agg #[va, vb]] w fun e w' => e = .returned (.bool (frOk xs ys)) ∧ Kp w w' := by
  cases hx : wf xs with
  | false => rw [frOk_b1 hx]; exact Check_b1 ha hb hx
  | true =>
    cases hy : wf ys with
    | false => rw [frOk_b2 hy]; exact Check_b2 ha hb hx hy
    | true =>
      by_cases h0 : val ys = 0
      · rw [frOk_b3 h0]; exact Check_b3 ha hb hx hy h0
      · rw [frOk_ok hx hy h0]; exact Check_ok ha hb hx hy h0
set_option maxRecDepth 100000 in
theorem rCheck_b1 {xs ys : List Nat} {va vb : Value} {w : World} (ha : Sl w va xs) (hb : Sl w vb ys) (hx : wf xs = false) :
    Calls Tryz.prog 16 #[.agg #[va, vb]] w fun e w' => e = .returned (.bool false) ∧ Kp w w' := by
  have HX := Lib.hid hx; clear hx
  obtain ⟨ao, al, ac, rfl⟩ := ha.open3
  obtain ⟨bo, bl, bc, rfl⟩ := hb.open3
  obtain ⟨w1, hw1, HK1, HBB, hz1⟩ := box2 w 25 (.slice ao al ac) (.slice bo bl bc)
  have HA := Lib.hid (ha.keep HK1.out); have HB := Lib.hid (hb.keep HK1.out); clear ha hb
  have c0 := HBB.out.c0
  have c1 := HBB.out.c1
  have HW1 := Lib.hid hw1; clear hw1
  go_enter Tryz.func16, Tryz.ntmps16
  go_wp2_with fail
  rw [← HW1.out]
  refine (rcheck_any HA.out).mono ?_
  rintro e w' ⟨rfl, rfl⟩
  rw [HX.out]
  go_wp2
  go_ret
  exact ⟨rfl, HK1.out⟩
set_option maxRecDepth 100000 in
theorem rCheck_b2 {xs ys : List Nat} {va vb : Value} {w : World} (ha : Sl w va xs) (hb : Sl w vb ys) (hx : wf xs = true) (hy : wf ys = false) :
    Calls Tryz.prog 16 #[.agg #[va, vb]] w fun e w' => e = .returned (.bool false) ∧ Kp w w' := by
  have HX := Lib.hid hx; have HY := Lib.hid hy; clear hx hy
  obtain ⟨ao, al, ac, rfl⟩ := ha.open3
  obtain ⟨bo, bl, bc, rfl⟩ := hb.open3
  obtain ⟨w1, hw1, HK1, HBB, hz1⟩ := box2 w 25 (.slice ao al ac) (.slice bo bl bc)
  have HA := Lib.hid (ha.keep HK1.out); have HB := Lib.hid (hb.keep HK1.out); clear ha hb
  have c0 := HBB.out.c0
  have c1 := HBB.out.c1
  have HW1 := Lib.hid hw1; clear hw1
  go_enter Tryz.func16, Tryz.ntmps16
  go_wp2_with fail
  rw [← HW1.out]
  refine (rcheck_any HA.out).mono ?_
  rintro e w' ⟨rfl, rfl⟩
  rw [HX.out]
  go_wp2_with fail
  refine (rcheck_any HB.out).mono ?_
  rintro e w' ⟨rfl, rfl⟩
  rw [HY.out]
  go_wp2
  go_ret
  exact ⟨rfl, HK1.out⟩
set_option maxRecDepth 100000 in
theorem rCheck_b3 {xs ys : List Nat} {va vb : Value} {w : World} (ha : Sl w va xs) (hb : Sl w vb ys) (hx : wf xs = true) (hy : wf ys = true) (h0 : val ys = 0) :
    Calls Tryz.prog 16 #[.agg #[va, vb]] w fun e w' => e = .returned (.bool false) ∧ Kp w w' := by
  have hl0 : ys.length = 0 := (wf_zero hb.lt hy).1 h0
  have HX := Lib.hid hx; have HY := Lib.hid hy; clear hx hy h0
  obtain ⟨ao, al, ac, rfl⟩ := ha.open3
  obtain ⟨bo, bc, rfl, -⟩ := hb.ex
  obtain ⟨bl, hbl⟩ : ∃ bl, bl = ys.length := ⟨_, rfl⟩
  rw [← hbl] at hb hl0 ⊢
  clear hbl
  subst hl0
  obtain ⟨w1, hw1, HK1, HBB, hz1⟩ := box2 w 25 (.slice ao al ac) (.slice bo 0 bc)
  have HA := Lib.hid (ha.keep HK1.out); have HB := Lib.hid (hb.keep HK1.out); clear ha hb
  have c0 := HBB.out.c0
  have c1 := HBB.out.c1
  have HW1 := Lib.hid hw1; clear hw1
  go_enter Tryz.func16, Tryz.ntmps16
  go_wp2_with fail
  rw [← HW1.out]
  refine (rcheck_any HA.out).mono ?_
  rintro e w' ⟨rfl, rfl⟩
  rw [HX.out]
  go_wp2_with fail
  refine (rcheck_any HB.out).mono ?_
  rintro e w' ⟨rfl, rfl⟩
  rw [HY.out]
  go_wp2
  go_ret
  exact ⟨rfl, HK1.out⟩
set_option maxRecDepth 100000 in
theorem rCheck_ok {xs ys : List Nat} {va vb : Value} {w : World} (ha : Sl w va xs) (hb : Sl w vb ys) (hx : wf xs = true) (hy : wf ys = true) (h0 : val ys ≠ 0) :
    Calls Tryz.prog 16 #[.agg #[va, vb]] w fun e w' => e = .returned (.bool (Nat.gcd (val xs) (val ys) == 1)) ∧ Kp w w' := by
  have hl0 : ys.length ≠ 0 := fun h => h0 ((wf_zero hb.lt hy).2 h)
  have hlz : decide (0 < ys.length) = true := decide_eq_true (by omega)
  have HEX := Lib.hid (wf_canon ha.lt hx); have HEY := Lib.hid (wf_canon hb.lt hy)
  have HX := Lib.hid hx; have HY := Lib.hid hy; clear hx hy h0 hl0
  obtain ⟨b, hbq⟩ : ∃ b : Bool, b = (Nat.gcd (val xs) (val ys) == 1) := ⟨_, rfl⟩
  rw [← hbq]
  have HBQ := Lib.hid hbq; clear hbq
  obtain ⟨ao, al, ac, rfl⟩ := ha.open3
  obtain ⟨bo, bc, rfl, -⟩ := hb.ex
  obtain ⟨bl, hbl⟩ : ∃ bl, bl = ys.length := ⟨_, rfl⟩
  rw [← hbl] at hb hlz ⊢
  clear hbl
  obtain ⟨w1, hw1, HK1, HBB, hz1⟩ := box2 w 25 (.slice ao al ac) (.slice bo bl bc)
  have HA := Lib.hid (ha.keep HK1.out); have HB := Lib.hid (hb.keep HK1.out); clear ha hb
  have c0 := HBB.out.c0
  have c1 := HBB.out.c1
  have HW1 := Lib.hid hw1; clear hw1
  go_enter Tryz.func16, Tryz.ntmps16
  go_wp2_with fail
  rw [← HW1.out]
  refine (rcheck_any HA.out).mono ?_
  rintro e w' ⟨rfl, rfl⟩
  rw [HX.out]
  go_wp2_with fail
  refine (rcheck_any HB.out).mono ?_
  rintro e w' ⟨rfl, rfl⟩
  rw [HY.out]
  go_wp2_with fail
  refine (Common_any (a := val xs) (b := val ys) (by rw [HEX.out.1]; exact HA.out) (by rw [HEY.out.1]; exact HB.out) (by rw [HEX.out.1]; exact Nat.le_trans HEX.out.2 (by decide)) (by rw [HEY.out.1]; exact Nat.le_trans HEY.out.2 (by decide))).mono ?_
  intro e w2 hq
  obtain ⟨⟨vg, rfl, h1, h2⟩, hk⟩ := hq
  have HG := Lib.hid h1; have HK2 := Lib.hid (Kp.trans HK1.out hk); clear h1 h2 hk
  have HSL := fun e => Lib.hid (sl_lit (w := w2) (e := e) [1] (Lt.cons (by decide) Lt.nil) (by simp))
  go_wp2_with fail
  refine (order_any (ys := limbs 1) (HG.out.keep (Kp.alloc (Kp.refl _) _)) (HSL _).out).mono ?_
  rintro e w3 ⟨rfl, hd⟩
  rw [cmp_val]
  obtain ⟨T, hT⟩ : ∃ T : Int, T = if Nat.gcd (val xs) (val ys) < 1 then -1 else if 1 < Nat.gcd (val xs) (val ys) then 1 else 0 := ⟨_, rfl⟩
  have hq : b = (T == 0) := by
    rw [hT, HBQ.out]
    rcases Nat.lt_trichotomy (Nat.gcd (val xs) (val ys)) 1 with h | h | h
    · rw [if_pos h, beq_eq_false_iff_ne.2 (by omega)]; rfl
    · rw [h]; rfl
    · rw [if_neg (by omega), if_pos h, beq_eq_false_iff_ne.2 (by omega)]; rfl
  rw [← hT]
  subst hq
  have HK3 := Lib.hid (Kp.trans (Kp.alloc HK2.out _) hd.kp); clear hd hT HBQ
  go_wp2
  go_ret
  exact ⟨rfl, HK3.out⟩
theorem rCheck_any {xs ys : List Nat} {va vb : Value} {w : World} (ha : Sl w va xs) (hb : Sl w vb ys) : Calls Tryz.prog 16 #[.agg #[va, vb]] w fun e w' => e = .returned (.bool (frOk xs ys)) ∧ Kp w w' := by
  cases hx : wf xs with
  | false => rw [frOk_b1 hx]; exact rCheck_b1 ha hb hx
  | true =>
    cases hy : wf ys with
    | false => rw [frOk_b2 hy]; exact rCheck_b2 ha hb hx hy
    | true =>
      by_cases h0 : val ys = 0
      · rw [frOk_b3 h0]; exact rCheck_b3 ha hb hx hy h0
      · rw [frOk_ok hx hy h0]; exact rCheck_ok ha hb hx hy h0
end Go.Proofs.YtfcpfmjoelhlnaaGreatDoor
