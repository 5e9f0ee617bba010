/- The fractions' small functions: divide, quotient, isOne, reduced. Conditions: the slices hold the numbers that are named, of at most 128 limbs. -/
import Derived.Test.YtdoponlhiidimaaGreatDoorMRc
import Derived.Test.YtdoponlhiidimaaGreatDoorMFm
import Derived.Handy
namespace Go.Proofs.YtdoponlhiidimaaGreatDoor
open Go.RowKit LimbN

set_option maxRecDepth 100000 in
theorem fdivide_n {a b : Nat} {va vb : Value} {w : World} (ha : Sl w va (limbs a)) (hb : Sl w vb (limbs b)) (h1 : (limbs a).length ≤ 128) (h2 : (limbs b).length ≤ 128) (h0 : b ≠ 0) :
    Calls Tryz.prog 91 #[va, vb] w (Quot a b w) := by
  have FIN : Hid (∀ e vq vr w', e = .returned (.tuple #[vq, vr]) → Sl w' vq (limbs (a / b)) → Sl w' vr (limbs (a % b)) → New w.heap.size vq → New w.heap.size vr → Kp w w' → Quot a b w e w') := fun e vq vr w' h1 h2 h3 h4 h5 h6 => ⟨⟨vq, vr, h1, h2, h3, h4, h5⟩, h6⟩
  obtain ⟨Q, hQ⟩ : ∃ Q, Q = Quot a b w := ⟨_, rfl⟩
  rw [← hQ] at FIN ⊢
  clear hQ
  have C := Lib.hid (divide_n ha hb h1 h2 h0)
  clear ha hb h1 h2 h0
  go_enter Tryz.func91, Tryz.ntmps91
  go_wp2_with fail
  refine C.out.mono ?_
  intro e w2 hq
  obtain ⟨⟨vq, vr, rfl, h1, h2, h3, h4⟩, hk⟩ := hq
  have FIN2 := Lib.hid (FIN.out _ vq vr w2 rfl h1 h2 h3 h4 hk)
  clear h1 h2 h3 h4 hk
  go_wp2
  (try go_ret2)
  exact FIN2.out
set_option maxRecDepth 100000 in
theorem quotient_n {a b : Nat} {va vb : Value} {w : World} (ha : Sl w va (limbs a)) (hb : Sl w vb (limbs b)) (h1 : (limbs a).length ≤ 128) (h2 : (limbs b).length ≤ 128) (h0 : b ≠ 0) :
    Calls Tryz.prog 69 #[va, vb] w (Res (a / b) w) := by
  have FIN : Hid (∀ e vq w', e = .returned vq → Sl w' vq (limbs (a / b)) → New w.heap.size vq → Kp w w' → Res (a / b) w e w') := fun e vq w' h1 h2 h3 h4 => ⟨⟨vq, h1, h2, h3⟩, h4⟩
  obtain ⟨Q, hQ⟩ : ∃ Q, Q = Res (a / b) w := ⟨_, rfl⟩
  rw [← hQ] at FIN ⊢
  clear hQ
  have C := Lib.hid (fdivide_n ha hb h1 h2 h0)
  clear ha hb h1 h2 h0
  go_enter Tryz.func69, Tryz.ntmps69
  go_wp2_with fail
  refine C.out.mono ?_
  intro e w2 hq
  obtain ⟨⟨vq, vr, rfl, h1, h2, h3, h4⟩, hk⟩ := hq
  have FIN2 := Lib.hid (FIN.out _ vq w2 rfl h1 h3 hk)
  clear h1 h2 h3 h4 hk
  go_wp2
  (try go_ret2)
  exact FIN2.out
/-- a slice that reads as a number is 1 exactly when it has one digit, and this is 1. -/
theorem limbs_one {n : Nat} : n = 1 ↔ (limbs n).length = 1 ∧ (limbs n)[0]?.getD 0 = 1 := by
  constructor
  · rintro rfl; exact ⟨rfl, rfl⟩
  · rintro ⟨h1, h2⟩
    have := val_limbs n
    match hl : limbs n, h1 with
    | [x], _ =>
      rw [hl] at this h2
      have hx : x = 1 := by simpa using h2
      subst hx
      rw [← this]; rfl
set_option maxRecDepth 100000 in
theorem isOne_n {n : Nat} {va : Value} {w : World} (ha : Sl w va (limbs n)) :
    Calls Tryz.prog 42 #[va] w fun e w' => e = .returned (.bool (decide (n = 1))) ∧ w = w' := by
  have ho := limbs_one (n := n)
  obtain ⟨⟨ao, cap, rfl, hcap, hcm, hat, -⟩, hlt, hlen⟩ := ha
  unfold maxLen at hcm
  by_cases h1 : (limbs n).length = 1
  · obtain ⟨b, off, rfl, hc⟩ := hat.cells (by omega)
    have hc0 := hc 0 (by omega)
    rw [Nat.add_zero] at hc0
    obtain ⟨x, hx⟩ : ∃ x, x = (limbs n)[0]?.getD 0 := ⟨_, rfl⟩
    have hb : decide (n = 1) = decide (x = 1) := by
      have : n = 1 ↔ x = 1 := by rw [ho, hx]; exact ⟨fun h => h.2, fun h => ⟨h1, h⟩⟩
      exact decide_eq_decide.2 this
    have hb' : ((x : Int) == 1) = decide (x = 1) := by
      by_cases h : x = 1
      · subst h; rfl
      · rw [decide_eq_false h]; exact beq_eq_false_iff_ne.2 (by omega)
    rw [hb, h1, ← hb']
    rw [← hx] at hc0
    clear hb hb' ho hat hlt hlen hx hc h1
    go_enter Tryz.func42, Tryz.ntmps42
    go_wp2
    go_ret
    exact ⟨rfl, rfl⟩
  · have hb : decide (n = 1) = false := decide_eq_false (fun h => h1 (ho.1 h).1)
    rw [hb]
    obtain ⟨l, hl⟩ : ∃ l, l = (limbs n).length := ⟨_, rfl⟩
    rw [← hl] at h1 hcap ⊢
    have hf : ((l : Int) == 1) = false := beq_eq_false_iff_ne.2 (by omega)
    clear hb ho hat hlt hlen hl h1
    go_enter Tryz.func42, Tryz.ntmps42
    go_wp2
    go_ret
    exact ⟨rfl, rfl⟩
theorem Sl.open3 {w : World} {v : Value} {xs : List Nat} (h : Sl w v xs) : ∃ ao n c, v = .slice ao n c := by
  obtain ⟨ao, c, rfl, -⟩ := h.ex
  exact ⟨_, _, _, rfl⟩
/-- A fraction's value. -/
structure Fr (w : World) (v : Value) (p : Nat × Nat) : Prop where
  ex : ∃ vn vd, v = .agg #[vn, vd] ∧ Sl w vn (limbs p.1) ∧ Sl w vd (limbs p.2)
theorem Fr.keep {w w' : World} {v : Value} {p : Nat × Nat} (h : Fr w v p) (hk : Kp w w') : Fr w' v p := by
  obtain ⟨vn, vd, rfl, h1, h2⟩ := h.ex
  exact ⟨_, _, rfl, h1.keep hk, h2.keep hk⟩
/-- A fraction in new memory. -/
structure FrR (p : Nat × Nat) (w : World) (e : Ending) (w' : World) : Prop where
  ex : ∃ vn vd, e = .returned (.agg #[vn, vd]) ∧ Sl w' vn (limbs p.1) ∧ Sl w' vd (limbs p.2) ∧ New w.heap.size vn ∧ New w.heap.size vd
  kp : Kp w w'
/-- A struct of two cells in memory. -/
structure Two (w : World) (g : Nat) (t : TypeId) (x y : Value) : Prop where
  blk : w.heap[g]? = some (.cells #[x, y] t (0, 0))
theorem Two.new (w : World) (t : TypeId) (x y : Value) : Two (w.alloc (.cells #[x, y] t (0, 0))) w.heap.size t x y := ⟨Array.getElem?_push_size⟩
theorem Two.lt {w : World} {g : Nat} {t : TypeId} {x y : Value} (h : Two w g t x y) : g < w.heap.size := lt_of_block h.blk
theorem Two.keep {w w' : World} {g : Nat} {t : TypeId} {x y : Value} (h : Two w g t x y) (hk : Kp w w') : Two w' g t x y := ⟨(hk.block g h.lt).trans h.blk⟩
theorem Two.drewN {w : World} {g : Nat} {t : TypeId} {x y : Value} (h : Two w g t x y) (n : Nat) : Two (w.drewN n) g t x y := ⟨h.blk⟩
theorem Two.c0 {w : World} {g : Nat} {t : TypeId} {x y : Value} (h : Two w g t x y) : w.cell? ⟨g, 0, none⟩ = some x := by rw [cell_of_row w g 0 _ t (0, 0) h.blk]; rfl
theorem Two.c1 {w : World} {g : Nat} {t : TypeId} {x y : Value} (h : Two w g t x y) : w.cell? ⟨g, 1, none⟩ = some y := by rw [cell_of_row w g 1 _ t (0, 0) h.blk]; rfl
theorem Two.free {w : World} {g : Nat} {t : TypeId} {x y : Value} (h : Two w g t x y) (i : Nat) : w.frozen? ⟨g, i, none⟩ = false := frozen_of_row w g i _ t h.blk
theorem Two.set0 {w : World} {g : Nat} {t : TypeId} {x y : Value} (h : Two w g t x y) (u : Value) : Two (w.setCell ⟨g, 0, none⟩ u) g t u y := ⟨by rw [heap_setCell_same w g 0 _ t _ h.blk]; rfl⟩
theorem Two.set1 {w : World} {g : Nat} {t : TypeId} {x y : Value} (h : Two w g t x y) (u : Value) : Two (w.setCell ⟨g, 1, none⟩ u) g t x u := ⟨by rw [heap_setCell_same w g 1 _ t _ h.blk]; rfl⟩
theorem New.offs {B g : Nat} {v : Value} (h : New B v) (hg : g < B) (xs : List Nat) : Off g v xs := by
  intro _ a l c hv he
  have := h a l c hv
  omega
/-- What lies in the struct's memory after both stores, and what all else is. -/
structure Put (w w' : World) (g : Nat) (t : TypeId) (x y : Value) : Prop where
  two : Two w' g t x y
  only : Only g w w'
theorem Put.made {w : World} {g : Nat} {t : TypeId} {x y : Value} (h : Two w g t x y) (u v : Value) : Put w ((w.setCell ⟨g, 0, none⟩ u).setCell ⟨g, 1, none⟩ v) g t u v :=
  ⟨(h.set0 u).set1 v, ((Only.refl g w).set 0 u).set 1 v⟩
set_option maxRecDepth 100000 in
theorem reduced_n {a b : Nat} {va vb : Value} {w : World} (ha : Sl w va (limbs a)) (hb : Sl w vb (limbs b)) (h1 : (limbs a).length ≤ 128) (h2 : (limbs b).length ≤ 128) (h0 : b ≠ 0) :
    Calls Tryz.prog 75 #[va, vb] w (FrR (FracN.low a b) w) := by
  have HA := Lib.hid ha; have HB := Lib.hid hb; have H1 := Lib.hid h1; have H2 := Lib.hid h2; have H0 := Lib.hid h0
  clear ha hb h1 h2 h0
  go_enter Tryz.func75, Tryz.ntmps75
  go_wp2_with fail
  have hk1 : Kp w (w.alloc (Obj.cells #[Value.slice none 0 0, Value.slice none 0 0] 26)) := Kp.alloc (Kp.refl _) _
  obtain ⟨w1, hw1⟩ : ∃ w1, w1 = w.alloc (Obj.cells #[Value.slice none 0 0, Value.slice none 0 0] 26) := ⟨_, rfl⟩
  have hB : Two w1 w.heap.size 26 (Value.slice none 0 0) (Value.slice none 0 0) := by rw [hw1]; exact Two.new _ _ _ _
  have hz1 : w.heap.size < w1.heap.size := by rw [hw1]; simp
  rw [← hw1] at hk1 ⊢
  have HK1 := Lib.hid hk1; have HBB := Lib.hid hB
  clear hk1 hw1 hB
  refine (gcd_n (HA.out.keep HK1.out) (HB.out.keep HK1.out) H1.out H2.out).mono ?_
  intro e w2 hq
  obtain ⟨⟨vg, rfl, h1, h2⟩, hk⟩ := hq
  have HG := Lib.hid h1; have HK2 := Lib.hid hk; clear h1 h2 hk
  have HG0 : Hid (Nat.gcd a b ≠ 0) := Nat.ne_of_gt (Nat.gcd_pos_of_pos_right _ (Nat.pos_of_ne_zero H0.out))
  have HGL : Hid ((limbs (Nat.gcd a b)).length ≤ 128) := gcd_len H1.out H2.out
  go_wp2_with fail
  refine (quotient_n ((HA.out.keep HK1.out).keep HK2.out) HG.out H1.out HGL.out HG0.out).mono ?_
  intro e w3 hq
  obtain ⟨⟨vn, rfl, h1, h2⟩, hk⟩ := hq
  have HN := Lib.hid h1; have HNN := Lib.hid h2; have HK3 := Lib.hid hk; clear h1 h2 hk
  go_wp2_with fail
  refine (quotient_n (((HB.out.keep HK1.out).keep HK2.out).keep HK3.out) (HG.out.keep HK3.out) H2.out HGL.out HG0.out).mono ?_
  intro e w4 hq
  obtain ⟨⟨vd, rfl, h1, h2⟩, hk⟩ := hq
  have HD := Lib.hid h1; have HDN := Lib.hid h2; have HK4 := Lib.hid hk; clear h1 h2 hk
  obtain ⟨no, nl, nc, rfl⟩ := HN.out.open3
  obtain ⟨do', dl, dc, rfl⟩ := HD.out.open3
  have hT := ((HBB.out.keep HK2.out).keep HK3.out).keep HK4.out
  have HT := Lib.hid hT
  have hP := Lib.hid (Put.made hT (.slice no nl nc) (.slice do' dl dc))
  have f0 := hT.free 0
  have c0 := hT.c0
  have f1 := (hT.set0 (.slice no nl nc)).free 1
  have c1 := (hT.set0 (.slice no nl nc)).c1
  clear hT
  go_wp2_with fail
  have hP' := hP.out
  obtain ⟨w5, hw5⟩ : ∃ w5, w5 = (w4.setCell ⟨w.heap.size, 0, none⟩ (.slice no nl nc)).setCell ⟨w.heap.size, 1, none⟩ (.slice do' dl dc) := ⟨_, rfl⟩
  rw [← hw5] at hP' ⊢
  clear hw5 hP c0 c1 f0 f1
  have c0 := hP'.two.c0
  have c1 := hP'.two.c1
  have hk4 : Kp w1 w4 := Kp.trans (Kp.trans HK2.out HK3.out) HK4.out
  have FIN2 : FrR (FracN.low a b) w (.returned (.agg #[.slice no nl nc, .slice do' dl dc])) w5 :=
    ⟨⟨_, _, rfl, (HN.out.keep HK4.out).only hP'.only (HNN.out.offs (Nat.lt_of_lt_of_le hz1 HK2.out.size) _), HD.out.only hP'.only (HDN.out.offs (Nat.lt_of_lt_of_le hz1 (Nat.le_trans HK2.out.size HK3.out.size)) _), HNN.out.mono (Nat.le_trans HK1.out.size HK2.out.size), HDN.out.mono (Nat.le_trans HK1.out.size (Nat.le_trans HK2.out.size HK3.out.size))⟩, hP'.only.kp (Kp.trans HK1.out hk4) (Nat.le_refl _)⟩
  exact bodyPost_ret (by simp [results, Tryz.results75, go_sem, c0, c1]) rfl FIN2
end Go.Proofs.YtdoponlhiidimaaGreatDoor
