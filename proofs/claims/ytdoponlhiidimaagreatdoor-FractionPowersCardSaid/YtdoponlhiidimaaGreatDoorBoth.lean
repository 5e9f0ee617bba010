/- Both sides' operations of any two fractions of at most 8 limbs answer the same. Condition: the slices hold the digits that are named. -/
import Derived.Test.YtdoponlhiidimaaGreatDoorMMd
import Derived.Test.YtdoponlhiidimaaGreatDoorNegF
namespace Go.Proofs.YtdoponlhiidimaaGreatDoor
open Go.RowKit LimbN
set_option linter.unusedVariables false
set_option linter.unusedSimpArgs false

/-- Two functions of two fractions give one fraction and error, in every world in which the slices read so. -/
def Both (f r : FuncId) (xs ys us vs : List Nat) : Prop := ∃ (E : Int) (p : Nat × Nat), ∀ (w : World) (va vb vc vd : Value), Sl w va xs → Sl w vb ys → Sl w vc us → Sl w vd vs →
  Calls Tryz.prog f #[.agg #[va, vb], .agg #[vc, vd]] w (MkR E p w) ∧ Calls Tryz.prog r #[.agg #[va, vb], .agg #[vc, vd]] w (MkR E p w)
theorem fr_nums {xs ys : List Nat} (hx : Lt xs) (hy : Lt ys) (h : frOk xs ys = true) (lx : xs.length ≤ 8) (ly : ys.length ≤ 8) : ∃ n d, xs = limbs n ∧ ys = limbs d ∧ d ≠ 0 ∧ Nat.gcd n d = 1 ∧ (limbs n).length ≤ 8 ∧ (limbs d).length ≤ 8 := by
  unfold frOk at h
  simp only [Bool.and_eq_true, decide_eq_true_eq, beq_iff_eq] at h
  obtain ⟨h1, h2, h3, h4⟩ := h
  have e1 := (wf_canon hx h1).1
  have e2 := (wf_canon hy h2).1
  exact ⟨val xs, val ys, e1.symm, e2.symm, h3, h4, by rw [e1]; exact lx, by rw [e2]; exact ly⟩
theorem bad_or {xs ys us vs : List Nat} (h : ¬ (frOk xs ys = true ∧ frOk us vs = true)) : frOk xs ys = false ∨ (frOk xs ys = true ∧ frOk us vs = false) := by
  cases h1 : frOk xs ys with
  | false => exact .inl rfl
  | true =>
    cases h2 : frOk us vs with
    | false => exact .inr ⟨rfl, rfl⟩
    | true => exact absurd ⟨h1, h2⟩ h
theorem low128 {n d : Nat} (h1 : (limbs n).length ≤ 17) (h2 : (limbs d).length ≤ 17) : (limbs (FracN.low n d).1).length ≤ 128 ∧ (limbs (FracN.low n d).2).length ≤ 128 :=
  ⟨Nat.le_trans (limbs_mono (FracN.low_le_self _ _).1) (Nat.le_trans h1 (by decide)), Nat.le_trans (limbs_mono (FracN.low_le_self _ _).2) (Nat.le_trans h2 (by decide))⟩
theorem mul17 {a b : Nat} (ha : (limbs a).length ≤ 8) (hb : (limbs b).length ≤ 8) : (limbs (a * b)).length ≤ 17 := Nat.le_trans (mul_len ha hb) (by decide)
theorem two17 {a b : Nat} (ha : (limbs a).length ≤ 8) (hb : (limbs b).length ≤ 8) : (limbs (2 * (a * b))).length ≤ 128 := by
  rw [Nat.two_mul]
  exact Nat.le_trans (add_len (mul_len ha hb) (mul_len ha hb)) (by decide)
section
variable {xs ys us vs : List Nat} (hx : Lt xs) (hy : Lt ys) (hu : Lt us) (hv : Lt vs) (lx : xs.length ≤ 8) (ly : ys.length ≤ 8) (lu : us.length ≤ 8) (lv : vs.length ≤ 8)
include hx hy hu hv lx ly lu lv
theorem add_both : Both 36 34 xs ys us vs := by
  by_cases h : frOk xs ys = true ∧ frOk us vs = true
  · obtain ⟨a, b, rfl, rfl, b0, g1, la, lb⟩ := fr_nums hx hy h.1 lx ly
    obtain ⟨c, d, rfl, rfl, d0, g2, lc, ld⟩ := fr_nums hu hv h.2 lu lv
    exact ⟨0, _, fun w va vb vc vd s1 s2 s3 s4 => ⟨Add_low b0 d0 g1 g2 (Nat.le_trans (add_len (mul_len la ld) (mul_len lc lb)) (by decide)) (Nat.le_trans (mul_len lb ld) (by decide)) s1 s2 s3 s4, rAddF_n b0 d0 la lb lc ld g1 g2 s1 s2 s3 s4⟩⟩
  · exact ⟨1, (0, 0), fun w va vb vc vd s1 s2 s3 s4 => ⟨Add_bad s1 s2 s3 s4 (bad_or h), rAdd_bad s1 s2 s3 s4 (bad_or h)⟩⟩
end
end Go.Proofs.YtdoponlhiidimaaGreatDoor
