/- The reference's division: quotient and remainder. Conditions: the slices hold the numbers that are named, of at most 1000 limbs; the divisor is not 0. -/
import Derived.Test.YtgpochhndjadhaaDoorMRc
import Derived.Deep.RegionHeld3
namespace Go.Proofs.YtgpochhndjadhaaDoor
open Go.RowKit LimbN
theorem norm_gap {dt s : Nat} (hs : s < 32) (h : dt * 2 ^ s < 4294967296) : (dt + 1) * 2 ^ s ≤ 4294967296 := by
  have e := pow32 hs
  have h1 : dt < 2 ^ (32 - s) := by
    rw [← e, Nat.mul_comm (2 ^ s)] at h
    exact Nat.lt_of_mul_lt_mul_right h
  have := Nat.mul_le_mul_right (2 ^ s) (show dt + 1 ≤ 2 ^ (32 - s) from h1)
  rw [Nat.mul_comm (2 ^ (32 - s)), e] at this
  exact this
/-- The estimate's limbs. -/
theorem two_of {zr dv : List Nat} {o m R D : Nat} (hz : Lt zr) (hd : Lt dv) (hdl : dv.length = m + 2) (hR : R = seg zr o (m + 3)) (hD : D = val dv) (hlt : R < 4294967296 * D) (hn : 4294967296 ^ (m + 1) * 2147483648 ≤ D) :
    Two R D (4294967296 ^ m) (zr[o + m]?.getD 0) (zr[o + (m + 1)]?.getD 0 + 4294967296 * zr[o + (m + 2)]?.getD 0) (dv[m]?.getD 0) (dv[m + 1]?.getD 0) := by
  have hp : 0 < 4294967296 ^ m := Nat.pow_pos (by omega)
  have e1 : R = seg zr o m + 4294967296 ^ m * (zr[o + m]?.getD 0 + 4294967296 * (zr[o + (m + 1)]?.getD 0 + 4294967296 * zr[o + (m + 2)]?.getD 0)) := by
    rw [hR, seg_succ, seg_succ, seg_succ]
    simp only [Nat.pow_succ, Nat.mul_add, Nat.mul_assoc]; omega
  have e2 := seg_lt hz o m
  have e3 : D = val (dv.take m) + 4294967296 ^ m * (dv[m]?.getD 0 + 4294967296 * dv[m + 1]?.getD 0) := by
    have h := val_take_succ dv (m + 1)
    rw [List.take_of_length_le (by omega), val_take_succ] at h
    rw [hD, h]
    simp only [Nat.pow_succ, Nat.mul_add, Nat.mul_assoc]; omega
  have e4 : val (dv.take m) < 4294967296 ^ m := by have := val_lt (hd.take m); rwa [List.length_take, Nat.min_eq_left (by omega)] at this
  refine ⟨by omega, by rw [Nat.mul_add]; omega, by omega, by rw [Nat.mul_add]; omega, hp, hlt, hz _, hd _, hd _, ?_⟩
  refine Nat.le_of_not_lt fun h => ?_
  have h1 : 4294967296 ^ m * (dv[m]?.getD 0 + 4294967296 * dv[m + 1]?.getD 0 + 1) ≤ 4294967296 ^ m * (4294967296 * 2147483648) := Nat.mul_le_mul_left _ (by have := hd m; omega)
  rw [Nat.mul_add] at h1
  rw [Nat.pow_succ, Nat.mul_assoc] at hn
  omega
theorem est_bound {top v1 : Nat} (h : 2147483648 ≤ v1) (ht : top < 18446744073709551616) : top / v1 ≤ 8589934591 := by
  have : top / v1 < 8589934592 := by
    rw [Nat.div_lt_iff_lt_mul (by omega)]
    have := Nat.mul_le_mul_left 8589934592 h
    omega
  omega
end Go.Proofs.YtgpochhndjadhaaDoor

/- The reference's division by a divisor of two limbs or more. Conditions: the slices hold the numbers that are named, of at most 1000 limbs. -/
namespace Go.Proofs.YtgpochhndjadhaaDoor
open Go.RowKit LimbN

theorem wrap_in64 {n : Int} (h0 : -9223372036854775808 ≤ n) (h1 : n ≤ 9223372036854775807) : IntKind.i64.wrap n = n := by rw [IntKind.wrap_i64]; omega
theorem wrap_inu {n : Int} (h0 : 0 ≤ n) (h1 : n ≤ 18446744073709551615) : IntKind.u64.wrap n = n := by rw [IntKind.wrap_u64]; omega
theorem LongSt.drawn {xs dv : List Nat} {D m g2 g3 : Nat} {vd : Value} {w wr wy : World} {k : Nat} {zr ds : List Nat} {n : Nat} (h : LongSt xs dv D m g2 g3 vd w wr k zr ds n) (hd : Drawn wr wy) : LongSt xs dv D m g2 g3 vd w wy k zr ds n := by
  obtain ⟨h1, h2, h3, h4, h5, h6⟩ := h
  exact ⟨h1, h2, h3.keep hd.kp, h4.keep hd.kp, h5.keep hd.kp, Kp.trans h6 hd.kp⟩
theorem Sl.cells {w : World} {g o n c : Nat} {xs : List Nat} (h : Sl w (.slice (some ⟨g, o, none⟩) n c) xs) (i : Nat) (hi : i < n) (hn : xs.length = n) : w.cell? ⟨g, o + i, none⟩ = some (.int .u32 (xs[i]?.getD 0 : Nat)) := by
  obtain ⟨⟨ao, cap, e, _, _, hat, _⟩, _, _⟩ := h
  simp only [Value.slice.injEq] at e
  obtain ⟨b', off', h6, h7⟩ := hat.cells (by omega)
  rw [← e.1] at h6
  simp only [Option.some.injEq, Addr.mk.injEq, and_true] at h6
  rw [h6.1, h6.2]
  exact h7 i (by omega)
end Go.Proofs.YtgpochhndjadhaaDoor

/- The reference's Divide and Gcd, and what both sides' operations answer: a value and an error. Condition: the slices hold the digits that are named. -/
namespace Go.Proofs.YtgpochhndjadhaaDoor
open Go.RowKit LimbN
/-- A value and an error. -/
structure OpR (E : Int) (V : List Nat) (w : World) (e : Ending) (w' : World) : Prop where
  ex : ∃ v, e = .returned (.tuple #[v, .int .i64 E]) ∧ Sl w' v V
  kp : Kp w w'
open Classical in
/-- the error of a result n: not well-formed arguments, or too large. -/
noncomputable def resE (ok : Bool) (n : Nat) : Int := if ok = false then 1 else if (limbs n).length ≤ 128 then 0 else 2
open Classical in
noncomputable def resV (ok : Bool) (n : Nat) : List Nat := if resE ok n = 0 then limbs n else []
theorem OpR.bad1 {ok : Bool} {n : Nat} {w w' : World} {e : Ending} (h : ok = false) (he : e = Bad1) (hk : Kp w w') : OpR (resE ok n) (resV ok n) w e w' := by
  have e1 : resE ok n = 1 := by unfold resE; rw [if_pos h]
  have e2 : resV ok n = [] := by unfold resV; rw [if_neg (by rw [e1]; decide)]
  exact ⟨⟨_, by rw [he, e1]; rfl, by rw [e2]; exact Sl.nil _⟩, hk⟩
theorem OpR.made {ok : Bool} {n : Nat} {w w' : World} {e : Ending} (h : ok = true) (hm : Made n w e w') : OpR (resE ok n) (resV ok n) w e w' := by
  obtain ⟨⟨v, rfl, hs, -⟩, hk⟩ := hm
  by_cases hl : (limbs n).length ≤ 128
  · have e1 : resE ok n = 0 := by unfold resE; rw [if_neg (by rw [h]; decide), if_pos hl]
    have e2 : resV ok n = limbs n := by unfold resV; rw [if_pos e1]
    exact ⟨⟨v, by rw [if_pos hl, e1], by rw [e2]; exact hs⟩, hk⟩
  · have e1 : resE ok n = 2 := by unfold resE; rw [if_neg (by rw [h]; decide), if_neg hl]
    have e2 : resV ok n = [] := by unfold resV; rw [if_neg (by rw [e1]; decide)]
    exact ⟨⟨_, by rw [if_neg hl, e1], by rw [e2]; exact Sl.nil _⟩, hk⟩
open Classical in
noncomputable def subE (ok : Bool) (a b : Nat) : Int := if ok = true ∧ a < b then 5 else resE ok (a - b)
open Classical in
noncomputable def subV (ok : Bool) (a b : Nat) : List Nat := if ok = true ∧ a < b then [] else resV ok (a - b)
theorem OpR.bad5 {ok : Bool} {a b : Nat} {w w' : World} {e : Ending} (h : ok = true) (hlt : a < b) (he : e = Bad5) (hk : Kp w w') : OpR (subE ok a b) (subV ok a b) w e w' := by
  have e1 : subE ok a b = 5 := by unfold subE; rw [if_pos ⟨h, hlt⟩]
  have e2 : subV ok a b = [] := by unfold subV; rw [if_pos ⟨h, hlt⟩]
  exact ⟨⟨_, by rw [he, e1]; rfl, by rw [e2]; exact Sl.nil _⟩, hk⟩
theorem OpR.sub {ok : Bool} {a b : Nat} {w w' : World} {e : Ending} (h : ¬ (ok = true ∧ a < b)) (hr : OpR (resE ok (a - b)) (resV ok (a - b)) w e w') : OpR (subE ok a b) (subV ok a b) w e w' := by
  have e1 : subE ok a b = resE ok (a - b) := by unfold subE; rw [if_neg h]
  have e2 : subV ok a b = resV ok (a - b) := by unfold subV; rw [if_neg h]
  rw [e1, e2]; exact hr
theorem OpR.one {ok : Bool} {n : Nat} {w w' : World} {e : Ending} (h : ok = true) (hl : (limbs n).length ≤ 128) (hm : One n w e w') : OpR (resE ok n) (resV ok n) w e w' := by
  obtain ⟨⟨v, rfl, hs, -⟩, hk⟩ := hm
  have e1 : resE ok n = 0 := by unfold resE; rw [if_neg (by rw [h]; decide), if_pos hl]
  have e2 : resV ok n = limbs n := by unfold resV; rw [if_pos e1]
  exact ⟨⟨v, by rw [e1], by rw [e2]; exact hs⟩, hk⟩
set_option maxHeartbeats 400000 in
theorem Gcd_bad1 {xs : List Nat} {va vb : Value} {w : World} (ha : Sl w va xs) (hx : wf xs = false) :
    Calls Tryd.prog 24 #[va, vb] w fun e w' => e = Bad1 ∧ w = w' := by
  have HA := Lib.hid ha; have HX := Lib.hid hx; clear ha hx
  go_enter Tryd.func24, Tryd.ntmps24
  go_wp2_with fail
  refine (check_any HA.out).mono ?_
  rintro e w' ⟨rfl, rfl⟩
  rw [HX.out]
  go_wp2
  go_ret2
  exact ⟨rfl, rfl⟩
set_option maxHeartbeats 400000 in
theorem Gcd_bad2 {xs ys : List Nat} {va vb : Value} {w : World} (ha : Sl w va xs) (hb : Sl w vb ys) (hx : wf xs = true) (hy : wf ys = false) :
    Calls Tryd.prog 24 #[va, vb] w fun e w' => e = Bad1 ∧ w = w' := by
  have HA := Lib.hid ha; have HX := Lib.hid hx; have HB := Lib.hid hb; have HY := Lib.hid hy; clear ha hx hb hy
  go_enter Tryd.func24, Tryd.ntmps24
  go_wp2_with fail
  refine (check_any HA.out).mono ?_
  rintro e w' ⟨rfl, rfl⟩
  rw [HX.out]
  go_wp2_with fail
  refine (check_any HB.out).mono ?_
  rintro e w' ⟨rfl, rfl⟩
  rw [HY.out]
  go_wp2
  go_ret2
  exact ⟨rfl, rfl⟩
/-- both arguments are well-formed. -/
def okB (xs ys : List Nat) : Bool := wf xs && wf ys
theorem okB_false {xs ys : List Nat} (h : wf xs = false ∨ wf ys = false) : okB xs ys = false := by unfold okB; rcases h with h | h <;> simp [h]
theorem okB_true {xs ys : List Nat} (h : wf xs = true) (k : wf ys = true) : okB xs ys = true := by unfold okB; simp [h, k]
theorem Add_any {xs ys : List Nat} {va vb : Value} {w : World} (ha : Sl w va xs) (hb : Sl w vb ys) : Calls Tryd.prog 40 #[va, vb] w (OpR (resE (okB xs ys) (val xs + val ys)) (resV (okB xs ys) (val xs + val ys)) w) := by
  cases hx : wf xs with
  | false => exact (Add_bad1 ha hx).mono fun e w' h => OpR.bad1 (okB_false (.inl hx)) h.1 (Kp.of_eq h.2)
  | true =>
    cases hy : wf ys with
    | false => exact (Add_bad2 ha hb hx hy).mono fun e w' h => OpR.bad1 (okB_false (.inr hy)) h.1 (Kp.of_eq h.2)
    | true => exact (Add_ok ha hb hx hy).mono fun e w' h => OpR.made (okB_true hx hy) h
theorem Mul_any {xs ys : List Nat} {va vb : Value} {w : World} (ha : Sl w va xs) (hb : Sl w vb ys) : Calls Tryd.prog 28 #[va, vb] w (OpR (resE (okB xs ys) (val xs * val ys)) (resV (okB xs ys) (val xs * val ys)) w) := by
  cases hx : wf xs with
  | false => exact (Mul_bad1 ha hx).mono fun e w' h => OpR.bad1 (okB_false (.inl hx)) h.1 (Kp.of_eq h.2)
  | true =>
    cases hy : wf ys with
    | false => exact (Mul_bad2 ha hb hx hy).mono fun e w' h => OpR.bad1 (okB_false (.inr hy)) h.1 (Kp.of_eq h.2)
    | true => exact (Mul_ok ha hb hx hy).mono fun e w' h => OpR.made (okB_true hx hy) h
theorem Sub_any {xs ys : List Nat} {va vb : Value} {w : World} (ha : Sl w va xs) (hb : Sl w vb ys) : Calls Tryd.prog 69 #[va, vb] w (OpR (subE (okB xs ys) (val xs) (val ys)) (subV (okB xs ys) (val xs) (val ys)) w) := by
  cases hx : wf xs with
  | false => exact (Sub_bad1 ha hx).mono fun e w' h => OpR.sub (by rw [okB_false (.inl hx)]; simp) (OpR.bad1 (okB_false (.inl hx)) h.1 (Kp.of_eq h.2))
  | true =>
    cases hy : wf ys with
    | false => exact (Sub_bad2 ha hb hx hy).mono fun e w' h => OpR.sub (by rw [okB_false (.inr hy)]; simp) (OpR.bad1 (okB_false (.inr hy)) h.1 (Kp.of_eq h.2))
    | true =>
      by_cases hlt : val xs < val ys
      · exact (Sub_neg ha hb hx hy hlt).mono fun e w' h => OpR.bad5 (okB_true hx hy) hlt h.1 h.2.kp
      · exact (Sub_ok ha hb hx hy (by omega)).mono fun e w' h => OpR.sub (fun h => hlt h.2) (OpR.made (okB_true hx hy) h)
theorem Gcd_any {xs ys : List Nat} {va vb : Value} {w : World} (ha : Sl w va xs) (hb : Sl w vb ys) : Calls Tryd.prog 24 #[va, vb] w (OpR (resE (okB xs ys) (Nat.gcd (val xs) (val ys))) (resV (okB xs ys) (Nat.gcd (val xs) (val ys))) w) := by
  cases hx : wf xs with
  | false => exact (Gcd_bad1 ha hx).mono fun e w' h => OpR.bad1 (okB_false (.inl hx)) h.1 (Kp.of_eq h.2)
  | true =>
    cases hy : wf ys with
    | false => exact (Gcd_bad2 ha hb hx hy).mono fun e w' h => OpR.bad1 (okB_false (.inr hy)) h.1 (Kp.of_eq h.2)
    | true =>
      have hcx := wf_canon ha.lt hx
      have hcy := wf_canon hb.lt hy
      exact (Gcd_ok ha hb hx hy).mono fun e w' h => OpR.one (okB_true hx hy) (gcd_len (by rw [hcx.1]; exact hcx.2) (by rw [hcy.1]; exact hcy.2)) h
end Go.Proofs.YtgpochhndjadhaaDoor
