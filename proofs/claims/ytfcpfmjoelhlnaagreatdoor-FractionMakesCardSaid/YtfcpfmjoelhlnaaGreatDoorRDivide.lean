/- The reference's Divide and Gcd, and what both sides' operations answer: a value and an error. Condition: the slices hold the digits that are named. -/
import Derived.Test.YtfcpfmjoelhlnaaGreatDoorRSplitM
namespace Go.Proofs.YtfcpfmjoelhlnaaGreatDoor
open Go.RowKit LimbN

theorem Split_any {a b : Nat} {va vb : Value} {w : World} (ha : Sl w va (limbs a)) (hb : Sl w vb (limbs b)) (hla : (limbs a).length ≤ 1000) (h0 : b ≠ 0) :
    Calls Tryz.prog 81 #[va, vb] w (Quot a b w) := by
  by_cases hlt : a < b
  · exact Split_less ha hb hla hlt
  · by_cases h1 : (limbs b).length = 1
    · exact Split_one ha hb h0 h1 (by omega)
    · have := limbs_len_pos.2 h0
      exact Split_more ha hb hla (by omega) (by omega)
/-- A value and an error. -/
structure OpR (E : Int) (V : List Nat) (w : World) (e : Ending) (w' : World) : Prop where
  ex : ∃ v, e = .returned (.tuple #[v, .int .i64 E]) ∧ Sl w' v V
  kp : Kp w w'
open Classical in
/-- the error of a result n: not well-formed arguments, or too large. -/
noncomputable def resE (ok : Bool) (n : Nat) : Int := if ok = false then 1 else if (limbs n).length ≤ 128 then 0 else 2
open Classical in
noncomputable def resV (ok : Bool) (n : Nat) : List Nat := if resE ok n = 0 then limbs n else []
theorem OpR.bad1 {ok : Bool} {n : Nat} {w w' : World} {e : Ending} (h : ok = false) (he : e = Bad1) (hk : Kp w w') : OpR (resE ok n) (resV ok n) w e w' := by
  have e1 : resE ok n = 1 := by unfold resE; rw [if_pos h]
  have e2 : resV ok n = [] := by unfold resV; rw [if_neg (by rw [e1]; decide)]
  exact ⟨⟨_, by rw [he, e1]; rfl, by rw [e2]; exact Sl.nil _⟩, hk⟩
theorem OpR.made {ok : Bool} {n : Nat} {w w' : World} {e : Ending} (h : ok = true) (hm : Made n w e w') : OpR (resE ok n) (resV ok n) w e w' := by
  obtain ⟨⟨v, rfl, hs, -⟩, hk⟩ := hm
  by_cases hl : (limbs n).length ≤ 128
  · have e1 : resE ok n = 0 := by unfold resE; rw [if_neg (by rw [h]; decide), if_pos hl]
    have e2 : resV ok n = limbs n := by unfold resV; rw [if_pos e1]
    exact ⟨⟨v, by rw [if_pos hl, e1], by rw [e2]; exact hs⟩, hk⟩
  · have e1 : resE ok n = 2 := by unfold resE; rw [if_neg (by rw [h]; decide), if_neg hl]
    have e2 : resV ok n = [] := by unfold resV; rw [if_neg (by rw [e1]; decide)]
    exact ⟨⟨_, by rw [if_neg hl, e1], by rw [e2]; exact Sl.nil _⟩, hk⟩
open Classical in
noncomputable def subE (ok : Bool) (a b : Nat) : Int := if ok = true ∧ a < b then 5 else resE ok (a - b)
open Classical in
noncomputable def subV (ok : Bool) (a b : Nat) : List Nat := if ok = true ∧ a < b then [] else resV ok (a - b)
theorem OpR.bad5 {ok : Bool} {a b : Nat} {w w' : World} {e : Ending} (h : ok = true) (hlt : a < b) (he : e = Bad5) (hk : Kp w w') : OpR (subE ok a b) (subV ok a b) w e w' := by
  have e1 : subE ok a b = 5 := by unfold subE; rw [if_pos ⟨h, hlt⟩]
  have e2 : subV ok a b = [] := by unfold subV; rw [if_pos ⟨h, hlt⟩]
  exact ⟨⟨_, by rw [he, e1]; rfl, by rw [e2]; exact Sl.nil _⟩, hk⟩
theorem OpR.sub {ok : Bool} {a b : Nat} {w w' : World} {e : Ending} (h : ¬ (ok = true ∧ a < b)) (hr : OpR (resE ok (a - b)) (resV ok (a - b)) w e w') : OpR (subE ok a b) (subV ok a b) w e w' := by
  have e1 : subE ok a b = resE ok (a - b) := by unfold subE; rw [if_neg h]
  have e2 : subV ok a b = resV ok (a - b) := by unfold subV; rw [if_neg h]
  rw [e1, e2]; exact hr
theorem OpR.one {ok : Bool} {n : Nat} {w w' : World} {e : Ending} (h : ok = true) (hl : (limbs n).length ≤ 128) (hm : One n w e w') : OpR (resE ok n) (resV ok n) w e w' := by
  obtain ⟨⟨v, rfl, hs, -⟩, hk⟩ := hm
  have e1 : resE ok n = 0 := by unfold resE; rw [if_neg (by rw [h]; decide), if_pos hl]
  have e2 : resV ok n = limbs n := by unfold resV; rw [if_pos e1]
  exact ⟨⟨v, by rw [e1], by rw [e2]; exact hs⟩, hk⟩
set_option maxHeartbeats 400000 in
theorem Gcd_bad1 {xs : List Nat} {va vb : Value} {w : World} (ha : Sl w va xs) (hx : wf xs = false) :
    Calls Tryz.prog 54 #[va, vb] w fun e w' => e = Bad1 ∧ w = w' := by
  have HA := Lib.hid ha; have HX := Lib.hid hx; clear ha hx
  go_enter Tryz.func54, Tryz.ntmps54
  go_wp2_with fail
  refine (check_any HA.out).mono ?_
  rintro e w' ⟨rfl, rfl⟩
  rw [HX.out]
  go_wp2
  go_ret2
  exact ⟨rfl, rfl⟩
set_option maxHeartbeats 400000 in
theorem Gcd_bad2 {xs ys : List Nat} {va vb : Value} {w : World} (ha : Sl w va xs) (hb : Sl w vb ys) (hx : wf xs = true) (hy : wf ys = false) :
    Calls Tryz.prog 54 #[va, vb] w fun e w' => e = Bad1 ∧ w = w' := by
  have HA := Lib.hid ha; have HX := Lib.hid hx; have HB := Lib.hid hb; have HY := Lib.hid hy; clear ha hx hb hy
  go_enter Tryz.func54, Tryz.ntmps54
  go_wp2_with fail
  refine (check_any HA.out).mono ?_
  rintro e w' ⟨rfl, rfl⟩
  rw [HX.out]
  go_wp2_with fail
  refine (check_any HB.out).mono ?_
  rintro e w' ⟨rfl, rfl⟩
  rw [HY.out]
  go_wp2
  go_ret2
  exact ⟨rfl, rfl⟩
/-- both arguments are well-formed. -/
def okB (xs ys : List Nat) : Bool := wf xs && wf ys
theorem okB_false {xs ys : List Nat} (h : wf xs = false ∨ wf ys = false) : okB xs ys = false := by unfold okB; rcases h with h | h <;> simp [h]
theorem okB_true {xs ys : List Nat} (h : wf xs = true) (k : wf ys = true) : okB xs ys = true := by unfold okB; simp [h, k]
theorem Add_any {xs ys : List Nat} {va vb : Value} {w : World} (ha : Sl w va xs) (hb : Sl w vb ys) : Calls Tryz.prog 99 #[va, vb] w (OpR (resE (okB xs ys) (val xs + val ys)) (resV (okB xs ys) (val xs + val ys)) w) := by
  cases hx : wf xs with
  | false => exact (Add_bad1 ha hx).mono fun e w' h => OpR.bad1 (okB_false (.inl hx)) h.1 (Kp.of_eq h.2)
  | true =>
    cases hy : wf ys with
    | false => exact (Add_bad2 ha hb hx hy).mono fun e w' h => OpR.bad1 (okB_false (.inr hy)) h.1 (Kp.of_eq h.2)
    | true => exact (Add_ok ha hb hx hy).mono fun e w' h => OpR.made (okB_true hx hy) h
theorem Mul_any {xs ys : List Nat} {va vb : Value} {w : World} (ha : Sl w va xs) (hb : Sl w vb ys) : Calls Tryz.prog 103 #[va, vb] w (OpR (resE (okB xs ys) (val xs * val ys)) (resV (okB xs ys) (val xs * val ys)) w) := by
  cases hx : wf xs with
  | false => exact (Mul_bad1 ha hx).mono fun e w' h => OpR.bad1 (okB_false (.inl hx)) h.1 (Kp.of_eq h.2)
  | true =>
    cases hy : wf ys with
    | false => exact (Mul_bad2 ha hb hx hy).mono fun e w' h => OpR.bad1 (okB_false (.inr hy)) h.1 (Kp.of_eq h.2)
    | true => exact (Mul_ok ha hb hx hy).mono fun e w' h => OpR.made (okB_true hx hy) h
theorem Sub_any {xs ys : List Nat} {va vb : Value} {w : World} (ha : Sl w va xs) (hb : Sl w vb ys) : Calls Tryz.prog 101 #[va, vb] w (OpR (subE (okB xs ys) (val xs) (val ys)) (subV (okB xs ys) (val xs) (val ys)) w) := by
  cases hx : wf xs with
  | false => exact (Sub_bad1 ha hx).mono fun e w' h => OpR.sub (by rw [okB_false (.inl hx)]; simp) (OpR.bad1 (okB_false (.inl hx)) h.1 (Kp.of_eq h.2))
  | true =>
    cases hy : wf ys with
    | false => exact (Sub_bad2 ha hb hx hy).mono fun e w' h => OpR.sub (by rw [okB_false (.inr hy)]; simp) (OpR.bad1 (okB_false (.inr hy)) h.1 (Kp.of_eq h.2))
    | true =>
      by_cases hlt : val xs < val ys
      · exact (Sub_neg ha hb hx hy hlt).mono fun e w' h => OpR.bad5 (okB_true hx hy) hlt h.1 h.2.kp
      · exact (Sub_ok ha hb hx hy (by omega)).mono fun e w' h => OpR.sub (fun h => hlt h.2) (OpR.made (okB_true hx hy) h)
theorem Gcd_any {xs ys : List Nat} {va vb : Value} {w : World} (ha : Sl w va xs) (hb : Sl w vb ys) : Calls Tryz.prog 54 #[va, vb] w (OpR (resE (okB xs ys) (Nat.gcd (val xs) (val ys))) (resV (okB xs ys) (Nat.gcd (val xs) (val ys))) w) := by
  cases hx : wf xs with
  | false => exact (Gcd_bad1 ha hx).mono fun e w' h => OpR.bad1 (okB_false (.inl hx)) h.1 (Kp.of_eq h.2)
  | true =>
    cases hy : wf ys with
    | false => exact (Gcd_bad2 ha hb hx hy).mono fun e w' h => OpR.bad1 (okB_false (.inr hy)) h.1 (Kp.of_eq h.2)
    | true =>
      have hcx := wf_canon ha.lt hx
      have hcy := wf_canon hb.lt hy
      exact (Gcd_ok ha hb hx hy).mono fun e w' h => OpR.one (okB_true hx hy) (gcd_len (by rw [hcx.1]; exact hcx.2) (by rw [hcy.1]; exact hcy.2)) h
end Go.Proofs.YtfcpfmjoelhlnaaGreatDoor
