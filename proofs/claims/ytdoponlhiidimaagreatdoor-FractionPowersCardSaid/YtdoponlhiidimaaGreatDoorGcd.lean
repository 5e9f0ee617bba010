/- The program's Divide and Gcd: quotient and remainder, the greatest common divisor, or their errors. Condition: the slices hold the digits that are named. -/
import Derived.Test.YtdoponlhiidimaaGreatDoorDivide
import Derived.OwnWalk
namespace Go.Proofs.YtdoponlhiidimaaGreatDoor
open Go.RowKit LimbN

/-- What a slice value reads as, as a number. -/
def digs (w : World) : Value → Nat
  | .slice (some a) n _ => val ((List.range n).map fun i => match w.cell? ⟨a.block, a.off + i, none⟩ with | some (.int _ z) => z.toNat | _ => 0)
  | _ => 0
theorem digs_eq {w : World} {v : Value} {xs : List Nat} (h : Sl w v xs) : digs w v = val xs := by
  obtain ⟨⟨ao, cap, rfl, _, _, hat, hno⟩, _, _⟩ := h
  by_cases h0 : xs = []
  · subst h0
    cases ao <;> simp [digs, val]
  · obtain ⟨b, off, rfl, hc⟩ := hat.cells (List.length_pos_iff.2 h0)
    show val _ = _
    congr 1
    apply List.ext_getElem (by simp)
    intro i h1 h2
    have := hc i h2
    simp only [List.getElem_map, List.getElem_range]
    rw [this]
    simp [List.getElem?_eq_getElem h2]

def Bad100 (n : Int) : Ending := .returned (.tuple #[.slice none 0 0, .slice none 0 0, .int .i64 n])
open Classical in
/-- the error of a division. -/
noncomputable def divE (xs ys : List Nat) : Int := if wf xs = false ∨ wf ys = false then 1 else if val ys = 0 then 4 else 0
open Classical in
noncomputable def divQ (xs ys : List Nat) : List Nat := if divE xs ys = 0 then limbs (val xs / val ys) else []
open Classical in
noncomputable def divM (xs ys : List Nat) : List Nat := if divE xs ys = 0 then limbs (val xs % val ys) else []
/-- what both Divides answer. -/
structure DivR (xs ys : List Nat) (w : World) (e : Ending) (w' : World) : Prop where
  ex : ∃ vq vr, e = .returned (.tuple #[vq, vr, .int .i64 (divE xs ys)]) ∧ Sl w' vq (divQ xs ys) ∧ Sl w' vr (divM xs ys) ∧ New w.heap.size vq ∧ New w.heap.size vr
  kp : Kp w w'
theorem DivR.bad1 {xs ys : List Nat} {w w' : World} {e : Ending} (h : wf xs = false ∨ wf ys = false) (he : e = Bad100 1) (hk : Kp w w') : DivR xs ys w e w' := by
  have e1 : divE xs ys = 1 := by unfold divE; rw [if_pos h]
  have e2 : divQ xs ys = [] := by unfold divQ; rw [if_neg (by rw [e1]; decide)]
  have e3 : divM xs ys = [] := by unfold divM; rw [if_neg (by rw [e1]; decide)]
  exact ⟨⟨_, _, by rw [he, e1]; rfl, by rw [e2]; exact Sl.nil _, by rw [e3]; exact Sl.nil _, New.nil _, New.nil _⟩, hk⟩
theorem DivR.bad4 {xs ys : List Nat} {w w' : World} {e : Ending} (hx : wf xs = true) (hy : wf ys = true) (h0 : val ys = 0) (he : e = Bad100 4) (hk : Kp w w') : DivR xs ys w e w' := by
  have e1 : divE xs ys = 4 := by unfold divE; rw [if_neg (by simp [hx, hy]), if_pos h0]
  have e2 : divQ xs ys = [] := by unfold divQ; rw [if_neg (by rw [e1]; decide)]
  have e3 : divM xs ys = [] := by unfold divM; rw [if_neg (by rw [e1]; decide)]
  exact ⟨⟨_, _, by rw [he, e1]; rfl, by rw [e2]; exact Sl.nil _, by rw [e3]; exact Sl.nil _, New.nil _, New.nil _⟩, hk⟩
/-- A quotient, a remainder and no error. -/
structure Quot3 (a b : Nat) (w : World) (e : Ending) (w' : World) : Prop where
  ex : ∃ vq vr, e = .returned (.tuple #[vq, vr, .int .i64 0]) ∧ Sl w' vq (limbs (a / b)) ∧ Sl w' vr (limbs (a % b)) ∧ New w.heap.size vq ∧ New w.heap.size vr
  kp : Kp w w'
theorem DivR.good {xs ys : List Nat} {w w' : World} {e : Ending} (hx : wf xs = true) (hy : wf ys = true) (h0 : val ys ≠ 0) (h : Quot3 (val xs) (val ys) w e w') : DivR xs ys w e w' := by
  have e1 : divE xs ys = 0 := by unfold divE; rw [if_neg (by simp [hx, hy]), if_neg h0]
  have e2 : divQ xs ys = limbs (val xs / val ys) := by unfold divQ; rw [if_pos e1]
  have e3 : divM xs ys = limbs (val xs % val ys) := by unfold divM; rw [if_pos e1]
  obtain ⟨⟨vq, vr, rfl, h1, h2, h3, h4⟩, hk⟩ := h
  exact ⟨⟨vq, vr, by rw [e1], by rw [e2]; exact h1, by rw [e3]; exact h2, h3, h4⟩, hk⟩
set_option maxHeartbeats 400000 in
theorem Divide_bad1 {xs : List Nat} {va vb : Value} {w : World} (ha : Sl w va xs) (hx : wf xs = false) :
    Calls Tryz.prog 107 #[va, vb] w fun e w' => e = Bad100 1 ∧ w = w' := by
  have HA := Lib.hid ha; have HX := Lib.hid hx; clear ha hx
  go_enter Tryz.func107, Tryz.ntmps107
  go_wp2_with fail
  refine (check_any HA.out).mono ?_
  rintro e w' ⟨rfl, rfl⟩
  rw [HX.out]
  go_wp2
  go_ret3
  exact ⟨rfl, rfl⟩
set_option maxHeartbeats 400000 in
theorem Divide_bad2 {xs ys : List Nat} {va vb : Value} {w : World} (ha : Sl w va xs) (hb : Sl w vb ys) (hx : wf xs = true) (hy : wf ys = false) :
    Calls Tryz.prog 107 #[va, vb] w fun e w' => e = Bad100 1 ∧ w = w' := by
  have HA := Lib.hid ha; have HX := Lib.hid hx; have HB := Lib.hid hb; have HY := Lib.hid hy; clear ha hx hb hy
  go_enter Tryz.func107, Tryz.ntmps107
  go_wp2_with fail
  refine (check_any HA.out).mono ?_
  rintro e w' ⟨rfl, rfl⟩
  rw [HX.out]
  go_wp2_with fail
  refine (check_any HB.out).mono ?_
  rintro e w' ⟨rfl, rfl⟩
  rw [HY.out]
  go_wp2
  go_ret3
  exact ⟨rfl, rfl⟩
theorem wf_zero {ys : List Nat} (hl : Lt ys) (hy : wf ys = true) : val ys = 0 ↔ ys.length = 0 := by
  have h := (wf_canon hl hy).1
  rw [← limbs_len_zero, h]
set_option maxHeartbeats 400000 in
theorem Divide_zero {xs ys : List Nat} {va vb : Value} {w : World} (ha : Sl w va xs) (hb : Sl w vb ys) (hx : wf xs = true) (hy : wf ys = true) (h0 : val ys = 0) :
    Calls Tryz.prog 107 #[va, vb] w fun e w' => e = Bad100 4 ∧ w = w' := by
  have hl := (wf_zero hb.lt hy).1 h0
  have HA := Lib.hid ha; have HX := Lib.hid hx; have HB := Lib.hid hb; have HY := Lib.hid hy
  obtain ⟨ao, cap, rfl, -⟩ := hb.ex
  rw [hl] at HB ⊢
  clear ha hx hb hy h0 hl
  go_enter Tryz.func107, Tryz.ntmps107
  go_wp2_with fail
  refine (check_any HA.out).mono ?_
  rintro e w' ⟨rfl, rfl⟩
  rw [HX.out]
  go_wp2_with fail
  refine (check_any HB.out).mono ?_
  rintro e w' ⟨rfl, rfl⟩
  rw [HY.out]
  go_wp2
  go_ret3
  exact ⟨rfl, rfl⟩
set_option maxHeartbeats 400000 in
theorem Divide_ok {xs ys : List Nat} {va vb : Value} {w : World} (ha : Sl w va xs) (hb : Sl w vb ys) (hx : wf xs = true) (hy : wf ys = true) (h0 : val ys ≠ 0) :
    Calls Tryz.prog 107 #[va, vb] w (Quot3 (val xs) (val ys) w) := by
  have hl : ys.length ≠ 0 := fun h => h0 ((wf_zero hb.lt hy).2 h)
  have FIN : Hid (∀ e vq vr w', e = .returned (.tuple #[vq, vr, .int .i64 0]) → Sl w' vq (limbs (val xs / val ys)) → Sl w' vr (limbs (val xs % val ys)) → New w.heap.size vq → New w.heap.size vr → Kp w w' → Quot3 (val xs) (val ys) w e w') := fun e vq vr w' h1 h2 h3 h4 h5 h6 => ⟨⟨vq, vr, h1, h2, h3, h4, h5⟩, h6⟩
  obtain ⟨Q, hQ⟩ : ∃ Q, Q = Quot3 (val xs) (val ys) w := ⟨_, rfl⟩
  rw [← hQ] at FIN ⊢
  clear hQ
  have HA := Lib.hid ha; have HX := Lib.hid hx; have HB := Lib.hid hb; have HY := Lib.hid hy; have H0 : Hid (0 < val ys) := Nat.pos_of_ne_zero h0
  obtain ⟨ao, cap, rfl, -⟩ := hb.ex
  obtain ⟨l, hl'⟩ : ∃ l, l = ys.length := ⟨_, rfl⟩
  rw [← hl'] at hl HB ⊢
  have hlz : ((l : Int) == 0) = false := beq_eq_false_iff_ne.2 (by omega)
  clear ha hx hb hy h0 hl' hl
  go_enter Tryz.func107, Tryz.ntmps107
  go_wp2_with fail
  refine (check_any HA.out).mono ?_
  rintro e w' ⟨rfl, rfl⟩
  rw [HX.out]
  go_wp2_with fail
  refine (check_any HB.out).mono ?_
  rintro e w' ⟨rfl, rfl⟩
  rw [HY.out]
  go_wp2_with fail
  refine (divide_any HA.out HB.out HX.out HY.out H0.out).mono ?_
  intro e w2 hq
  obtain ⟨⟨vq, vr, rfl, h1, h2, h3, h4⟩, hk⟩ := hq
  have FIN2 := Lib.hid (FIN.out _ vq vr w2 rfl h1 h2 h3 h4 hk)
  clear h1 h2 h3 h4 hk
  go_wp2
  (try go_ret3)
  exact FIN2.out
theorem Divide_any {xs ys : List Nat} {va vb : Value} {w : World} (ha : Sl w va xs) (hb : Sl w vb ys) : Calls Tryz.prog 107 #[va, vb] w (DivR xs ys w) := by
  cases hx : wf xs with
  | false => exact (Divide_bad1 ha hx).mono fun e w' h => DivR.bad1 (.inl hx) h.1 (Kp.of_eq h.2)
  | true =>
    cases hy : wf ys with
    | false => exact (Divide_bad2 ha hb hx hy).mono fun e w' h => DivR.bad1 (.inr hy) h.1 (Kp.of_eq h.2)
    | true =>
      by_cases h0 : val ys = 0
      · exact (Divide_zero ha hb hx hy h0).mono fun e w' h => DivR.bad4 hx hy h0 h.1 (Kp.of_eq h.2)
      · exact (Divide_ok ha hb hx hy h0).mono fun e w' h => DivR.good hx hy h0 h

/-- A number, in new memory, and no error. -/
structure One (n : Nat) (w : World) (e : Ending) (w' : World) : Prop where
  ex : ∃ v, e = .returned (.tuple #[v, .int .i64 0]) ∧ Sl w' v (limbs n) ∧ New w.heap.size v
  kp : Kp w w'
theorem gcd_len {a b : Nat} (ha : (limbs a).length ≤ 128) (hb : (limbs b).length ≤ 128) : (limbs (Nat.gcd a b)).length ≤ 128 := by
  rcases Nat.eq_zero_or_pos a with h | h
  · subst h; rw [Nat.gcd_zero_left]; exact hb
  · exact Nat.le_trans (limbs_mono (Nat.le_of_dvd h (Nat.gcd_dvd_left a b))) ha
set_option maxRecDepth 100000 in
set_option maxHeartbeats 1000000 in
theorem Gcd_ok {xs ys : List Nat} {va vb : Value} {w : World} (ha : Sl w va xs) (hb : Sl w vb ys) (hx : wf xs = true) (hy : wf ys = true) :
    Calls Tryz.prog 41 #[va, vb] w (One (Nat.gcd (val xs) (val ys)) w) := by
  have FIN : Hid (∀ e v w', e = .returned (.tuple #[v, .int .i64 0]) → Sl w' v (limbs (Nat.gcd (val xs) (val ys))) → New w.heap.size v → Kp w w' → One (Nat.gcd (val xs) (val ys)) w e w') := fun e v w' h1 h2 h3 h4 => ⟨⟨v, h1, h2, h3⟩, h4⟩
  obtain ⟨Q, hQ⟩ : ∃ Q, Q = One (Nat.gcd (val xs) (val ys)) w := ⟨_, rfl⟩
  rw [← hQ] at FIN ⊢
  clear hQ
  have HA := Lib.hid ha; have HX := Lib.hid hx; have HB := Lib.hid hb; have HY := Lib.hid hy
  have HCX := Lib.hid (wf_canon ha.lt hx); have HCY := Lib.hid (wf_canon hb.lt hy)
  clear ha hx hb hy
  go_enter Tryz.func41, Tryz.ntmps41
  go_wp2_with fail
  refine (check_any HA.out).mono ?_
  rintro e w' ⟨rfl, rfl⟩
  rw [HX.out]
  go_wp2_with fail
  refine (check_any HB.out).mono ?_
  rintro e w' ⟨rfl, rfl⟩
  rw [HY.out]
  go_wp2_with fail
  refine (cloneN_any HA.out).mono ?_
  rintro e w1 ⟨v1, rfl, hs1, hn1, hk1⟩
  have HS1 := Lib.hid hs1; have HN1 := Lib.hid hn1; have HK1 := Lib.hid hk1; have HB1 := Lib.hid (HB.out.keep hk1); clear hs1 hn1 hk1
  go_wp2_with fail
  refine (cloneN_any HB1.out).mono ?_
  rintro e w2 ⟨v2, rfl, hs2, hn2, hk2⟩
  have HS2 := Lib.hid hs2; have HN2 := Lib.hid (hn2.mono HK1.out.size); have HK2 := Lib.hid (Kp.trans HK1.out hk2); have HS12 := Lib.hid (HS1.out.keep hk2); clear hs2 hn2 hk2
  go_wp2_with fail
  go_loopw [6, 7] (fun x y wr => ∃ a b : Nat, Sl wr x (limbs a) ∧ Sl wr y (limbs b) ∧ New w.heap.size x ∧ New w.heap.size y ∧ Kp w wr ∧ (limbs a).length ≤ 128 ∧ (limbs b).length ≤ 128 ∧ Nat.gcd a b = Nat.gcd (val xs) (val ys)) (fun _ y wr => digs wr y)
  case atStart => exact ⟨val xs, val ys, by rw [HCX.out.1]; exact HS12.out, by rw [HCY.out.1]; exact HS2.out, HN1.out, HN2.out, HK2.out, by rw [HCX.out.1]; exact HCX.out.2, by rw [HCY.out.1]; exact HCY.out.2, rfl⟩
  case round =>
    obtain ⟨a, b, hsa, hsb, hna, hnb, hk, hla, hlb, hg⟩ := hrel
    rename World => wr
    obtain ⟨ao, ca, rfl, -⟩ := hsa.ex
    obtain ⟨bo, cb, rfl, hcb, hcm, -⟩ := hsb.ex
    unfold maxLen at hcm
    have hlz := limbs_len_zero (n := b)
    by_cases h0 : b = 0
    · subst h0
      rw [Nat.gcd_zero_right] at hg
      subst hg
      have hl := hlz.2 rfl
      have FIN2 := Lib.hid (FIN.out _ _ wr rfl hsa hna hk)
      rw [hl] at hcb ⊢
      obtain ⟨la, hla'⟩ : ∃ la, la = (limbs (Nat.gcd (val xs) (val ys))).length := ⟨_, rfl⟩
      rw [← hla'] at FIN2 ⊢
      clear hsa hsb hna hnb hk hla hlb hl hlz hla'
      go_wp2
      (try go_ret2)
      exact FIN2.out
    · have hlp : (limbs b).length ≠ 0 := fun h => h0 (hlz.1 h)
      have hwa : wf (limbs a) = true := wf_limbs hla
      have hwb : wf (limbs b) = true := wf_limbs hlb
      have hdb : digs wr (.slice bo (limbs b).length cb) = b := by rw [digs_eq hsb, val_limbs]
      have HDB := Lib.hid hdb; have HSA := Lib.hid hsa; have HSB := Lib.hid hsb; have HNB := Lib.hid hnb; have HK := Lib.hid hk; have HLB := Lib.hid hlb; have HG := Lib.hid hg; have HWA := Lib.hid hwa; have HWB := Lib.hid hwb; have H0 := Lib.hid h0
      obtain ⟨la, hla'⟩ : ∃ la, la = (limbs a).length := ⟨_, rfl⟩
      obtain ⟨lb, hlb'⟩ : ∃ lb, lb = (limbs b).length := ⟨_, rfl⟩
      rw [← hla'] at HSA ⊢
      rw [← hlb'] at HSB HDB HNB hlp hcb ⊢
      clear hsa hsb hna hnb hk hla hlb hlz hla' hlb' hg hwa hwb hdb h0
      go_wp2_with fail
      refine (divide_any HSA.out HSB.out HWA.out HWB.out (by rw [val_limbs]; exact Nat.pos_of_ne_zero H0.out)).mono ?_
      intro e w3 hq
      obtain ⟨⟨vq, vr, rfl, h1, h2, h3, h4⟩, hk3⟩ := hq
      rw [val_limbs, val_limbs] at h2
      have hlt : a % b < b := Nat.mod_lt _ (Nat.pos_of_ne_zero H0.out)
      have hdg : digs w3 vr = a % b := by rw [digs_eq h2, val_limbs]
      have ST : Hid (∃ a' b' : Nat, Sl w3 (.slice bo lb cb) (limbs a') ∧ Sl w3 vr (limbs b') ∧ New w.heap.size (.slice bo lb cb) ∧ New w.heap.size vr ∧ Kp w w3 ∧ (limbs a').length ≤ 128 ∧ (limbs b').length ≤ 128 ∧ Nat.gcd a' b' = Nat.gcd (val xs) (val ys)) :=
        ⟨b, a % b, HSB.out.keep hk3, h2, HNB.out, h4.mono HK.out.size, Kp.trans HK.out hk3, HLB.out, Nat.le_trans (limbs_mono (Nat.le_of_lt hlt)) HLB.out, by rw [← HG.out, Nat.gcd_comm b, ← Nat.gcd_rec, Nat.gcd_comm]⟩
      have HM : Hid (digs w3 vr < digs wr (.slice bo lb cb)) := by show _ < _; rw [hdg, HDB.out]; exact hlt
      clear h1 h2 h3 h4 hk3 hlt hdg
      go_wp2
      go_roundw
      case rel => exact ST.out
      case measure => exact HM.out
end Go.Proofs.YtdoponlhiidimaaGreatDoor
