/- Contracts of Add and Sub of the program. Conditions: the slices hold the digits that are named. -/
import Derived.Test.YtgpochhndjadhaaGreatDoorTrim
import Derived.Test.YtgpochhndjadhaaGreatDoorAdd
namespace Go.Proofs.YtgpochhndjadhaaGreatDoor
open Go.RowKit LimbN

/-- A row as a slice. -/
theorem Row.sl {w : World} {g : Nat} {t : TypeId} {zs : List Nat} (h : Row w g t zs) (hl : Lt zs) (hs : zs.length ≤ 35184372088832) : Sl w (.slice (some ⟨g, 0, none⟩) zs.length zs.length) zs :=
  ⟨⟨_, _, rfl, Nat.le_refl _, by unfold maxLen; omega, by simpa using h.at 0, fun h => nomatch h⟩, hl, hs⟩

/-- A number and no error, or the error that it is too large. -/
def Made (n : Nat) (w : World) (e : Ending) (w' : World) : Prop :=
  (∃ v', e = .returned (if (limbs n).length ≤ 128 then .tuple #[v', .int .i64 0] else .tuple #[.slice none 0 0, .int .i64 2]) ∧ Sl w' v' (limbs n) ∧ New w.heap.size v') ∧ Kp w w'
def Bad1 : Ending := .returned (.tuple #[.slice none 0 0, .int .i64 1])

set_option maxHeartbeats 400000 in
theorem Add_bad1 {xs : List Nat} {va vb : Value} {w : World} (ha : Sl w va xs) (hx : wf xs = false) :
    Calls Tryz.prog 88 #[va, vb] w fun e w' => e = Bad1 ∧ w = w' := by
  have HA := Lib.hid ha; have HX := Lib.hid hx; clear ha hx
  go_enter Tryz.func88, Tryz.ntmps88
  go_wp2_with fail
  refine (check_any HA.out).mono ?_
  rintro e w' ⟨rfl, rfl⟩
  rw [HX.out]
  go_wp2
  go_ret2
  exact ⟨rfl, rfl⟩
set_option maxHeartbeats 400000 in
theorem Add_bad2 {xs ys : List Nat} {va vb : Value} {w : World} (ha : Sl w va xs) (hb : Sl w vb ys) (hx : wf xs = true) (hy : wf ys = false) :
    Calls Tryz.prog 88 #[va, vb] w fun e w' => e = Bad1 ∧ w = w' := by
  have HA := Lib.hid ha; have HX := Lib.hid hx; have HB := Lib.hid hb; have HY := Lib.hid hy; clear ha hx hb hy
  go_enter Tryz.func88, Tryz.ntmps88
  go_wp2_with fail
  refine (check_any HA.out).mono ?_
  rintro e w' ⟨rfl, rfl⟩
  rw [HX.out]
  go_wp2_with fail
  refine (check_any HB.out).mono ?_
  rintro e w' ⟨rfl, rfl⟩
  rw [HY.out]
  go_wp2
  go_ret2
  exact ⟨rfl, rfl⟩
set_option maxHeartbeats 400000 in
theorem Sub_bad1 {xs : List Nat} {va vb : Value} {w : World} (ha : Sl w va xs) (hx : wf xs = false) :
    Calls Tryz.prog 90 #[va, vb] w fun e w' => e = Bad1 ∧ w = w' := by
  have HA := Lib.hid ha; have HX := Lib.hid hx; clear ha hx
  go_enter Tryz.func90, Tryz.ntmps90
  go_wp2_with fail
  refine (check_any HA.out).mono ?_
  rintro e w' ⟨rfl, rfl⟩
  rw [HX.out]
  go_wp2
  go_ret2
  exact ⟨rfl, rfl⟩
set_option maxHeartbeats 400000 in
theorem Sub_bad2 {xs ys : List Nat} {va vb : Value} {w : World} (ha : Sl w va xs) (hb : Sl w vb ys) (hx : wf xs = true) (hy : wf ys = false) :
    Calls Tryz.prog 90 #[va, vb] w fun e w' => e = Bad1 ∧ w = w' := by
  have HA := Lib.hid ha; have HX := Lib.hid hx; have HB := Lib.hid hb; have HY := Lib.hid hy; clear ha hx hb hy
  go_enter Tryz.func90, Tryz.ntmps90
  go_wp2_with fail
  refine (check_any HA.out).mono ?_
  rintro e w' ⟨rfl, rfl⟩
  rw [HX.out]
  go_wp2_with fail
  refine (check_any HB.out).mono ?_
  rintro e w' ⟨rfl, rfl⟩
  rw [HY.out]
  go_wp2
  go_ret2
  exact ⟨rfl, rfl⟩
set_option maxHeartbeats 400000 in
theorem Mul_bad1 {xs : List Nat} {va vb : Value} {w : World} (ha : Sl w va xs) (hx : wf xs = false) :
    Calls Tryz.prog 92 #[va, vb] w fun e w' => e = Bad1 ∧ w = w' := by
  have HA := Lib.hid ha; have HX := Lib.hid hx; clear ha hx
  go_enter Tryz.func92, Tryz.ntmps92
  go_wp2_with fail
  refine (check_any HA.out).mono ?_
  rintro e w' ⟨rfl, rfl⟩
  rw [HX.out]
  go_wp2
  go_ret2
  exact ⟨rfl, rfl⟩
set_option maxHeartbeats 400000 in
theorem Mul_bad2 {xs ys : List Nat} {va vb : Value} {w : World} (ha : Sl w va xs) (hb : Sl w vb ys) (hx : wf xs = true) (hy : wf ys = false) :
    Calls Tryz.prog 92 #[va, vb] w fun e w' => e = Bad1 ∧ w = w' := by
  have HA := Lib.hid ha; have HX := Lib.hid hx; have HB := Lib.hid hb; have HY := Lib.hid hy; clear ha hx hb hy
  go_enter Tryz.func92, Tryz.ntmps92
  go_wp2_with fail
  refine (check_any HA.out).mono ?_
  rintro e w' ⟨rfl, rfl⟩
  rw [HX.out]
  go_wp2_with fail
  refine (check_any HB.out).mono ?_
  rintro e w' ⟨rfl, rfl⟩
  rw [HY.out]
  go_wp2
  go_ret2
  exact ⟨rfl, rfl⟩
set_option maxHeartbeats 1000000 in
theorem Add_ok {xs ys : List Nat} {va vb : Value} {w : World} (ha : Sl w va xs) (hb : Sl w vb ys) (hx : wf xs = true) (hy : wf ys = true) :
    Calls Tryz.prog 88 #[va, vb] w (Made (val xs + val ys) w) := by
  have hxl := (wf_canon ha.lt hx).2
  have hyl := (wf_canon hb.lt hy).2
  have HA := Lib.hid ha; have HB := Lib.hid hb; have HX := Lib.hid hx; have HY := Lib.hid hy
  obtain ⟨ao, ca, rfl, -⟩ := ha.ex
  obtain ⟨bo, cb, rfl, -⟩ := hb.ex
  clear ha hb hx hy
  obtain ⟨la, hla⟩ : ∃ la, la = xs.length := ⟨_, rfl⟩
  obtain ⟨lb, hlb⟩ : ∃ lb, lb = ys.length := ⟨_, rfl⟩
  rw [← hla] at hxl; rw [← hlb] at hyl
  rw [← hla, ← hlb]
  rw [← hla] at HA; rw [← hlb] at HB
  have HLA := Lib.hid hla; have HLB := Lib.hid hlb
  clear hla hlb
  obtain ⟨m, hm1, hm2, hm3, hmax⟩ : ∃ m : Nat, la ≤ m ∧ lb ≤ m ∧ m ≤ 128 ∧ max (la : Int) (lb : Int) = (m : Int) := ⟨max la lb, by omega, by omega, by omega, by omega⟩
  have HM := Lib.hid hmax; clear hmax
  go_enter Tryz.func88, Tryz.ntmps88
  go_wp2_with fail
  refine (check_any HA.out).mono ?_
  rintro e w' ⟨rfl, rfl⟩
  rw [HX.out]
  go_wp2_with fail
  refine (check_any HB.out).mono ?_
  rintro e w' ⟨rfl, rfl⟩
  rw [HY.out]
  go_wp2_with (at_make; refine wpList_mk rfl (.tmp 20) (.tmp 20) 22 rfl Tryz.underlying22 _ (m + 1) rfl rfl (by have := HM.out; omega) (by omega) ?_)
  intro w1 hrow hk1
  have HROW := Lib.hid hrow; have HK1 := Lib.hid hk1
  have hsz : w.heap.size < w1.heap.size := hrow.lt
  clear hrow hk1
  have HA1 := Lib.hid (HA.out.keep HK1.out)
  go_wp2_with (with_reducible refine wpList_cp (o := ⟨some 24, _, _, _, _, _⟩) rfl (.tmp 22) (.tmp 23) 22 23 rfl Tryz.underlying22 w.heap.size (m + 1) (m + 1) 59 _ xs (.slice ao la ca) rfl rfl HA1.out (by have := HLA.out; omega) (by simp) HROW.out ?_)
  intro w2 hrow2 ho2
  have HROW2 := Lib.hid hrow2; have HO2 := Lib.hid ho2
  have HK2 := Lib.hid (Only.kp HK1.out HO2.out (Nat.le_refl _))
  clear hrow2 ho2
  have HB2 := Lib.hid (HB.out.keep HK2.out)
  have HOFF := Lib.hid (HB.out.off (Nat.le_refl _))
  have hlx : (xs ++ List.replicate (m + 1 - xs.length) 0).length = m + 1 := by have := HLA.out; simp; omega
  have HLX := Lib.hid hlx
  clear hlx
  go_wp2_with fail
  refine (addTo_any w.heap.size 0 (m + 1) (m + 1) 59 _ ys _ w2 HROW2.out (HA.out.lt.append (Lt.replicate _)) (by have := HLX.out; omega) (by unfold maxLen; omega) HB2.out HOFF.out (by have := HLB.out; omega)).mono ?_
  rintro e w3 ⟨zr, c, rfl, hadd, hc, hrow3, ho3⟩
  have hv := add_whole hadd HLX.out (by rw [val_pad]; exact sum_lt HA.out.lt HB.out.lt m (by have := HLA.out; omega) (by have := HLB.out; omega))
  rw [val_pad] at hv
  have hl3 : zr.length = m + 1 := hadd.len.trans HLX.out
  have HS3 := Lib.hid (hrow3.sl hadd.lt (by omega))
  rw [hl3] at HS3
  have HK3 := Lib.hid (Only.kp HK2.out ho3 (Nat.le_refl _))
  have HV := Lib.hid hv
  clear hadd hrow3 ho3 hv hl3
  go_wp2_with fail
  refine (limited_any HS3.out).mono ?_
  rintro e w4 ⟨⟨v', rfl, hs', hn'⟩, rfl⟩
  rw [HV.out] at hs' ⊢
  have HS' := Lib.hid hs'; have HN := Lib.hid (hn' w.heap.size (by intro a l c e; simp only [Value.slice.injEq, Option.some.injEq] at e; rw [← e.1]; exact Nat.le_refl _))
  clear hs' hn'
  have fin : Made (val xs + val ys) w (.returned (if (limbs (val xs + val ys)).length ≤ 128 then .tuple #[v', .int .i64 0] else .tuple #[.slice none 0 0, .int .i64 2])) w3 := ⟨⟨v', rfl, HS'.out, HN.out⟩, HK3.out⟩
  have FIN := Lib.hid fin; clear fin
  by_cases hlen : (limbs (val xs + val ys)).length ≤ 128
  · have FIN2 := FIN.out
    rw [if_pos hlen] at FIN2 ⊢
    have FIN := Lib.hid FIN2; clear FIN2
    go_wp2
    go_ret2
    exact FIN.out
  · have FIN2 := FIN.out
    rw [if_neg hlen] at FIN2 ⊢
    have FIN := Lib.hid FIN2; clear FIN2
    go_wp2
    go_ret2
    exact FIN.out

theorem cmp_wf {xs ys : List Nat} (hx : Lt xs) (hy : Lt ys) (hwx : wf xs = true) (hwy : wf ys = true) : cmpL xs ys = if val xs < val ys then -1 else if val ys < val xs then 1 else 0 := by
  have := cmp_val (val xs) (val ys)
  rwa [(wf_canon hx hwx).1, (wf_canon hy hwy).1] at this
def Bad5 : Ending := .returned (.tuple #[.slice none 0 0, .int .i64 5])
set_option maxHeartbeats 400000 in
theorem Sub_neg {xs ys : List Nat} {va vb : Value} {w : World} (ha : Sl w va xs) (hb : Sl w vb ys) (hx : wf xs = true) (hy : wf ys = true) (hlt : val xs < val ys) :
    Calls Tryz.prog 90 #[va, vb] w fun e w' => e = Bad5 ∧ Drawn w w' := by
  have HA := Lib.hid ha; have HX := Lib.hid hx; have HB := Lib.hid hb; have HY := Lib.hid hy
  have HC := Lib.hid (cmp_wf ha.lt hb.lt hx hy); have HL := Lib.hid hlt
  clear ha hx hb hy hlt
  go_enter Tryz.func90, Tryz.ntmps90
  go_wp2_with fail
  refine (check_any HA.out).mono ?_
  rintro e w' ⟨rfl, rfl⟩
  rw [HX.out]
  go_wp2_with fail
  refine (check_any HB.out).mono ?_
  rintro e w' ⟨rfl, rfl⟩
  rw [HY.out]
  go_wp2_with fail
  refine (compare_any HA.out HB.out).mono ?_
  rintro e w' ⟨rfl, hd⟩
  have HD := Lib.hid hd; clear hd
  rw [HC.out, if_pos HL.out]
  go_wp2
  go_ret2
  exact ⟨rfl, HD.out⟩
set_option maxHeartbeats 1000000 in
theorem Sub_ok {xs ys : List Nat} {va vb : Value} {w : World} (ha : Sl w va xs) (hb : Sl w vb ys) (hx : wf xs = true) (hy : wf ys = true) (hle : val ys ≤ val xs) :
    Calls Tryz.prog 90 #[va, vb] w (Made (val xs - val ys) w) := by
  have hxl := (wf_canon ha.lt hx).2
  have hyl := (wf_canon hb.lt hy).2
  have hll : ys.length ≤ xs.length := by
    have h1 := (wf_canon hb.lt hy).1
    have h2 := (wf_canon ha.lt hx).1
    rw [← h1, limbs_len_le]
    have h3 : (limbs (val xs)).length ≤ xs.length := by rw [h2]; exact Nat.le_refl _
    rw [limbs_len_le] at h3
    omega
  have hcm : ¬ cmpL xs ys < 0 := by
    rw [cmp_wf ha.lt hb.lt hx hy, if_neg (by omega)]
    split <;> omega
  have HA := Lib.hid ha; have HB := Lib.hid hb; have HX := Lib.hid hx; have HY := Lib.hid hy; have HLE := Lib.hid hle
  obtain ⟨ao, ca, rfl, -⟩ := ha.ex
  obtain ⟨bo, cb, rfl, -⟩ := hb.ex
  clear ha hb hx hy hle
  obtain ⟨la, hla⟩ : ∃ la, la = xs.length := ⟨_, rfl⟩
  obtain ⟨lb, hlb⟩ : ∃ lb, lb = ys.length := ⟨_, rfl⟩
  rw [← hla] at hxl hll; rw [← hlb] at hyl hll
  rw [← hla, ← hlb]
  rw [← hla] at HA; rw [← hlb] at HB
  have HLA := Lib.hid hla; have HLB := Lib.hid hlb
  clear hla hlb
  obtain ⟨q, hq⟩ : ∃ q, q = cmpL xs ys := ⟨_, rfl⟩
  rw [← hq] at hcm
  have HQ := Lib.hid hq; clear hq
  go_enter Tryz.func90, Tryz.ntmps90
  go_wp2_with fail
  refine (check_any HA.out).mono ?_
  rintro e w' ⟨rfl, rfl⟩
  rw [HX.out]
  go_wp2_with fail
  refine (check_any HB.out).mono ?_
  rintro e w' ⟨rfl, rfl⟩
  rw [HY.out]
  go_wp2_with fail
  refine (compare_any HA.out HB.out).mono ?_
  rintro e w0 ⟨rfl, hd⟩
  have HK0 := Lib.hid hd.kp
  obtain ⟨n0, hn0⟩ := hd
  have HZ0 : Hid (w0.heap.size = w.heap.size) := by rw [hn0]; rfl
  clear hn0
  have HA0 := Lib.hid (HA.out.keep HK0.out)
  have HB0 := Lib.hid (HB.out.keep HK0.out)
  rw [← HQ.out]
  go_wp2_with (at_make; refine wpList_mk rfl (.tmp 20) (.tmp 20) 22 rfl Tryz.underlying22 _ la rfl rfl rfl (by omega) ?_)
  intro w1 hrow hk1
  have HROW := Lib.hid hrow; have HK1 := Lib.hid hk1
  clear hrow hk1
  have HA1 := Lib.hid (HA0.out.keep HK1.out)
  go_wp2_with (with_reducible refine wpList_cp (o := ⟨some 24, _, _, _, _, _⟩) rfl (.tmp 22) (.tmp 23) 22 23 rfl Tryz.underlying22 w0.heap.size la la 59 _ xs (.slice ao la ca) rfl rfl HA1.out (by have := HLA.out; omega) (by simp) HROW.out ?_)
  intro w2 hrow2 ho2
  have HROW2 := Lib.hid hrow2; have HO2 := Lib.hid ho2
  have HK2 := Lib.hid (Only.kp HK1.out HO2.out (Nat.le_refl _))
  clear hrow2 ho2
  have HB2 := Lib.hid (HB0.out.keep HK2.out)
  have HOFF := Lib.hid (HB0.out.off (Nat.le_refl _))
  have hlx : (xs ++ List.replicate (la - xs.length) 0).length = la := by have := HLA.out; simp; omega
  have HLX := Lib.hid hlx
  clear hlx
  go_wp2_with fail
  refine (subtractFrom_any w0.heap.size 0 la la 1 59 _ ys _ w2 HROW2.out (HA.out.lt.append (Lt.replicate _)) (by have := HLX.out; omega) (by unfold maxLen; omega) HB2.out HOFF.out (by have := HLB.out; omega) (by omega)).mono ?_
  rintro e w3 ⟨zr, c, rfl, hsub, hrow3, ho3⟩
  have hv := sub_whole hsub HLX.out (by rw [val_pad, Nat.one_mul]; exact HLE.out)
  rw [val_pad, Nat.one_mul] at hv
  have hl3 : zr.length = la := hsub.len.trans HLX.out
  have HS3 := Lib.hid (hrow3.sl hsub.lt (by omega))
  rw [hl3] at HS3
  have HK3 := Lib.hid (Kp.trans HK0.out (Only.kp HK2.out ho3 (Nat.le_refl _)))
  have HV := Lib.hid hv
  clear hsub hrow3 ho3 hv hl3
  go_wp2_with fail
  refine (limited_any HS3.out).mono ?_
  rintro e w4 ⟨⟨v', rfl, hs', hn'⟩, rfl⟩
  rw [HV.out] at hs' ⊢
  have HS' := Lib.hid hs'; have HN := Lib.hid (hn' w.heap.size (by intro a l c e; simp only [Value.slice.injEq, Option.some.injEq] at e; rw [← e.1]; exact Nat.le_of_eq HZ0.out.symm))
  clear hs' hn'
  have fin : Made (val xs - val ys) w (.returned (if (limbs (val xs - val ys)).length ≤ 128 then .tuple #[v', .int .i64 0] else .tuple #[.slice none 0 0, .int .i64 2])) w3 := ⟨⟨v', rfl, HS'.out, HN.out⟩, HK3.out⟩
  have FIN := Lib.hid fin; clear fin
  by_cases hlen : (limbs (val xs - val ys)).length ≤ 128
  · have FIN2 := FIN.out
    rw [if_pos hlen] at FIN2 ⊢
    have FIN := Lib.hid FIN2; clear FIN2
    go_wp2
    go_ret2
    exact FIN.out
  · have FIN2 := FIN.out
    rw [if_neg hlen] at FIN2 ⊢
    have FIN := Lib.hid FIN2; clear FIN2
    go_wp2
    go_ret2
    exact FIN.out
end Go.Proofs.YtgpochhndjadhaaGreatDoor
