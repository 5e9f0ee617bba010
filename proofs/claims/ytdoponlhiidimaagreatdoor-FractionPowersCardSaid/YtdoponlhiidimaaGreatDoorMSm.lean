/- Contracts of Add and Sub of the program. Conditions: the slices hold the digits that are named. -/
import Derived.Test.YtdoponlhiidimaaGreatDoorMAd
import Derived.Lib.SliceRun
namespace Go.Proofs.YtdoponlhiidimaaGreatDoor
open Go.RowKit LimbN

/-- A row as a slice. -/
theorem Row.sl {w : World} {g : Nat} {t : TypeId} {zs : List Nat} (h : Row w g t zs) (hl : Lt zs) (hs : zs.length ≤ 35184372088832) : Sl w (.slice (some ⟨g, 0, none⟩) zs.length zs.length) zs :=
  ⟨⟨_, _, rfl, Nat.le_refl _, by unfold maxLen; omega, by simpa using h.at 0, fun h => nomatch h⟩, hl, hs⟩

/-- A number and no error, or the error that it is too large. -/
def Made (n : Nat) (w : World) (e : Ending) (w' : World) : Prop :=
  (∃ v', e = .returned (if (limbs n).length ≤ 128 then .tuple #[v', .int .i64 0] else .tuple #[.slice none 0 0, .int .i64 2]) ∧ Sl w' v' (limbs n) ∧ New w.heap.size v') ∧ Kp w w'
def Bad1 : Ending := .returned (.tuple #[.slice none 0 0, .int .i64 1])

set_option maxHeartbeats 400000 in
theorem Add_bad1 {xs : List Nat} {va vb : Value} {w : World} (ha : Sl w va xs) (hx : wf xs = false) :
    Calls Tryz.prog 52 #[va, vb] w fun e w' => e = Bad1 ∧ w = w' := by
  have HA := Lib.hid ha; have HX := Lib.hid hx; clear ha hx
  go_enter Tryz.func52, Tryz.ntmps52
  go_wp2_with fail
  refine (check_any HA.out).mono ?_
  rintro e w' ⟨rfl, rfl⟩
  rw [HX.out]
  go_wp2
  go_ret2
  exact ⟨rfl, rfl⟩
set_option maxHeartbeats 400000 in
theorem Add_bad2 {xs ys : List Nat} {va vb : Value} {w : World} (ha : Sl w va xs) (hb : Sl w vb ys) (hx : wf xs = true) (hy : wf ys = false) :
    Calls Tryz.prog 52 #[va, vb] w fun e w' => e = Bad1 ∧ w = w' := by
  have HA := Lib.hid ha; have HX := Lib.hid hx; have HB := Lib.hid hb; have HY := Lib.hid hy; clear ha hx hb hy
  go_enter Tryz.func52, Tryz.ntmps52
  go_wp2_with fail
  refine (check_any HA.out).mono ?_
  rintro e w' ⟨rfl, rfl⟩
  rw [HX.out]
  go_wp2_with fail
  refine (check_any HB.out).mono ?_
  rintro e w' ⟨rfl, rfl⟩
  rw [HY.out]
  go_wp2
  go_ret2
  exact ⟨rfl, rfl⟩
set_option maxHeartbeats 400000 in
theorem Sub_bad1 {xs : List Nat} {va vb : Value} {w : World} (ha : Sl w va xs) (hx : wf xs = false) :
    Calls Tryz.prog 92 #[va, vb] w fun e w' => e = Bad1 ∧ w = w' := by
  have HA := Lib.hid ha; have HX := Lib.hid hx; clear ha hx
  go_enter Tryz.func92, Tryz.ntmps92
  go_wp2_with fail
  refine (check_any HA.out).mono ?_
  rintro e w' ⟨rfl, rfl⟩
  rw [HX.out]
  go_wp2
  go_ret2
  exact ⟨rfl, rfl⟩
set_option maxHeartbeats 400000 in
theorem Sub_bad2 {xs ys : List Nat} {va vb : Value} {w : World} (ha : Sl w va xs) (hb : Sl w vb ys) (hx : wf xs = true) (hy : wf ys = false) :
    Calls Tryz.prog 92 #[va, vb] w fun e w' => e = Bad1 ∧ w = w' := by
  have HA := Lib.hid ha; have HX := Lib.hid hx; have HB := Lib.hid hb; have HY := Lib.hid hy; clear ha hx hb hy
  go_enter Tryz.func92, Tryz.ntmps92
  go_wp2_with fail
  refine (check_any HA.out).mono ?_
  rintro e w' ⟨rfl, rfl⟩
  rw [HX.out]
  go_wp2_with fail
  refine (check_any HB.out).mono ?_
  rintro e w' ⟨rfl, rfl⟩
  rw [HY.out]
  go_wp2
  go_ret2
  exact ⟨rfl, rfl⟩
set_option maxHeartbeats 400000 in
theorem Mul_bad1 {xs : List Nat} {va vb : Value} {w : World} (ha : Sl w va xs) (hx : wf xs = false) :
    Calls Tryz.prog 72 #[va, vb] w fun e w' => e = Bad1 ∧ w = w' := by
  have HA := Lib.hid ha; have HX := Lib.hid hx; clear ha hx
  go_enter Tryz.func72, Tryz.ntmps72
  go_wp2_with fail
  refine (check_any HA.out).mono ?_
  rintro e w' ⟨rfl, rfl⟩
  rw [HX.out]
  go_wp2
  go_ret2
  exact ⟨rfl, rfl⟩
set_option maxHeartbeats 400000 in
theorem Mul_bad2 {xs ys : List Nat} {va vb : Value} {w : World} (ha : Sl w va xs) (hb : Sl w vb ys) (hx : wf xs = true) (hy : wf ys = false) :
    Calls Tryz.prog 72 #[va, vb] w fun e w' => e = Bad1 ∧ w = w' := by
  have HA := Lib.hid ha; have HX := Lib.hid hx; have HB := Lib.hid hb; have HY := Lib.hid hy; clear ha hx hb hy
  go_enter Tryz.func72, Tryz.ntmps72
  go_wp2_with fail
  refine (check_any HA.out).mono ?_
  rintro e w' ⟨rfl, rfl⟩
  rw [HX.out]
  go_wp2_with fail
  refine (check_any HB.out).mono ?_
  rintro e w' ⟨rfl, rfl⟩
  rw [HY.out]
  go_wp2
  go_ret2
  exact ⟨rfl, rfl⟩
set_option maxHeartbeats 1000000 in
theorem Add_ok {xs ys : List Nat} {va vb : Value} {w : World} (ha : Sl w va xs) (hb : Sl w vb ys) (hx : wf xs = true) (hy : wf ys = true) :
    Calls Tryz.prog 52 #[va, vb] w (Made (val xs + val ys) w) := by
  have hxl := (wf_canon ha.lt hx).2
  have hyl := (wf_canon hb.lt hy).2
  have HA := Lib.hid ha; have HB := Lib.hid hb; have HX := Lib.hid hx; have HY := Lib.hid hy
  obtain ⟨ao, ca, rfl, -⟩ := ha.ex
  obtain ⟨bo, cb, rfl, -⟩ := hb.ex
  clear ha hb hx hy
  obtain ⟨la, hla⟩ : ∃ la, la = xs.length := ⟨_, rfl⟩
  obtain ⟨lb, hlb⟩ : ∃ lb, lb = ys.length := ⟨_, rfl⟩
  rw [← hla] at hxl; rw [← hlb] at hyl
  rw [← hla, ← hlb]
  rw [← hla] at HA; rw [← hlb] at HB
  have HLA := Lib.hid hla; have HLB := Lib.hid hlb
  clear hla hlb
  obtain ⟨m, hm1, hm2, hm3, hmax⟩ : ∃ m : Nat, la ≤ m ∧ lb ≤ m ∧ m ≤ 128 ∧ max (la : Int) (lb : Int) = (m : Int) := ⟨max la lb, by omega, by omega, by omega, by omega⟩
  have HM := Lib.hid hmax; clear hmax
  go_enter Tryz.func52, Tryz.ntmps52
  go_wp2_with fail
  refine (check_any HA.out).mono ?_
  rintro e w' ⟨rfl, rfl⟩
  rw [HX.out]
  go_wp2_with fail
  refine (check_any HB.out).mono ?_
  rintro e w' ⟨rfl, rfl⟩
  rw [HY.out]
  go_wp2_with (at_make; refine wpList_mk rfl (.tmp 20) (.tmp 20) 22 rfl Tryz.underlying22 _ (m + 1) rfl rfl (by have := HM.out; omega) (by omega) ?_)
  intro w1 hrow hk1
  have HROW := Lib.hid hrow; have HK1 := Lib.hid hk1
  have hsz : w.heap.size < w1.heap.size := hrow.lt
  clear hrow hk1
  have HA1 := Lib.hid (HA.out.keep HK1.out)
  go_wp2_with (with_reducible refine wpList_cp (o := ⟨some 24, _, _, _, _, _⟩) rfl (.tmp 22) (.tmp 23) 22 24 rfl Tryz.underlying22 w.heap.size (m + 1) (m + 1) 43 _ xs (.slice ao la ca) rfl rfl HA1.out (by have := HLA.out; omega) (by simp) HROW.out ?_)
  intro w2 hrow2 ho2
  have HROW2 := Lib.hid hrow2; have HO2 := Lib.hid ho2
  have HK2 := Lib.hid (Only.kp HK1.out HO2.out (Nat.le_refl _))
  clear hrow2 ho2
  have HB2 := Lib.hid (HB.out.keep HK2.out)
  have HOFF := Lib.hid (HB.out.off (Nat.le_refl _))
  have hlx : (xs ++ List.replicate (m + 1 - xs.length) 0).length = m + 1 := by have := HLA.out; simp; omega
  have HLX := Lib.hid hlx
  clear hlx
  go_wp2_with fail
  refine (addTo_any w.heap.size 0 (m + 1) (m + 1) 43 _ ys _ w2 HROW2.out (HA.out.lt.append (Lt.replicate _)) (by have := HLX.out; omega) (by unfold maxLen; omega) HB2.out HOFF.out (by have := HLB.out; omega)).mono ?_
  rintro e w3 ⟨zr, c, rfl, hadd, hc, hrow3, ho3⟩
  have hv := add_whole hadd HLX.out (by rw [val_pad]; exact sum_lt HA.out.lt HB.out.lt m (by have := HLA.out; omega) (by have := HLB.out; omega))
  rw [val_pad] at hv
  have hl3 : zr.length = m + 1 := hadd.len.trans HLX.out
  have HS3 := Lib.hid (hrow3.sl hadd.lt (by omega))
  rw [hl3] at HS3
  have HK3 := Lib.hid (Only.kp HK2.out ho3 (Nat.le_refl _))
  have HV := Lib.hid hv
  clear hadd hrow3 ho3 hv hl3
  go_wp2_with fail
  refine (limited_any HS3.out).mono ?_
  rintro e w4 ⟨⟨v', rfl, hs', hn'⟩, rfl⟩
  rw [HV.out] at hs' ⊢
  have HS' := Lib.hid hs'; have HN := Lib.hid (hn' w.heap.size (by intro a l c e; simp only [Value.slice.injEq, Option.some.injEq] at e; rw [← e.1]; exact Nat.le_refl _))
  clear hs' hn'
  have fin : Made (val xs + val ys) w (.returned (if (limbs (val xs + val ys)).length ≤ 128 then .tuple #[v', .int .i64 0] else .tuple #[.slice none 0 0, .int .i64 2])) w3 := ⟨⟨v', rfl, HS'.out, HN.out⟩, HK3.out⟩
  have FIN := Lib.hid fin; clear fin
  by_cases hlen : (limbs (val xs + val ys)).length ≤ 128
  · have FIN2 := FIN.out
    rw [if_pos hlen] at FIN2 ⊢
    have FIN := Lib.hid FIN2; clear FIN2
    go_wp2
    go_ret2
    exact FIN.out
  · have FIN2 := FIN.out
    rw [if_neg hlen] at FIN2 ⊢
    have FIN := Lib.hid FIN2; clear FIN2
    go_wp2
    go_ret2
    exact FIN.out

theorem cmp_wf {xs ys : List Nat} (hx : Lt xs) (hy : Lt ys) (hwx : wf xs = true) (hwy : wf ys = true) : cmpL xs ys = if val xs < val ys then -1 else if val ys < val xs then 1 else 0 := by
  have := cmp_val (val xs) (val ys)
  rwa [(wf_canon hx hwx).1, (wf_canon hy hwy).1] at this
def Bad5 : Ending := .returned (.tuple #[.slice none 0 0, .int .i64 5])
set_option maxHeartbeats 400000 in
theorem Sub_neg {xs ys : List Nat} {va vb : Value} {w : World} (ha : Sl w va xs) (hb : Sl w vb ys) (hx : wf xs = true) (hy : wf ys = true) (hlt : val xs < val ys) :
    Calls Tryz.prog 92 #[va, vb] w fun e w' => e = Bad5 ∧ Drawn w w' := by
  have HA := Lib.hid ha; have HX := Lib.hid hx; have HB := Lib.hid hb; have HY := Lib.hid hy
  have HC := Lib.hid (cmp_wf ha.lt hb.lt hx hy); have HL := Lib.hid hlt
  clear ha hx hb hy hlt
  go_enter Tryz.func92, Tryz.ntmps92
  go_wp2_with fail
  refine (check_any HA.out).mono ?_
  rintro e w' ⟨rfl, rfl⟩
  rw [HX.out]
  go_wp2_with fail
  refine (check_any HB.out).mono ?_
  rintro e w' ⟨rfl, rfl⟩
  rw [HY.out]
  go_wp2_with fail
  refine (compare_any HA.out HB.out).mono ?_
  rintro e w' ⟨rfl, hd⟩
  have HD := Lib.hid hd; clear hd
  rw [HC.out, if_pos HL.out]
  go_wp2
  go_ret2
  exact ⟨rfl, HD.out⟩
set_option maxHeartbeats 1000000 in
theorem Sub_ok {xs ys : List Nat} {va vb : Value} {w : World} (ha : Sl w va xs) (hb : Sl w vb ys) (hx : wf xs = true) (hy : wf ys = true) (hle : val ys ≤ val xs) :
    Calls Tryz.prog 92 #[va, vb] w (Made (val xs - val ys) w) := by
  have hxl := (wf_canon ha.lt hx).2
  have hyl := (wf_canon hb.lt hy).2
  have hll : ys.length ≤ xs.length := by
    have h1 := (wf_canon hb.lt hy).1
    have h2 := (wf_canon ha.lt hx).1
    rw [← h1, limbs_len_le]
    have h3 : (limbs (val xs)).length ≤ xs.length := by rw [h2]; exact Nat.le_refl _
    rw [limbs_len_le] at h3
    omega
  have hcm : ¬ cmpL xs ys < 0 := by
    rw [cmp_wf ha.lt hb.lt hx hy, if_neg (by omega)]
    split <;> omega
  have HA := Lib.hid ha; have HB := Lib.hid hb; have HX := Lib.hid hx; have HY := Lib.hid hy; have HLE := Lib.hid hle
  obtain ⟨ao, ca, rfl, -⟩ := ha.ex
  obtain ⟨bo, cb, rfl, -⟩ := hb.ex
  clear ha hb hx hy hle
  obtain ⟨la, hla⟩ : ∃ la, la = xs.length := ⟨_, rfl⟩
  obtain ⟨lb, hlb⟩ : ∃ lb, lb = ys.length := ⟨_, rfl⟩
  rw [← hla] at hxl hll; rw [← hlb] at hyl hll
  rw [← hla, ← hlb]
  rw [← hla] at HA; rw [← hlb] at HB
  have HLA := Lib.hid hla; have HLB := Lib.hid hlb
  clear hla hlb
  obtain ⟨q, hq⟩ : ∃ q, q = cmpL xs ys := ⟨_, rfl⟩
  rw [← hq] at hcm
  have HQ := Lib.hid hq; clear hq
  go_enter Tryz.func92, Tryz.ntmps92
  go_wp2_with fail
  refine (check_any HA.out).mono ?_
  rintro e w' ⟨rfl, rfl⟩
  rw [HX.out]
  go_wp2_with fail
  refine (check_any HB.out).mono ?_
  rintro e w' ⟨rfl, rfl⟩
  rw [HY.out]
  go_wp2_with fail
  refine (compare_any HA.out HB.out).mono ?_
  rintro e w0 ⟨rfl, hd⟩
  have HK0 := Lib.hid hd.kp
  obtain ⟨n0, hn0⟩ := hd
  have HZ0 : Hid (w0.heap.size = w.heap.size) := by rw [hn0]; rfl
  clear hn0
  have HA0 := Lib.hid (HA.out.keep HK0.out)
  have HB0 := Lib.hid (HB.out.keep HK0.out)
  rw [← HQ.out]
  go_wp2_with (at_make; refine wpList_mk rfl (.tmp 20) (.tmp 20) 22 rfl Tryz.underlying22 _ la rfl rfl rfl (by omega) ?_)
  intro w1 hrow hk1
  have HROW := Lib.hid hrow; have HK1 := Lib.hid hk1
  clear hrow hk1
  have HA1 := Lib.hid (HA0.out.keep HK1.out)
  go_wp2_with (with_reducible refine wpList_cp (o := ⟨some 24, _, _, _, _, _⟩) rfl (.tmp 22) (.tmp 23) 22 24 rfl Tryz.underlying22 w0.heap.size la la 43 _ xs (.slice ao la ca) rfl rfl HA1.out (by have := HLA.out; omega) (by simp) HROW.out ?_)
  intro w2 hrow2 ho2
  have HROW2 := Lib.hid hrow2; have HO2 := Lib.hid ho2
  have HK2 := Lib.hid (Only.kp HK1.out HO2.out (Nat.le_refl _))
  clear hrow2 ho2
  have HB2 := Lib.hid (HB0.out.keep HK2.out)
  have HOFF := Lib.hid (HB0.out.off (Nat.le_refl _))
  have hlx : (xs ++ List.replicate (la - xs.length) 0).length = la := by have := HLA.out; simp; omega
  have HLX := Lib.hid hlx
  clear hlx
  go_wp2_with fail
  refine (subtractFrom_any w0.heap.size 0 la la 1 43 _ ys _ w2 HROW2.out (HA.out.lt.append (Lt.replicate _)) (by have := HLX.out; omega) (by unfold maxLen; omega) HB2.out HOFF.out (by have := HLB.out; omega) (by omega)).mono ?_
  rintro e w3 ⟨zr, c, rfl, hsub, hrow3, ho3⟩
  have hv := sub_whole hsub HLX.out (by rw [val_pad, Nat.one_mul]; exact HLE.out)
  rw [val_pad, Nat.one_mul] at hv
  have hl3 : zr.length = la := hsub.len.trans HLX.out
  have HS3 := Lib.hid (hrow3.sl hsub.lt (by omega))
  rw [hl3] at HS3
  have HK3 := Lib.hid (Kp.trans HK0.out (Only.kp HK2.out ho3 (Nat.le_refl _)))
  have HV := Lib.hid hv
  clear hsub hrow3 ho3 hv hl3
  go_wp2_with fail
  refine (limited_any HS3.out).mono ?_
  rintro e w4 ⟨⟨v', rfl, hs', hn'⟩, rfl⟩
  rw [HV.out] at hs' ⊢
  have HS' := Lib.hid hs'; have HN := Lib.hid (hn' w.heap.size (by intro a l c e; simp only [Value.slice.injEq, Option.some.injEq] at e; rw [← e.1]; exact Nat.le_of_eq HZ0.out.symm))
  clear hs' hn'
  have fin : Made (val xs - val ys) w (.returned (if (limbs (val xs - val ys)).length ≤ 128 then .tuple #[v', .int .i64 0] else .tuple #[.slice none 0 0, .int .i64 2])) w3 := ⟨⟨v', rfl, HS'.out, HN.out⟩, HK3.out⟩
  have FIN := Lib.hid fin; clear fin
  by_cases hlen : (limbs (val xs - val ys)).length ≤ 128
  · have FIN2 := FIN.out
    rw [if_pos hlen] at FIN2 ⊢
    have FIN := Lib.hid FIN2; clear FIN2
    go_wp2
    go_ret2
    exact FIN.out
  · have FIN2 := FIN.out
    rw [if_neg hlen] at FIN2 ⊢
    have FIN := Lib.hid FIN2; clear FIN2
    go_wp2
    go_ret2
    exact FIN.out
end Go.Proofs.YtdoponlhiidimaaGreatDoor

/- Contracts of the functions that multiply. Conditions: the slices hold the digits that are named. -/
namespace Go.Proofs.YtdoponlhiidimaaGreatDoor
open Go.RowKit LimbN

-- slices.Clone
set_option maxHeartbeats 400000 in
theorem cloneU_nil (w : World) :
    Calls Tryz.prog 64 #[.slice none 0 0] w fun e w' => e = .returned (.slice none 0 0) ∧ w = w' := by
  have q1 : ∀ (w : World) (a : Option Addr) (n c n' c' : Nat), (binOp .eql 22 (.slice a n c) (.slice none n' c')).run Tryz.prog w = .ok (.bool a.isNone) w := fun w a n c n' c' => Lib.run_eql_slice_nil w 22 43 a n c n' c' Tryz.underlying22
  go_enter Tryz.func64, Tryz.ntmps64
  go_wp2
  go_ret
  exact ⟨rfl, rfl⟩
set_option maxHeartbeats 400000 in
theorem cloneU_some {xs : List Nat} {a : Addr} {l c : Nat} {w : World} (ha : Sl w (.slice (some a) l c) xs) :
    Calls Tryz.prog 64 #[.slice (some a) l c] w fun e w' => ∃ v', e = .returned v' ∧ Sl w' v' xs ∧ New w.heap.size v' ∧ Kp w w' := by
  have q1 : ∀ (w : World) (a : Option Addr) (n c n' c' : Nat), (binOp .eql 22 (.slice a n c) (.slice none n' c')).run Tryz.prog w = .ok (.bool a.isNone) w := fun w a n c n' c' => Lib.run_eql_slice_nil w 22 43 a n c n' c' Tryz.underlying22
  have HLT := Lib.hid ha.lt; have HSM := Lib.hid ha.sm
  have HL : Hid (xs.length = l) := by obtain ⟨ao, cap, e, -⟩ := ha.ex; simp only [Value.slice.injEq] at e; exact e.2.1.symm
  have HAT : Hid (At (w.alloc (.cells #[] 43)) (some a) xs) := by
    obtain ⟨ao, cap, e, _, _, h, _⟩ := ha.ex
    simp only [Value.slice.injEq] at e
    rw [e.1]
    exact h.keep (Kp.alloc (Kp.refl _) _)
  have HOWN : Hid ((w.alloc (.cells #[] 43)).ownsRow w.heap.size 43 1 (.slice (some ⟨w.heap.size, 0, none⟩) 0 0) 0 (U [])) := World.ownsRow_made w #[] 0 (Nat.le_refl _) (Nat.zero_le _) rfl
  clear ha
  go_enter Tryz.func64, Tryz.ntmps64
  go_wp2_with (at_builtin; refine wpList_app rfl (.tmp 5) (.tmp 6) 22 rfl Tryz.underlying22 w.heap.size _ 0 [] rfl HOWN.out (some a) l c xs rfl HL.out HAT.out (fun h => nomatch h) (by have := HSM.out; have := HL.out; omega) (by simp) ?_)
  intro v' w1 hown hgr
  have hs1 := sl_of_owns (zs := xs) hown HLT.out HSM.out
  have HS := Lib.hid hs1.1; have HN := Lib.hid hs1.2
  have HG : Hid (Kp w w1) := (Below.grown (Below.alloc (Below.refl _ _) (Nat.le_refl _) _) hgr (by simp) (by intro k hk; simp [Value.ownBlock] at hk; omega))
  clear hs1 hown hgr
  go_wp2
  go_ret
  exact ⟨v', rfl, HS.out, HN.out, HG.out⟩
theorem cloneU_any {xs : List Nat} {v : Value} {w : World} (ha : Sl w v xs) :
    Calls Tryz.prog 64 #[v] w fun e w' => ∃ v', e = .returned v' ∧ Sl w' v' xs ∧ New w.heap.size v' ∧ Kp w w' := by
  obtain ⟨ao, cap, rfl, _, _, hat, hno⟩ := ha.ex
  cases ao with
  | none =>
    obtain rfl : xs = [] := by
      rcases hat with h | ⟨_, _, h, _⟩
      · exact h
      · simp at h
    obtain rfl := hno rfl
    exact (cloneU_nil w).mono fun e w' h => ⟨_, h.1, h.2 ▸ Sl.nil _, New.nil _, Kp.of_eq h.2⟩
  | some a => exact cloneU_some ha
set_option maxHeartbeats 400000 in
theorem cloneN_nil (w : World) :
    Calls Tryz.prog 58 #[.slice none 0 0] w fun e w' => e = .returned (.slice none 0 0) ∧ w = w' := by
  have q1 : ∀ (w : World) (a : Option Addr) (n c n' c' : Nat), (binOp .eql 24 (.slice a n c) (.slice none n' c')).run Tryz.prog w = .ok (.bool a.isNone) w := fun w a n c n' c' => Lib.run_eql_slice_nil w 24 43 a n c n' c' Tryz.underlying24
  go_enter Tryz.func58, Tryz.ntmps58
  go_wp2
  go_ret
  exact ⟨rfl, rfl⟩
set_option maxHeartbeats 400000 in
theorem cloneN_some {xs : List Nat} {a : Addr} {l c : Nat} {w : World} (ha : Sl w (.slice (some a) l c) xs) :
    Calls Tryz.prog 58 #[.slice (some a) l c] w fun e w' => ∃ v', e = .returned v' ∧ Sl w' v' xs ∧ New w.heap.size v' ∧ Kp w w' := by
  have q1 : ∀ (w : World) (a : Option Addr) (n c n' c' : Nat), (binOp .eql 24 (.slice a n c) (.slice none n' c')).run Tryz.prog w = .ok (.bool a.isNone) w := fun w a n c n' c' => Lib.run_eql_slice_nil w 24 43 a n c n' c' Tryz.underlying24
  have HLT := Lib.hid ha.lt; have HSM := Lib.hid ha.sm
  have HL : Hid (xs.length = l) := by obtain ⟨ao, cap, e, -⟩ := ha.ex; simp only [Value.slice.injEq] at e; exact e.2.1.symm
  have HAT : Hid (At (w.alloc (.cells #[] 43)) (some a) xs) := by
    obtain ⟨ao, cap, e, _, _, h, _⟩ := ha.ex
    simp only [Value.slice.injEq] at e
    rw [e.1]
    exact h.keep (Kp.alloc (Kp.refl _) _)
  have HOWN : Hid ((w.alloc (.cells #[] 43)).ownsRow w.heap.size 43 1 (.slice (some ⟨w.heap.size, 0, none⟩) 0 0) 0 (U [])) := World.ownsRow_made w #[] 0 (Nat.le_refl _) (Nat.zero_le _) rfl
  clear ha
  go_enter Tryz.func58, Tryz.ntmps58
  go_wp2_with (at_builtin; refine wpList_app rfl (.tmp 5) (.tmp 6) 24 rfl Tryz.underlying24 w.heap.size _ 0 [] rfl HOWN.out (some a) l c xs rfl HL.out HAT.out (fun h => nomatch h) (by have := HSM.out; have := HL.out; omega) (by simp) ?_)
  intro v' w1 hown hgr
  have hs1 := sl_of_owns (zs := xs) hown HLT.out HSM.out
  have HS := Lib.hid hs1.1; have HN := Lib.hid hs1.2
  have HG : Hid (Kp w w1) := (Below.grown (Below.alloc (Below.refl _ _) (Nat.le_refl _) _) hgr (by simp) (by intro k hk; simp [Value.ownBlock] at hk; omega))
  clear hs1 hown hgr
  go_wp2
  go_ret
  exact ⟨v', rfl, HS.out, HN.out, HG.out⟩
theorem cloneN_any {xs : List Nat} {v : Value} {w : World} (ha : Sl w v xs) :
    Calls Tryz.prog 58 #[v] w fun e w' => ∃ v', e = .returned v' ∧ Sl w' v' xs ∧ New w.heap.size v' ∧ Kp w w' := by
  obtain ⟨ao, cap, rfl, _, _, hat, hno⟩ := ha.ex
  cases ao with
  | none =>
    obtain rfl : xs = [] := by
      rcases hat with h | ⟨_, _, h, _⟩
      · exact h
      · simp at h
    obtain rfl := hno rfl
    exact (cloneN_nil w).mono fun e w' h => ⟨_, h.1, h.2 ▸ Sl.nil _, New.nil _, Kp.of_eq h.2⟩
  | some a => exact cloneN_some ha

set_option maxHeartbeats 1000000 in
theorem addProduct_any (g gb at_ f : Nat) (t : TypeId) (zs ys : List Nat) (vb : Value) (w : World) (hrow : Row w g t zs) (hzs : Lt zs) (h256 : zs.length = 256) (hb : Sl w vb ys) (hoff : Off g vb ys) (hgb : gb ≠ g)
    (hbox : w.cell? ⟨gb, 0, none⟩ = some vb) (hfit : at_ + ys.length < 256) (hf : f < 4294967296) :
    Calls Tryz.prog 62 #[.int .i64 at_, .int .u32 f, .pointer (some ⟨gb, 0, none⟩), .pointer (some ⟨g, 0, none⟩)] w fun e w' =>
      e = .returned (.tuple #[]) ∧ ∃ zr c, AddRel zs at_ ys.length c (f * val ys) zr ∧ c < 4294967296 ∧ Row w' g t (zr.set (at_ + ys.length) c) ∧ Only g w w' := by
  obtain ⟨⟨ao, cb, rfl, hcb, hcm, hat, _⟩, hys, _⟩ := hb
  obtain ⟨n, hn⟩ : ∃ n, n = ys.length := ⟨_, rfl⟩
  rw [← hn] at hbox hfit hcb
  rw [← hn]
  have HN := Lib.hid hn; clear hn
  have HROW := Lib.hid hrow; have HZS := Lib.hid hzs; have HAT := Lib.hid hat; have HYS := Lib.hid hys; have HOFF := Lib.hid hoff; have H256 := Lib.hid h256
  clear hrow hzs hat hys hoff h256
  go_enter Tryz.func62, Tryz.ntmps62
  go_wp2
  go_loopw [11, 6] (fun i c wr => ∃ (k c' : Nat) (zr : List Nat), k ≤ n ∧ i = .int .i64 k ∧ c = .int .u64 c' ∧ c' < 4294967296 ∧ AddRel zs at_ k c' (f * val (ys.take k)) zr ∧ Row wr g t zr ∧ Only g w wr) (fun i _ _ => n - (intOf i).toNat)
  case atStart => exact ⟨0, 0, zs, Nat.zero_le _, rfl, rfl, by omega, by simpa [val] using AddRel.start zs at_ HZS.out, HROW.out, Only.refl _ _⟩
  case round =>
    obtain ⟨k, c', zr, hk, rfl, rfl, hc1, hrel', hrow, honly⟩ := hrel
    by_cases hlt : k < n
    · have hzl := hrel'.len
      have hz := hrel'.lt (at_ + k)
      have hcell : wr.cell? ⟨g, at_ + k, none⟩ = some (.int .u32 (zr[at_ + k]?.getD 0 : Nat)) := hrow.cell (at_ + k) (by have := H256.out; omega)
      have hfree : wr.frozen? ⟨g, at_ + k, none⟩ = false := hrow.free _
      have HREL := Lib.hid hrel'; have HROW2 := Lib.hid hrow; have HON := Lib.hid honly; have HZL := Lib.hid hzl
      clear hrel' hrow honly hzl
      obtain ⟨z, ez⟩ : ∃ z, z = zr[at_ + k]?.getD 0 := ⟨_, rfl⟩
      rw [← ez] at hcell hz
      have EZ := Lib.hid ez
      clear ez
      have hyb := HYS.out k
      obtain ⟨b, off, rfl, hcy⟩ := HAT.out.cells (by have := HN.out; omega)
      have hnil : Hid (ys ≠ []) := fun h => by have := HN.out; rw [h] at this; simp at this; omega
      have hcelly : wr.cell? ⟨b, off + k, none⟩ = some (.int .u32 (ys[k]?.getD 0 : Nat)) := (World.cell?_of_block (HON.out.block b (HOFF.out hnil.out _ _ _ rfl))).trans (hcy k (by have := HN.out; omega))
      have hbg : b ≠ g := HOFF.out hnil.out _ _ _ rfl
      obtain ⟨y, ey⟩ : ∃ y, y = ys[k]?.getD 0 := ⟨_, rfl⟩
      rw [← ey] at hcelly hyb
      have EY := Lib.hid ey
      clear ey hcy
      have hm := mul_small hyb hf
      have hm0 : (0 : Int) ≤ (y : Int) * (f : Int) := by rw [← Int.natCast_mul]; exact Int.natCast_nonneg _
      have hm1 : (y : Int) * (f : Int) ≤ 18446744065119617025 := by rw [← Int.natCast_mul]; omega
      go_wp2
      go_roundw
      case rel =>
        refine ⟨k + 1, (c' + (z + y * f)) / 4294967296, _, by omega, vint (by omega), vint (by omega), by omega, ?_, HROW2.out.set' _ ((c' + (z + y * f)) % 4294967296) _ (by omega), HON.out.set _ _⟩
        rw [val_take_succ, ← EY.out, Nat.mul_add, Nat.mul_left_comm, Nat.mul_comm f y]
        exact HREL.out.step (by have := H256.out; omega) (y * f) _ (by rw [← EZ.out])
      case measure => simp [intOf]; omega
    · have hkn : k = n := by omega
      subst hkn
      have hzl := hrel'.len
      have hbox2 : wr.cell? ⟨gb, 0, none⟩ = w.cell? ⟨gb, 0, none⟩ := World.cell?_of_block (honly.block gb hgb)
      rw [hbox] at hbox2
      have hcell := hrow.cell (at_ + k) (by have := H256.out; omega)
      have hfree : wr.frozen? ⟨g, at_ + k, none⟩ = false := hrow.free _
      have HREL := Lib.hid hrel'; have HROW2 := Lib.hid hrow; have HON := Lib.hid honly
      clear hrel' hrow honly hzl
      go_wp2
      go_end0
      refine ⟨rfl, zr, c', ?_, hc1, HROW2.out.set' _ c' _ (by omega), HON.out.set _ _⟩
      have := HREL.out; rwa [List.take_of_length_le (by have := HN.out; omega)] at this

theorem slice256 (g k l : Nat) (h : k + l ≤ 256) (wx : World) : (Instr.sliceAt 84 (.pointer (some ⟨g, 0, none⟩)) none (some (.int .i64 ((k : Int) + (l : Int)))) none).run Tryz.prog wx = .ok (.slice (some ⟨g, 0, none⟩) (k + l) 256) wx := by
  have e1 : Tryz.prog.arrayLen 84 = 256 := by kernel_rfl
  have e2 : Tryz.prog.elem 84 = 43 := by kernel_rfl
  have e3 : (sizeOf 43).run Tryz.prog wx = .ok 1 wx := by kernel_rfl
  have e4 : ((k : Int) + (l : Int)).toNat = k + l := by omega
  rw [run_sliceAt_array_h wx 84 ⟨g, 0, none⟩ (by rw [e1, e2]; exact Tryz.underlying84) .i64 _ (by omega) (by rw [e1]; omega), e1, e2, e3, e4]
  simp [slicedAt, Result.andThen, Addr.add_lit]
set_option maxRecDepth 100000 in
set_option maxHeartbeats 1000000 in
theorem multiply_ok {xs ys : List Nat} {va vb : Value} {w : World} (ha : Sl w va xs) (hb : Sl w vb ys) (hxl : xs.length ≤ 128) (hyl : ys.length ≤ 128) :
    Calls Tryz.prog 44 #[va, vb] w (Made (val xs * val ys) w) := by
  have hmf : ∀ (fn : Fn) (first cap : Array Value) (w : World), (Instr.makeFunc fn first cap).run Tryz.prog w = .ok (.func fn first cap) w := fun _ _ _ _ => rfl
  have HA := Lib.hid ha; have HB := Lib.hid hb
  obtain ⟨ao, ca, rfl, -⟩ := ha.ex
  obtain ⟨bo, cb, rfl, -⟩ := hb.ex
  clear ha hb
  obtain ⟨la, hla⟩ : ∃ la, la = xs.length := ⟨_, rfl⟩
  obtain ⟨lb, hlb⟩ : ∃ lb, lb = ys.length := ⟨_, rfl⟩
  rw [← hla] at hxl; rw [← hlb] at hyl
  rw [← hla, ← hlb]
  rw [← hla] at HA; rw [← hlb] at HB
  have HLA := Lib.hid hla; have HLB := Lib.hid hlb
  clear hla hlb
  have hz71 : Tryz.zeroCells84 = (U (List.replicate 256 0)).toArray := by kernel_rfl
  have hW : ∃ W, W = (w.alloc (.cells #[.slice bo lb cb] 24)).alloc (.cells Tryz.zeroCells84 84) := ⟨_, rfl⟩
  obtain ⟨W, hW⟩ := hW
  have HK0 : Hid (Kp w W) := by rw [hW]; exact Kp.alloc (Kp.alloc (Kp.refl _) _) _
  have HR0 : Hid (Row W (w.heap.size + 1) 84 (List.replicate 256 0)) := ⟨by rw [hW, ← hz71]; exact heap_alloc2_new w _ _⟩
  have HBX : Hid (W.cell? ⟨w.heap.size, 0, none⟩ = some (.slice bo lb cb)) := by
    rw [hW]
    refine (World.cell?_alloc_past _ _ _ (by simp)).trans ?_
    rw [World.cell?_alloc_at _ _ _ _ rfl]; rfl
  have HW := Lib.hid hW.symm
  clear hW hz71
  go_enter Tryz.func44, Tryz.ntmps44
  go_wp2_with fail
  rw [HW.out]
  go_loopw [13] (fun i wr => ∃ (k : Nat) (zr : List Nat), k ≤ la ∧ i = .int .i64 k ∧ MulRel xs ys k zr ∧ Row wr (w.heap.size + 1) 84 zr ∧ Only (w.heap.size + 1) W wr) (fun i _ => la - (intOf i).toNat)
  case atStart => exact ⟨0, _, Nat.zero_le _, rfl, MulRel.start xs ys, HR0.out, Only.refl _ _⟩
  case round =>
    obtain ⟨k, zr, hk, rfl, hrel', hrow, honly⟩ := hrel
    have HREL := Lib.hid hrel'; have HROW := Lib.hid hrow; have HON := Lib.hid honly
    have HKR : Hid (Kp w wr) := Only.kp HK0.out honly (by omega)
    clear hrel' hrow honly
    have HAR := Lib.hid (HA.out.keep HKR.out); have HBR := Lib.hid (HB.out.keep HKR.out)
    by_cases hlt : k < la
    · obtain ⟨⟨ao', cap', hv, _, _, hat, _⟩, hxs, _⟩ := HAR.out
      simp only [Value.slice.injEq] at hv
      obtain ⟨rfl, -, rfl⟩ := hv
      obtain ⟨b, off, rfl, hcx⟩ := hat.cells (by have := HLA.out; omega)
      have hcell := hcx k (by have := HLA.out; omega)
      have hxb := hxs k
      clear hcx hat
      have HXS := Lib.hid hxs; clear hxs
      obtain ⟨x, ex⟩ : ∃ x, x = xs[k]?.getD 0 := ⟨_, rfl⟩
      rw [← ex] at hcell hxb
      have EX := Lib.hid ex; clear ex
      have HBXR : Hid (wr.cell? ⟨w.heap.size, 0, none⟩ = some (.slice bo lb cb)) := (World.cell?_of_block (HON.out.block _ (by simp))).trans HBX.out
      have HOFF := Lib.hid (HB.out.off (g := w.heap.size + 1) (by omega))
      go_wp2_with fail
      refine (addProduct_any (w.heap.size + 1) w.heap.size k x 84 zr ys _ wr HROW.out HREL.out.lt HREL.out.len HBR.out HOFF.out (by omega) HBXR.out (by have := HLB.out; omega) hxb).mono ?_
      rintro e w2 ⟨rfl, zr2, c, hadd, hc, hrow2, ho2⟩
      have hst := HREL.out.step (by have := HLB.out; omega) hc (by rw [← EX.out]; exact hadd)
      have HST := Lib.hid hst; have HROW2 := Lib.hid hrow2; have HON2 := Lib.hid (HON.out.trans ho2)
      clear hst hadd hrow2 ho2
      go_wp2
      go_roundw
      case rel => exact ⟨k + 1, _, by omega, vint (by omega), HST.out, HROW2.out, HON2.out⟩
      case measure => simp [intOf]; omega
    · have hkl : k = la := by omega
      subst hkl
      have hbx : wr.cell? ⟨w.heap.size, 0, none⟩ = some (.slice bo lb cb) := (World.cell?_of_block (HON.out.block _ (by simp))).trans HBX.out
      have hs71 := slice256 (w.heap.size + 1) k lb (by omega)
      have hl := HREL.out.len
      have hzr := Sl.cut (w := wr) (ao := some ⟨w.heap.size + 1, 0, none⟩) (cap := 256) (xs := zr) (by omega) (by unfold maxLen; omega) (by simpa using HROW.out.at 0) HREL.out.lt (by omega) (fun h => nomatch h) (k + lb) (by omega)
      have hv : val (zr.take (k + lb)) = val xs * val ys := by
        rw [val_take _ (fun i hi => HREL.out.zero i (by have := HLB.out; omega)), HREL.out.sum, List.take_of_length_le (by have := HLA.out; omega)]
      have HZR := Lib.hid hzr; have HV := Lib.hid hv
      clear hl hzr hv
      go_wp2_with fail
      refine (cloneU_any HZR.out).mono ?_
      rintro e w2 ⟨v2, rfl, hs2, hn2, hk2⟩
      have HS2 := Lib.hid hs2; have HN2 := Lib.hid (hn2.mono (show w.heap.size ≤ wr.heap.size from HKR.out.size)); have HK2 := Lib.hid (Kp.trans HKR.out hk2)
      clear hs2 hn2 hk2
      go_wp2_with fail
      refine (limited_any HS2.out).mono ?_
      rintro e w4 ⟨⟨v', rfl, hs', hn'⟩, rfl⟩
      rw [HV.out] at hs' ⊢
      have fin : Made (val xs * val ys) w (.returned (if (limbs (val xs * val ys)).length ≤ 128 then .tuple #[v', .int .i64 0] else .tuple #[.slice none 0 0, .int .i64 2])) w2 := ⟨⟨v', rfl, hs', hn' _ HN2.out⟩, HK2.out⟩
      have FIN := Lib.hid fin; clear fin hs' hn'
      by_cases hlen : (limbs (val xs * val ys)).length ≤ 128
      · have FIN2 := FIN.out
        rw [if_pos hlen] at FIN2 ⊢
        have FIN := Lib.hid FIN2; clear FIN2
        go_wp2
        go_ret2
        exact FIN.out
      · have FIN2 := FIN.out
        rw [if_neg hlen] at FIN2 ⊢
        have FIN := Lib.hid FIN2; clear FIN2
        go_wp2
        go_ret2
        exact FIN.out
set_option maxHeartbeats 400000 in
theorem Mul_ok {xs ys : List Nat} {va vb : Value} {w : World} (ha : Sl w va xs) (hb : Sl w vb ys) (hx : wf xs = true) (hy : wf ys = true) :
    Calls Tryz.prog 72 #[va, vb] w (Made (val xs * val ys) w) := by
  have HA := Lib.hid ha; have HX := Lib.hid hx; have HB := Lib.hid hb; have HY := Lib.hid hy; clear ha hx hb hy
  go_enter Tryz.func72, Tryz.ntmps72
  go_wp2_with fail
  refine (check_any HA.out).mono ?_
  rintro e w' ⟨rfl, rfl⟩
  rw [HX.out]
  go_wp2_with fail
  refine (check_any HB.out).mono ?_
  rintro e w' ⟨rfl, rfl⟩
  rw [HY.out]
  go_wp2_with fail
  refine (multiply_ok HA.out HB.out (wf_canon HA.out.lt HX.out).2 (wf_canon HB.out.lt HY.out).2).mono ?_
  intro e w2 hm
  have HM := Lib.hid hm
  obtain ⟨⟨v', rfl, -, -⟩, -⟩ := hm
  by_cases hlen : (limbs (val xs * val ys)).length ≤ 128
  · have FIN2 := HM.out
    rw [if_pos hlen] at FIN2 ⊢
    have FIN := Lib.hid FIN2; clear FIN2 HM
    go_wp2
    go_ret2
    exact FIN.out
  · have FIN2 := HM.out
    rw [if_neg hlen] at FIN2 ⊢
    have FIN := Lib.hid FIN2; clear FIN2 HM
    go_wp2
    go_ret2
    exact FIN.out
end Go.Proofs.YtdoponlhiidimaaGreatDoor
