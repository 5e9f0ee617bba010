/- The law on making fractions: it returns true for all lists of digits and all ints. Condition: the library's table of powers of ten holds what its text lays. -/
import Derived.Test.YtfcpfmjoelhlnaaGreatDoorMakesA
namespace Go.Proofs.YtfcpfmjoelhlnaaGreatDoor
open Go.RowKit LimbN

/-- what both Ofs answer. -/
theorem Of_both (z y : Int) (hz : z < 9223372036854775808) (hy : y < 9223372036854775808) : ∃ E p, ∀ w : World, Calls Tryz.prog 12 #[.int .i64 z, .int .i64 y] w (MkR E p w) ∧ Calls Tryz.prog 13 #[.int .i64 z, .int .i64 y] w (MkR E p w) := by
  by_cases h : z < 0 ∨ y < 0
  · exact ⟨_, _, fun w => ⟨Of_neg h, rOf_neg h⟩⟩
  · obtain ⟨a, rfl⟩ : ∃ a : Nat, z = a := ⟨z.toNat, by omega⟩
    obtain ⟨b, rfl⟩ : ∃ b : Nat, y = b := ⟨y.toNat, by omega⟩
    exact ⟨_, _, fun w => ⟨Of_ok (by omega) (by omega), rOf_ok (by omega) (by omega)⟩⟩
set_option maxRecDepth 100000 in
set_option maxHeartbeats 8000000 in
theorem makes_any {xs ys : List Nat} {vx vy : Value} {w : World} (hx : Sl w vx xs) (hy : Sl w vy ys) (z : Int) (hz : -9223372036854775808 ≤ z ∧ z ≤ 9223372036854775807) (y : Int) (hy2 : -9223372036854775808 ≤ y ∧ y ≤ 9223372036854775807) (htab : Tab w) :
    Calls Tryz.prog 3 #[vx, vy, .int .i64 z, .int .i64 y] w fun e w' => e = .returned (.bool true) ∧ Kp w w' := by
  obtain ⟨E2, p2, hof⟩ := Of_both z y (by omega) (by omega)
  have HOF := Lib.hid hof; have HT := Lib.hid htab; have HX := Lib.hid hx; have HY := Lib.hid hy; clear htab hx hy hz hy2 hof
  go_enter Tryz.func3, Tryz.ntmps3
  go_wp2_with fail
  refine (cut8_any HX.out).mono ?_
  rintro e w1 ⟨⟨va, rfl, ha⟩, rfl⟩
  obtain ⟨x, ex⟩ : ∃ x, x = xs.take 8 := ⟨_, rfl⟩
  rw [← ex] at ha
  have HA := Lib.hid ha; have HEX := Lib.hid ex; clear ha ex
  go_wp2_with fail
  refine (cut8_any HY.out).mono ?_
  rintro e w1 ⟨⟨vb, rfl, hb⟩, rfl⟩
  obtain ⟨u, eu⟩ : ∃ u, u = ys.take 8 := ⟨_, rfl⟩
  rw [← eu] at hb
  have HB := Lib.hid hb; have HEU := Lib.hid eu; clear hb eu
  obtain ⟨E1, eE1⟩ : ∃ E1, E1 = divE x u := ⟨_, rfl⟩
  obtain ⟨p1, eP1⟩ : ∃ p1, p1 = mkP x u := ⟨_, rfl⟩
  have HE1 := Lib.hid eE1; have HP1 := Lib.hid eP1; clear eE1 eP1
  go_wp2_with fail
  refine (Make_any HA.out HB.out).mono ?_
  rw [← HE1.out, ← HP1.out]
  intro e w2 hq
  obtain ⟨⟨v1, v2, rfl, h1, h2, -, -⟩, hk⟩ := hq
  obtain ⟨ao, al, ac, rfl⟩ := h1.open3
  obtain ⟨bo, bl, bc, rfl⟩ := h2.open3
  obtain ⟨w3, hw3, HK3, HT1, hz3⟩ := box2 w2 25 (.slice ao al ac) (.slice bo bl bc)
  have HM1 := Lib.hid (h1.keep HK3.out); have HM2 := Lib.hid (h2.keep HK3.out); have HK03 := Lib.hid (Kp.trans hk HK3.out)
  clear h1 h2 hk hz3 HK3
  go_wp2_with fail
  rw [← hw3]
  clear hw3
  refine (cut8_any (HX.out.keep HK03.out)).mono ?_
  rintro e w1 ⟨⟨va2, rfl, ha⟩, rfl⟩
  rw [← HEX.out] at ha
  have HA2 := Lib.hid ha; clear ha
  go_wp2_with fail
  refine (cut8_any (HY.out.keep HK03.out)).mono ?_
  rintro e w1 ⟨⟨vb2, rfl, hb⟩, rfl⟩
  rw [← HEU.out] at hb
  have HB2 := Lib.hid hb; clear hb
  go_wp2_with fail
  refine (rMake_any HA2.out HB2.out).mono ?_
  rw [← HE1.out, ← HP1.out]
  intro e w4 hq
  obtain ⟨⟨v3, v4, rfl, h1, h2, -, -⟩, hk⟩ := hq
  obtain ⟨co, cl, cc, rfl⟩ := h1.open3
  obtain ⟨do', dl, dc, rfl⟩ := h2.open3
  obtain ⟨w5, hw5, HK5, HT2, hz5⟩ := box2 w4 25 (.slice co cl cc) (.slice do' dl dc)
  have HM3 := Lib.hid (h1.keep HK5.out); have HM4 := Lib.hid (h2.keep HK5.out); have HK35 := Lib.hid (Kp.trans hk HK5.out)
  clear h1 h2 hk hz5 HK5
  go_wp2_with fail
  rw [← hw5]
  clear hw5
  refine (HOF.out w5).1.mono ?_
  intro e w6 hq
  obtain ⟨⟨v5, v6, rfl, h1, h2, -, -⟩, hk⟩ := hq
  obtain ⟨eo, el, ec, rfl⟩ := h1.open3
  obtain ⟨fo, fl, fc, rfl⟩ := h2.open3
  obtain ⟨w7, hw7, HK7, HT3, hz7⟩ := box2 w6 25 (.slice eo el ec) (.slice fo fl fc)
  have HM5 := Lib.hid (h1.keep HK7.out); have HM6 := Lib.hid (h2.keep HK7.out); have HK57 := Lib.hid (Kp.trans hk HK7.out)
  clear h1 h2 hk hz7 HK7
  go_wp2_with fail
  rw [← hw7]
  clear hw7
  refine (HOF.out w7).2.mono ?_
  intro e w8 hq
  obtain ⟨⟨v7, v8, rfl, h1, h2, -, -⟩, hk⟩ := hq
  obtain ⟨go, gl, gc, rfl⟩ := h1.open3
  obtain ⟨ho, hl, hc, rfl⟩ := h2.open3
  obtain ⟨w9, hw9, HK9, HT4, hz9⟩ := box2 w8 25 (.slice go gl gc) (.slice ho hl hc)
  have HM7 := Lib.hid (h1.keep HK9.out); have HM8 := Lib.hid (h2.keep HK9.out); have HK79 := Lib.hid (Kp.trans hk HK9.out)
  clear h1 h2 hk hz9 HK9
  go_wp2_with fail
  rw [← hw9]
  clear hw9
  have HK39 := Lib.hid (Kp.trans HK35.out (Kp.trans HK57.out HK79.out))
  have HK09 := Lib.hid (Kp.trans HK03.out HK39.out)
  refine (cut8_any (HX.out.keep HK09.out)).mono ?_
  rintro e w1 ⟨⟨va3, rfl, ha⟩, rfl⟩
  rw [← HEX.out] at ha
  obtain ⟨io, il, ic, rfl⟩ := ha.open3
  have HA3 := Lib.hid ha; clear ha
  go_wp2_with fail
  refine (cut8_any (HY.out.keep HK09.out)).mono ?_
  rintro e w1 ⟨⟨vb3, rfl, hb⟩, rfl⟩
  rw [← HEU.out] at hb
  obtain ⟨jo, jl, jc, rfl⟩ := hb.open3
  have HB3 := Lib.hid hb; clear hb
  obtain ⟨wz, hwz, HKZ, HT5, hzz⟩ := box2 w9 25 (.slice io il ic) (.slice jo jl jc)
  go_wp2_with fail
  rw [← hwz]
  clear hwz hzz
  have hk5z := Kp.trans HK57.out (Kp.trans HK79.out HKZ.out)
  have hk7z := Kp.trans HK79.out HKZ.out
  have hk3z := Kp.trans HK35.out hk5z
  have HK0Z := Lib.hid (Kp.trans HK03.out hk3z)
  have T1 := Lib.hid (HT1.out.keep hk3z); have T2 := Lib.hid (HT2.out.keep hk5z); have T3 := Lib.hid (HT3.out.keep hk7z); have T4 := Lib.hid (HT4.out.keep HKZ.out)
  have N1 := Lib.hid (HM1.out.keep hk3z); have N2 := Lib.hid (HM2.out.keep hk3z); have N3 := Lib.hid (HM3.out.keep hk5z); have N4 := Lib.hid (HM4.out.keep hk5z)
  have N5 := Lib.hid (HM5.out.keep hk7z); have N6 := Lib.hid (HM6.out.keep hk7z); have N7 := Lib.hid (HM7.out.keep HKZ.out); have N8 := Lib.hid (HM8.out.keep HKZ.out)
  have NA := Lib.hid (HA3.out.keep HKZ.out); have NB := Lib.hid (HB3.out.keep HKZ.out)
  have HTZ := Lib.hid (HT.out.keep HK0Z.out)
  obtain ⟨b1, eb1⟩ : ∃ b1, b1 = w2.heap.size := ⟨_, rfl⟩
  obtain ⟨b2, eb2⟩ : ∃ b2, b2 = w4.heap.size := ⟨_, rfl⟩
  obtain ⟨b3, eb3⟩ : ∃ b3, b3 = w6.heap.size := ⟨_, rfl⟩
  obtain ⟨b4, eb4⟩ : ∃ b4, b4 = w8.heap.size := ⟨_, rfl⟩
  obtain ⟨b5, eb5⟩ : ∃ b5, b5 = w9.heap.size := ⟨_, rfl⟩
  rw [← eb1] at T1 ⊢
  rw [← eb2] at T2 ⊢
  rw [← eb3] at T3 ⊢
  rw [← eb4] at T4 ⊢
  rw [← eb5] at HT5 ⊢
  clear eb1 eb2 eb3 eb4 eb5 hk5z hk7z hk3z HT1 HT2 HT3 HT4 HM1 HM2 HM3 HM4 HM5 HM6 HM7 HM8 HA HB HA2 HB2 HA3 HB3 HOF HE1 HP1 HEX HEU HK35 HK57 HK79 HK39 HK09 HK03 HKZ
  have c10 := T1.out.c0; have c11 := T1.out.c1; have c20 := T2.out.c0; have c21 := T2.out.c1
  go_wp2_with fail
  go_region_held3 (fun w' => w'.cell? ⟨b1, 0, none⟩ = some (.slice ao al ac) ∧ w'.cell? ⟨b1, 1, none⟩ = some (.slice bo bl bc) ∧ w'.cell? ⟨b2, 0, none⟩ = some (.slice co cl cc) ∧ w'.cell? ⟨b2, 1, none⟩ = some (.slice do' dl dc)
      ∧ w'.cell? ⟨b3, 0, none⟩ = some (.slice eo el ec) ∧ w'.cell? ⟨b3, 1, none⟩ = some (.slice fo fl fc) ∧ w'.cell? ⟨b4, 0, none⟩ = some (.slice go gl gc) ∧ w'.cell? ⟨b4, 1, none⟩ = some (.slice ho hl hc)
      ∧ w'.cell? ⟨b5, 0, none⟩ = some (.slice io il ic) ∧ w'.cell? ⟨b5, 1, none⟩ = some (.slice jo jl jc) ∧ Kp wz w')
    (first
      | exact ⟨T1.out.c0, T1.out.c1, T2.out.c0, T2.out.c1, T3.out.c0, T3.out.c1, T4.out.c0, T4.out.c1, HT5.out.c0, HT5.out.c1, Kp.refl _⟩
      | (go_split_ands; exact ⟨(T1.out.keep (by first | assumption | exact Kp.trans (by assumption) (by assumption) | exact Kp.trans (by assumption) (Kp.drewN _ 1) | exact Kp.drewN _ 1)).c0, (T1.out.keep (by first | assumption | exact Kp.trans (by assumption) (by assumption) | exact Kp.trans (by assumption) (Kp.drewN _ 1) | exact Kp.drewN _ 1)).c1, (T2.out.keep (by first | assumption | exact Kp.trans (by assumption) (by assumption) | exact Kp.trans (by assumption) (Kp.drewN _ 1) | exact Kp.drewN _ 1)).c0, (T2.out.keep (by first | assumption | exact Kp.trans (by assumption) (by assumption) | exact Kp.trans (by assumption) (Kp.drewN _ 1) | exact Kp.drewN _ 1)).c1, (T3.out.keep (by first | assumption | exact Kp.trans (by assumption) (by assumption) | exact Kp.trans (by assumption) (Kp.drewN _ 1) | exact Kp.drewN _ 1)).c0, (T3.out.keep (by first | assumption | exact Kp.trans (by assumption) (by assumption) | exact Kp.trans (by assumption) (Kp.drewN _ 1) | exact Kp.drewN _ 1)).c1, (T4.out.keep (by first | assumption | exact Kp.trans (by assumption) (by assumption) | exact Kp.trans (by assumption) (Kp.drewN _ 1) | exact Kp.drewN _ 1)).c0, (T4.out.keep (by first | assumption | exact Kp.trans (by assumption) (by assumption) | exact Kp.trans (by assumption) (Kp.drewN _ 1) | exact Kp.drewN _ 1)).c1, (HT5.out.keep (by first | assumption | exact Kp.trans (by assumption) (by assumption) | exact Kp.trans (by assumption) (Kp.drewN _ 1) | exact Kp.drewN _ 1)).c0, (HT5.out.keep (by first | assumption | exact Kp.trans (by assumption) (by assumption) | exact Kp.trans (by assumption) (Kp.drewN _ 1) | exact Kp.drewN _ 1)).c1, (by first | assumption | exact Kp.trans (by assumption) (by assumption) | exact Kp.trans (by assumption) (Kp.drewN _ 1) | exact Kp.drewN _ 1)⟩)
      | exact ⟨(T1.out.keep (by first | assumption | exact Kp.trans (by assumption) (by assumption) | exact Kp.trans (by assumption) (Kp.drewN _ 1) | exact Kp.drewN _ 1)).c0, (T1.out.keep (by first | assumption | exact Kp.trans (by assumption) (by assumption) | exact Kp.trans (by assumption) (Kp.drewN _ 1) | exact Kp.drewN _ 1)).c1, (T2.out.keep (by first | assumption | exact Kp.trans (by assumption) (by assumption) | exact Kp.trans (by assumption) (Kp.drewN _ 1) | exact Kp.drewN _ 1)).c0, (T2.out.keep (by first | assumption | exact Kp.trans (by assumption) (by assumption) | exact Kp.trans (by assumption) (Kp.drewN _ 1) | exact Kp.drewN _ 1)).c1, (T3.out.keep (by first | assumption | exact Kp.trans (by assumption) (by assumption) | exact Kp.trans (by assumption) (Kp.drewN _ 1) | exact Kp.drewN _ 1)).c0, (T3.out.keep (by first | assumption | exact Kp.trans (by assumption) (by assumption) | exact Kp.trans (by assumption) (Kp.drewN _ 1) | exact Kp.drewN _ 1)).c1, (T4.out.keep (by first | assumption | exact Kp.trans (by assumption) (by assumption) | exact Kp.trans (by assumption) (Kp.drewN _ 1) | exact Kp.drewN _ 1)).c0, (T4.out.keep (by first | assumption | exact Kp.trans (by assumption) (by assumption) | exact Kp.trans (by assumption) (Kp.drewN _ 1) | exact Kp.drewN _ 1)).c1, (HT5.out.keep (by first | assumption | exact Kp.trans (by assumption) (by assumption) | exact Kp.trans (by assumption) (Kp.drewN _ 1) | exact Kp.drewN _ 1)).c0, (HT5.out.keep (by first | assumption | exact Kp.trans (by assumption) (by assumption) | exact Kp.trans (by assumption) (Kp.drewN _ 1) | exact Kp.drewN _ 1)).c1, (by first | assumption | exact Kp.trans (by assumption) (by assumption) | exact Kp.trans (by assumption) (Kp.drewN _ 1) | exact Kp.drewN _ 1)⟩)
    (first
      | (go_at_call_of 14 (Value.agg #[.slice ao al ac, .slice bo bl bc]); (try go_split_ands); refine (fsame_eq (N1.out.keep (by first | assumption | exact Kp.trans (by assumption) (by assumption) | exact Kp.trans (by assumption) (Kp.drewN _ 1) | exact Kp.drewN _ 1)) (N2.out.keep (by first | assumption | exact Kp.trans (by assumption) (by assumption) | exact Kp.trans (by assumption) (Kp.drewN _ 1) | exact Kp.drewN _ 1)) (N3.out.keep (by first | assumption | exact Kp.trans (by assumption) (by assumption) | exact Kp.trans (by assumption) (Kp.drewN _ 1) | exact Kp.drewN _ 1)) (N4.out.keep (by first | assumption | exact Kp.trans (by assumption) (by assumption) | exact Kp.trans (by assumption) (Kp.drewN _ 1) | exact Kp.drewN _ 1))).mono ?_; rintro e wa ⟨rfl, hka⟩)
      | (go_at_call_of 14 (Value.agg #[.slice eo el ec, .slice fo fl fc]); (try go_split_ands); refine (fsame_eq (N5.out.keep (by first | assumption | exact Kp.trans (by assumption) (by assumption) | exact Kp.trans (by assumption) (Kp.drewN _ 1) | exact Kp.drewN _ 1)) (N6.out.keep (by first | assumption | exact Kp.trans (by assumption) (by assumption) | exact Kp.trans (by assumption) (Kp.drewN _ 1) | exact Kp.drewN _ 1)) (N7.out.keep (by first | assumption | exact Kp.trans (by assumption) (by assumption) | exact Kp.trans (by assumption) (Kp.drewN _ 1) | exact Kp.drewN _ 1)) (N8.out.keep (by first | assumption | exact Kp.trans (by assumption) (by assumption) | exact Kp.trans (by assumption) (Kp.drewN _ 1) | exact Kp.drewN _ 1))).mono ?_; rintro e wb ⟨rfl, hkb⟩)
      | (go_at_call 15; (try go_split_ands); refine (Check_any (NA.out.keep (by first | assumption | exact Kp.trans (by assumption) (by assumption) | exact Kp.trans (by assumption) (Kp.drewN _ 1) | exact Kp.drewN _ 1)) (NB.out.keep (by first | assumption | exact Kp.trans (by assumption) (by assumption) | exact Kp.trans (by assumption) (Kp.drewN _ 1) | exact Kp.drewN _ 1))).mono ?_; rintro e wc ⟨rfl, hkc⟩)
      | (go_at_call 16; (try go_split_ands); refine (rCheck_any (NA.out.keep (by first | assumption | exact Kp.trans (by assumption) (by assumption) | exact Kp.trans (by assumption) (Kp.drewN _ 1) | exact Kp.drewN _ 1)) (NB.out.keep (by first | assumption | exact Kp.trans (by assumption) (by assumption) | exact Kp.trans (by assumption) (Kp.drewN _ 1) | exact Kp.drewN _ 1))).mono ?_; rintro e wd ⟨rfl, hkd⟩)
      | (go_at_call 17; (try go_split_ands); refine (fawake_any (HTZ.out.keep (by first | assumption | exact Kp.trans (by assumption) (by assumption) | exact Kp.trans (by assumption) (Kp.drewN _ 1) | exact Kp.drewN _ 1))).mono ?_; rintro e we ⟨rfl, hke⟩))
  go_wp2_with fail
  go_ret
  exact ⟨rfl, Kp.trans HK0Z.out (by first | assumption | exact Kp.trans (by assumption) hke | exact Kp.trans (Kp.trans (by assumption) (Kp.drewN _ 1)) hke)⟩
end Go.Proofs.YtfcpfmjoelhlnaaGreatDoor
