/- The law on quotients, differences, products and sums of fractions: it returns true for every list. Condition: the library's table of powers of ten holds what its text lays. -/
import Derived.Test.YtgpochhndjadhaaGreatDoorMMd
import Derived.Test.YtgpochhndjadhaaGreatDoorSubT
import Derived.Test.YtgpochhndjadhaaGreatDoorDraws
import Derived.Test.YtgpochhndjadhaaGreatDoorMakesA
import Derived.Test.YtgpochhndjadhaaGreatDoorRow
namespace Go.Proofs.YtgpochhndjadhaaGreatDoor
open Go.RowKit LimbN
set_option linter.unusedVariables false
set_option linter.unusedSimpArgs false

/-- A fraction in lowest terms whose numbers are at most B. -/
structure FrB (x y B : Nat) : Prop where
  le1 : x ≤ B
  le2 : y ≤ B
  pos : 0 < y
  gcd : Nat.gcd x y = 1
theorem FrB.low {n d B : Nat} (hd : 0 < d) (hn : n ≤ B) (hd' : d ≤ B) : FrB (FracN.low n d).1 (FracN.low n d).2 B :=
  ⟨Nat.le_trans (FracN.low_le_self n d).1 hn, Nat.le_trans (FracN.low_le_self n d).2 hd', FracN.low_pos hd, FracN.low_gcd hd⟩
theorem lenB {n B : Nat} (h : n ≤ B) (hB : B ≤ 1000000000000000000) : (limbs n).length ≤ 128 := fit (k := 2) (by omega) (by decide)
theorem FrB.l1 {x y B : Nat} (h : FrB x y B) (hB : B ≤ 1000000000000000000) : (limbs x).length ≤ 128 := lenB h.le1 hB
theorem FrB.l2 {x y B : Nat} (h : FrB x y B) (hB : B ≤ 1000000000000000000) : (limbs y).length ≤ 128 := lenB h.le2 hB
theorem FrB.ne {x y B : Nat} (h : FrB x y B) : y ≠ 0 := Nat.ne_of_gt h.pos
set_option maxRecDepth 100000 in
set_option maxHeartbeats 16000000 in
theorem flaws_any {zs : List Int} {v : Value} {w : World} (hz : SlI w v zs) (htab : Tab w) :
    Calls Tryz.prog 6 #[v] w fun e w' => e = .returned (.bool true) ∧ Kp w w' := by
  have HT := Lib.hid htab; clear htab
  have hz' := hz
  obtain ⟨⟨ao, cap, rfl, hc, hm, hat⟩, hlt, hsm⟩ := hz
  obtain ⟨len, hlen⟩ : ∃ len, len = zs.length := ⟨_, rfl⟩
  rw [← hlen] at hz' ⊢
  obtain ⟨w1, hw1⟩ : ∃ w1, w1 = w.alloc (Obj.cells #[.slice ao len cap, .int .i64 0] 38) := ⟨_, rfl⟩
  have htp : Tp w w1 w.heap.size 0 := by
    rw [hw1]
    exact ⟨⟨ao, len, cap, zs, hz', Blk.new _ _ _⟩, Kp.alloc (Kp.refl _) _, Nat.le_refl _⟩
  have HTP := Lib.hid htp
  have HS1 : Hid (w.heap.size < w1.heap.size) := by show _ < _; rw [hw1]; simp
  have HW1 := Lib.hid hw1
  clear hz' hc hm hat hlt hsm hlen hw1 htp
  go_enter Tryz.func6, Tryz.ntmps6
  go_wp2_with fail
  rw [← HW1.out]
  refine (Chance_any HTP.out (by omega) HS1.out).mono ?_
  intro e w2 hq
  obtain ⟨⟨n1, d1, x1, y1, rfl, s1, t1, nx1, ny1, p1, q1, r1, -, g1⟩, ht2, hg2⟩ := hq
  have hb1 : FrB n1 d1 1000 := ⟨by omega, q1, p1, g1⟩
  have B1 := Lib.hid hb1; have A1 := Lib.hid s1; have D1 := Lib.hid t1; have NA1 := Lib.hid nx1; have ND1 := Lib.hid ny1; have HT2 := Lib.hid ht2; have HG2 := Lib.hid hg2
  have HS2 : Hid (w1.heap.size ≤ w2.heap.size) := hg2.size
  clear s1 t1 nx1 ny1 p1 q1 r1 g1 ht2 hg2 hb1
  go_wp2_with fail
  refine (Inner_any HT2.out (by omega) (Nat.lt_of_lt_of_le HS1.out HS2.out)).mono ?_
  intro e w3 hq
  obtain ⟨⟨n2, d2, x2, y2, rfl, s1, t1, nx1, ny1, p1, q1, r1, o1, g1⟩, ht2, hg2⟩ := hq
  have hb1 : FrB n2 d2 1000 := ⟨by omega, q1, p1, g1⟩
  have B2 := Lib.hid hb1; have A2 := Lib.hid s1; have D2 := Lib.hid t1; have NA2 := Lib.hid nx1; have ND2 := Lib.hid ny1; have HT3 := Lib.hid ht2; have HG3 := Lib.hid hg2
  have N2L := Lib.hid r1; have N2P := Lib.hid o1
  have HS3 : Hid (w2.heap.size ≤ w3.heap.size) := hg2.size
  clear s1 t1 nx1 ny1 p1 q1 r1 o1 g1 ht2 hg2 hb1
  go_wp2_with fail
  refine (Chance_any HT3.out (by omega) (Nat.lt_of_lt_of_le HS1.out (Nat.le_trans HS2.out HS3.out))).mono ?_
  intro e w4 hq
  obtain ⟨⟨n3, d3, x3, y3, rfl, s1, t1, nx1, ny1, p1, q1, r1, -, g1⟩, ht2, hg2⟩ := hq
  have hb1 : FrB n3 d3 1000 := ⟨by omega, q1, p1, g1⟩
  have B3 := Lib.hid hb1
  have o12 : ∀ {v : Value} {xs : List Nat}, New w1.heap.size v → Off w.heap.size v xs := fun h => h.offs HS1.out _
  have o23 : ∀ {v : Value} {xs : List Nat}, New w2.heap.size v → Off w.heap.size v xs := fun h => h.offs (Nat.lt_of_lt_of_le HS1.out HS2.out) _
  have a1 := (A1.out.gr HG3.out (o12 NA1.out)).gr hg2 (o12 NA1.out)
  have b1 := (D1.out.gr HG3.out (o12 ND1.out)).gr hg2 (o12 ND1.out)
  have a2 := A2.out.gr hg2 (o23 NA2.out)
  have b2 := D2.out.gr hg2 (o23 ND2.out)
  have hk04 : Kp w w4 := ht2.kp
  obtain ⟨a1o, a1l, a1c, rfl⟩ := a1.open3
  obtain ⟨b1o, b1l, b1c, rfl⟩ := b1.open3
  obtain ⟨a2o, a2l, a2c, rfl⟩ := a2.open3
  obtain ⟨b2o, b2l, b2c, rfl⟩ := b2.open3
  obtain ⟨a3o, a3l, a3c, rfl⟩ := s1.open3
  obtain ⟨b3o, b3l, b3c, rfl⟩ := t1.open3
  obtain ⟨U1, hu1, HKU1, HBU1, hzu1⟩ := box2 w4 25 (.slice a1o a1l a1c) (.slice b1o b1l b1c)
  obtain ⟨U2, hu2, HKU2, HBU2, hzu2⟩ := box2 U1 25 (.slice a2o a2l a2c) (.slice b2o b2l b2c)
  obtain ⟨W3, hu3, HKU3, HB3, hzu3⟩ := box2 U2 25 (.slice a3o a3l a3c) (.slice b3o b3l b3c)
  have hsz1 : U1.heap.size = w4.heap.size + 1 := by rw [hu1]; simp
  have hsz2 : U2.heap.size = w4.heap.size + 1 + 1 := by rw [hu2, ← hsz1]; simp
  rw [hsz1] at HBU2
  rw [hsz2] at HB3
  have hk43 := Kp.trans HKU1.out (Kp.trans HKU2.out HKU3.out)
  have HB1 := Lib.hid (HBU1.out.keep (Kp.trans HKU2.out HKU3.out)); have HB2 := Lib.hid (HBU2.out.keep HKU3.out)
  have HN1 := Lib.hid (a1.keep hk43); have HD1 := Lib.hid (b1.keep hk43); have HN2 := Lib.hid (a2.keep hk43); have HD2 := Lib.hid (b2.keep hk43); have HN3 := Lib.hid (s1.keep hk43); have HD3 := Lib.hid (t1.keep hk43)
  have hW3 : W3 = ((w4.alloc (Obj.cells #[.slice a1o a1l a1c, .slice b1o b1l b1c] 25)).alloc (Obj.cells #[.slice a2o a2l a2c, .slice b2o b2l b2c] 25)).alloc (Obj.cells #[.slice a3o a3l a3c, .slice b3o b3l b3c] 25) := by rw [hu3, hu2, hu1]
  have HW3 := Lib.hid hW3
  have K0_3 := Lib.hid (Kp.trans hk04 hk43); have K1_3 := Lib.hid (Kp.refl W3); have K2_3 := Lib.hid (Kp.refl W3); have K3_3 := Lib.hid (Kp.refl W3)
  clear a1 b1 a2 b2 s1 t1 nx1 ny1 p1 q1 r1 g1 ht2 hg2 hb1 o12 o23 hk04 hu1 hu2 hu3 hW3 hzu1 hzu2 hzu3 hsz1 hsz2 hk43 HKU1 HKU2 HKU3 HBU1 HBU2 A1 D1 A2 D2 NA1 ND1 NA2 ND2
  -- the numbers
  have m12 : n1 * n2 ≤ 1000000 := Nat.mul_le_mul B1.out.le1 B2.out.le1
  have e12 : d1 * d2 ≤ 1000000 := Nat.mul_le_mul B1.out.le2 B2.out.le2
  have p12 : 0 < d1 * d2 := Nat.mul_pos B1.out.pos B2.out.pos
  have fP := FrB.low (n := n1 * n2) (d := d1 * d2) p12 m12 e12
  have eP := FracN.low_eq (n1 * n2) (d1 * d2)
  obtain ⟨P, hP⟩ : ∃ P, P = FracN.low (n1 * n2) (d1 * d2) := ⟨_, rfl⟩
  rw [← hP] at fP eP
  obtain ⟨P1, P2⟩ := P
  simp only at fP eP
  have m13 : n1 * d3 + n3 * d1 ≤ 2000000 := Nat.add_le_add (a := n1 * d3) (b := 1000000) (c := n3 * d1) (d := 1000000) (Nat.mul_le_mul B1.out.le1 B3.out.le2) (Nat.mul_le_mul B3.out.le1 B1.out.le2)
  have e13 : d1 * d3 ≤ 1000000 := Nat.mul_le_mul B1.out.le2 B3.out.le2
  have p13 : 0 < d1 * d3 := Nat.mul_pos B1.out.pos B3.out.pos
  have fS := FrB.low (n := n1 * d3 + n3 * d1) (d := d1 * d3) (B := 2000000) p13 m13 (by omega)
  have eS := FracN.low_eq (n1 * d3 + n3 * d1) (d1 * d3)
  obtain ⟨S, hS⟩ : ∃ S, S = FracN.low (n1 * d3 + n3 * d1) (d1 * d3) := ⟨_, rfl⟩
  rw [← hS] at fS eS
  obtain ⟨S1, S2⟩ := S
  simp only at fS eS
  have m32 : n3 * n2 ≤ 1000000 := Nat.mul_le_mul B3.out.le1 B2.out.le1
  have e32 : d3 * d2 ≤ 1000000 := Nat.mul_le_mul B3.out.le2 B2.out.le2
  have p32 : 0 < d3 * d2 := Nat.mul_pos B3.out.pos B2.out.pos
  have fV := FrB.low (n := n3 * n2) (d := d3 * d2) p32 m32 e32
  have eV := FracN.low_eq (n3 * n2) (d3 * d2)
  obtain ⟨V, hV⟩ : ∃ V, V = FracN.low (n3 * n2) (d3 * d2) := ⟨_, rfl⟩
  rw [← hV] at fV eV
  obtain ⟨V1, V2⟩ := V
  simp only at fV eV
  have mU : S1 * n2 ≤ 2000000000 := Nat.mul_le_mul fS.le1 B2.out.le1
  have eU : S2 * d2 ≤ 2000000000 := Nat.mul_le_mul fS.le2 B2.out.le2
  have pU : 0 < S2 * d2 := Nat.mul_pos fS.pos B2.out.pos
  have fU := FrB.low (n := S1 * n2) (d := S2 * d2) pU mU eU
  obtain ⟨U, hU⟩ : ∃ U, U = FracN.low (S1 * n2) (S2 * d2) := ⟨_, rfl⟩
  rw [← hU] at fU
  obtain ⟨U1', U2'⟩ := U
  simp only at fU
  have mW : P1 * V2 + V1 * P2 ≤ 2000000000000 := Nat.add_le_add (a := P1 * V2) (b := 1000000000000) (c := V1 * P2) (d := 1000000000000) (Nat.mul_le_mul fP.le1 fV.le2) (Nat.mul_le_mul fV.le1 fP.le2)
  have eW : P2 * V2 ≤ 1000000000000 := Nat.mul_le_mul fP.le2 fV.le2
  have pW : 0 < P2 * V2 := Nat.mul_pos fP.pos fV.pos
  have HQ : Hid (FracN.low (P1 * d2) (P2 * n2) = (n1, d1)) := FracN.low_is (Nat.mul_pos fP.pos N2P.out) B1.out.pos (FracN.div_back B1.out.pos B2.out.pos eP) B1.out.gcd
  have HDD : Hid (FracN.low (S1 * d3 - n3 * S2) (S2 * d3) = (n1, d1)) := FracN.low_is (Nat.mul_pos fS.pos B3.out.pos) B1.out.pos (FracN.sub_back B1.out.pos B3.out.pos eS) B1.out.gcd
  have HWU : Hid (FracN.low (P1 * V2 + V1 * P2) (P2 * V2) = (U1', U2')) := by show _ = _; rw [hU]; exact FracN.low_unique pW pU (FracN.over B1.out.pos B2.out.pos B3.out.pos eP eV eS).symm
  have HLE : Hid (n3 * S2 ≤ S1 * d3) := FracN.sum_ge (n1 := n3) (d1 := d3) (n3 := n1) (d3 := d1) B3.out.pos B1.out.pos (by rw [Nat.mul_comm d3 d1, eS, Nat.add_comm])
  have HGE : Hid (n1 * S2 ≤ S1 * d1) := FracN.sum_ge B1.out.pos B3.out.pos eS
  have HLP : Hid (P1 * d1 ≤ n1 * P2) := FracN.prod_le B2.out.pos N2L.out eP
  have mQ1 : P1 * d2 ≤ 1000000000 := Nat.mul_le_mul fP.le1 B2.out.le2
  have mQ2 : P2 * n2 ≤ 1000000000 := Nat.mul_le_mul fP.le2 B2.out.le1
  have mD1 : S1 * d3 ≤ 2000000000 := Nat.mul_le_mul fS.le1 B3.out.le2
  have mD2 : S2 * d3 ≤ 2000000000 := Nat.mul_le_mul fS.le2 B3.out.le2
  have BP := Lib.hid fP; have BS := Lib.hid fS; have BV := Lib.hid fV; have BU := Lib.hid fU
  have HP := Lib.hid hP; have HS := Lib.hid hS; have HV := Lib.hid hV; have HU := Lib.hid hU
  have M12 := Lib.hid m12; have M13 := Lib.hid m13; have E13 := Lib.hid e13; have M32 := Lib.hid m32; have MW := Lib.hid mW; have EW := Lib.hid eW
  have MD1 := Lib.hid mD1; have MD2 := Lib.hid mD2
  clear m12 e12 p12 fP eP hP m13 e13 p13 fS eS hS m32 e32 p32 fV eV hV mU eU pU fU hU mW eW pW mQ1 mQ2 mD1 mD2
  have c10 := (HB1.out.keep K1_3.out).c0; have c11 := (HB1.out.keep K1_3.out).c1
  have c20 := (HB2.out.keep K2_3.out).c0; have c21 := (HB2.out.keep K2_3.out).c1
  rw [HW3.out] at c10 c11 c20 c21
  go_wp2_with fail
  rw [← HW3.out]
  clear c10 c11 c20 c21
  refine (Mul_low (a := n1) (b := d1) (c := n2) (d := d2) B1.out.ne B2.out.ne (B1.out.l1 (by decide)) (B1.out.l2 (by decide)) (B2.out.l1 (by decide)) (B2.out.l2 (by decide)) B1.out.gcd B2.out.gcd (by rw [← HP.out]; exact BP.out.l1 (by decide)) (by rw [← HP.out]; exact BP.out.l2 (by decide)) (HN1.out.keep K1_3.out) (HD1.out.keep K1_3.out) (HN2.out.keep K2_3.out) (HD2.out.keep K2_3.out)).mono ?_
  rw [← HP.out]
  intro e wx4 hq
  obtain ⟨⟨v1, v2, rfl, h1, h2, -, -⟩, hk⟩ := hq
  obtain ⟨a4o, a4l, a4c, rfl⟩ := h1.open3
  obtain ⟨b4o, b4l, b4c, rfl⟩ := h2.open3
  obtain ⟨W4, hw, HKs, HB4, hz⟩ := box2 wx4 25 (.slice a4o a4l a4c) (.slice b4o b4l b4c)
  have HN4 := Lib.hid (h1.keep HKs.out); have HD4 := Lib.hid (h2.keep HKs.out); have HW4 := Lib.hid hw
  have K0_4 := Lib.hid (Kp.trans K0_3.out (Kp.trans hk HKs.out))
  have K1_4 := Lib.hid (Kp.trans K1_3.out (Kp.trans hk HKs.out))
  have K2_4 := Lib.hid (Kp.trans K2_3.out (Kp.trans hk HKs.out))
  have K3_4 := Lib.hid (Kp.trans K3_3.out (Kp.trans hk HKs.out))
  have K4_4 := Lib.hid (Kp.refl W4)
  clear h1 h2 hk hw hz HKs
  have c40 := (HB4.out.keep K4_4.out).c0; have c41 := (HB4.out.keep K4_4.out).c1
  have c20 := (HB2.out.keep K2_4.out).c0; have c21 := (HB2.out.keep K2_4.out).c1
  rw [HW4.out] at c40 c41 c20 c21
  go_wp2_with fail
  rw [← HW4.out]
  clear c40 c41 c20 c21
  refine (Div_low (a := P1) (b := P2) (c := n2) (d := d2) BP.out.ne B2.out.ne (Nat.ne_of_gt N2P.out) (BP.out.l1 (by decide)) (BP.out.l2 (by decide)) (B2.out.l1 (by decide)) (B2.out.l2 (by decide)) BP.out.gcd B2.out.gcd (by rw [HQ.out]; exact B1.out.l1 (by decide)) (by rw [HQ.out]; exact B1.out.l2 (by decide)) (HN4.out.keep K4_4.out) (HD4.out.keep K4_4.out) (HN2.out.keep K2_4.out) (HD2.out.keep K2_4.out)).mono ?_
  rw [HQ.out]
  intro e wx5 hq
  obtain ⟨⟨v1, v2, rfl, h1, h2, -, -⟩, hk⟩ := hq
  obtain ⟨a5o, a5l, a5c, rfl⟩ := h1.open3
  obtain ⟨b5o, b5l, b5c, rfl⟩ := h2.open3
  obtain ⟨W5, hw, HKs, HB5, hz⟩ := box2 wx5 25 (.slice a5o a5l a5c) (.slice b5o b5l b5c)
  have HN5 := Lib.hid (h1.keep HKs.out); have HD5 := Lib.hid (h2.keep HKs.out); have HW5 := Lib.hid hw
  have K0_5 := Lib.hid (Kp.trans K0_4.out (Kp.trans hk HKs.out))
  have K1_5 := Lib.hid (Kp.trans K1_4.out (Kp.trans hk HKs.out))
  have K2_5 := Lib.hid (Kp.trans K2_4.out (Kp.trans hk HKs.out))
  have K3_5 := Lib.hid (Kp.trans K3_4.out (Kp.trans hk HKs.out))
  have K4_5 := Lib.hid (Kp.trans K4_4.out (Kp.trans hk HKs.out))
  have K5_5 := Lib.hid (Kp.refl W5)
  clear h1 h2 hk hw hz HKs
  have c10 := (HB1.out.keep K1_5.out).c0; have c11 := (HB1.out.keep K1_5.out).c1
  have c30 := (HB3.out.keep K3_5.out).c0; have c31 := (HB3.out.keep K3_5.out).c1
  rw [HW5.out] at c10 c11 c30 c31
  go_wp2_with fail
  rw [← HW5.out]
  clear c10 c11 c30 c31
  refine (Add_low (a := n1) (b := d1) (c := n3) (d := d3) B1.out.ne B3.out.ne B1.out.gcd B3.out.gcd (lenB M13.out (by decide)) (lenB E13.out (by decide)) (HN1.out.keep K1_5.out) (HD1.out.keep K1_5.out) (HN3.out.keep K3_5.out) (HD3.out.keep K3_5.out)).mono ?_
  rw [← HS.out]
  intro e wx6 hq
  obtain ⟨⟨v1, v2, rfl, h1, h2, -, -⟩, hk⟩ := hq
  obtain ⟨a6o, a6l, a6c, rfl⟩ := h1.open3
  obtain ⟨b6o, b6l, b6c, rfl⟩ := h2.open3
  obtain ⟨W6, hw, HKs, HB6, hz⟩ := box2 wx6 25 (.slice a6o a6l a6c) (.slice b6o b6l b6c)
  have HN6 := Lib.hid (h1.keep HKs.out); have HD6 := Lib.hid (h2.keep HKs.out); have HW6 := Lib.hid hw
  have K0_6 := Lib.hid (Kp.trans K0_5.out (Kp.trans hk HKs.out))
  have K1_6 := Lib.hid (Kp.trans K1_5.out (Kp.trans hk HKs.out))
  have K2_6 := Lib.hid (Kp.trans K2_5.out (Kp.trans hk HKs.out))
  have K3_6 := Lib.hid (Kp.trans K3_5.out (Kp.trans hk HKs.out))
  have K4_6 := Lib.hid (Kp.trans K4_5.out (Kp.trans hk HKs.out))
  have K5_6 := Lib.hid (Kp.trans K5_5.out (Kp.trans hk HKs.out))
  have K6_6 := Lib.hid (Kp.refl W6)
  clear h1 h2 hk hw hz HKs
  have c60 := (HB6.out.keep K6_6.out).c0; have c61 := (HB6.out.keep K6_6.out).c1
  have c30 := (HB3.out.keep K3_6.out).c0; have c31 := (HB3.out.keep K3_6.out).c1
  rw [HW6.out] at c60 c61 c30 c31
  go_wp2_with fail
  rw [← HW6.out]
  clear c60 c61 c30 c31
  refine (Sub_low (a := S1) (b := S2) (c := n3) (d := d3) BS.out.ne B3.out.ne BS.out.gcd B3.out.gcd HLE.out (lenB MD1.out (by decide)) (lenB (B := 4000000000) (by have := MD2.out; omega) (by decide)) (HN6.out.keep K6_6.out) (HD6.out.keep K6_6.out) (HN3.out.keep K3_6.out) (HD3.out.keep K3_6.out)).mono ?_
  rw [HDD.out]
  intro e wx7 hq
  obtain ⟨⟨v1, v2, rfl, h1, h2, -, -⟩, hk⟩ := hq
  obtain ⟨a7o, a7l, a7c, rfl⟩ := h1.open3
  obtain ⟨b7o, b7l, b7c, rfl⟩ := h2.open3
  obtain ⟨W7, hw, HKs, HB7, hz⟩ := box2 wx7 25 (.slice a7o a7l a7c) (.slice b7o b7l b7c)
  have HN7 := Lib.hid (h1.keep HKs.out); have HD7 := Lib.hid (h2.keep HKs.out); have HW7 := Lib.hid hw
  have K0_7 := Lib.hid (Kp.trans K0_6.out (Kp.trans hk HKs.out))
  have K1_7 := Lib.hid (Kp.trans K1_6.out (Kp.trans hk HKs.out))
  have K2_7 := Lib.hid (Kp.trans K2_6.out (Kp.trans hk HKs.out))
  have K3_7 := Lib.hid (Kp.trans K3_6.out (Kp.trans hk HKs.out))
  have K4_7 := Lib.hid (Kp.trans K4_6.out (Kp.trans hk HKs.out))
  have K5_7 := Lib.hid (Kp.trans K5_6.out (Kp.trans hk HKs.out))
  have K6_7 := Lib.hid (Kp.trans K6_6.out (Kp.trans hk HKs.out))
  have K7_7 := Lib.hid (Kp.refl W7)
  clear h1 h2 hk hw hz HKs
  have c60 := (HB6.out.keep K6_7.out).c0; have c61 := (HB6.out.keep K6_7.out).c1
  have c20 := (HB2.out.keep K2_7.out).c0; have c21 := (HB2.out.keep K2_7.out).c1
  rw [HW7.out] at c60 c61 c20 c21
  go_wp2_with fail
  rw [← HW7.out]
  clear c60 c61 c20 c21
  refine (Mul_low (a := S1) (b := S2) (c := n2) (d := d2) BS.out.ne B2.out.ne (BS.out.l1 (by decide)) (BS.out.l2 (by decide)) (B2.out.l1 (by decide)) (B2.out.l2 (by decide)) BS.out.gcd B2.out.gcd (by rw [← HU.out]; exact BU.out.l1 (by decide)) (by rw [← HU.out]; exact BU.out.l2 (by decide)) (HN6.out.keep K6_7.out) (HD6.out.keep K6_7.out) (HN2.out.keep K2_7.out) (HD2.out.keep K2_7.out)).mono ?_
  rw [← HU.out]
  intro e wx8 hq
  obtain ⟨⟨v1, v2, rfl, h1, h2, -, -⟩, hk⟩ := hq
  obtain ⟨a8o, a8l, a8c, rfl⟩ := h1.open3
  obtain ⟨b8o, b8l, b8c, rfl⟩ := h2.open3
  obtain ⟨W8, hw, HKs, HB8, hz⟩ := box2 wx8 25 (.slice a8o a8l a8c) (.slice b8o b8l b8c)
  have HN8 := Lib.hid (h1.keep HKs.out); have HD8 := Lib.hid (h2.keep HKs.out); have HW8 := Lib.hid hw
  have K0_8 := Lib.hid (Kp.trans K0_7.out (Kp.trans hk HKs.out))
  have K1_8 := Lib.hid (Kp.trans K1_7.out (Kp.trans hk HKs.out))
  have K2_8 := Lib.hid (Kp.trans K2_7.out (Kp.trans hk HKs.out))
  have K3_8 := Lib.hid (Kp.trans K3_7.out (Kp.trans hk HKs.out))
  have K4_8 := Lib.hid (Kp.trans K4_7.out (Kp.trans hk HKs.out))
  have K5_8 := Lib.hid (Kp.trans K5_7.out (Kp.trans hk HKs.out))
  have K6_8 := Lib.hid (Kp.trans K6_7.out (Kp.trans hk HKs.out))
  have K7_8 := Lib.hid (Kp.trans K7_7.out (Kp.trans hk HKs.out))
  have K8_8 := Lib.hid (Kp.refl W8)
  clear h1 h2 hk hw hz HKs
  have c30 := (HB3.out.keep K3_8.out).c0; have c31 := (HB3.out.keep K3_8.out).c1
  have c20 := (HB2.out.keep K2_8.out).c0; have c21 := (HB2.out.keep K2_8.out).c1
  rw [HW8.out] at c30 c31 c20 c21
  go_wp2_with fail
  rw [← HW8.out]
  clear c30 c31 c20 c21
  refine (Mul_low (a := n3) (b := d3) (c := n2) (d := d2) B3.out.ne B2.out.ne (B3.out.l1 (by decide)) (B3.out.l2 (by decide)) (B2.out.l1 (by decide)) (B2.out.l2 (by decide)) B3.out.gcd B2.out.gcd (by rw [← HV.out]; exact BV.out.l1 (by decide)) (by rw [← HV.out]; exact BV.out.l2 (by decide)) (HN3.out.keep K3_8.out) (HD3.out.keep K3_8.out) (HN2.out.keep K2_8.out) (HD2.out.keep K2_8.out)).mono ?_
  rw [← HV.out]
  intro e wx9 hq
  obtain ⟨⟨v1, v2, rfl, h1, h2, -, -⟩, hk⟩ := hq
  obtain ⟨a9o, a9l, a9c, rfl⟩ := h1.open3
  obtain ⟨b9o, b9l, b9c, rfl⟩ := h2.open3
  obtain ⟨W9, hw, HKs, HB9, hz⟩ := box2 wx9 25 (.slice a9o a9l a9c) (.slice b9o b9l b9c)
  have HN9 := Lib.hid (h1.keep HKs.out); have HD9 := Lib.hid (h2.keep HKs.out); have HW9 := Lib.hid hw
  have K0_9 := Lib.hid (Kp.trans K0_8.out (Kp.trans hk HKs.out))
  have K1_9 := Lib.hid (Kp.trans K1_8.out (Kp.trans hk HKs.out))
  have K2_9 := Lib.hid (Kp.trans K2_8.out (Kp.trans hk HKs.out))
  have K3_9 := Lib.hid (Kp.trans K3_8.out (Kp.trans hk HKs.out))
  have K4_9 := Lib.hid (Kp.trans K4_8.out (Kp.trans hk HKs.out))
  have K5_9 := Lib.hid (Kp.trans K5_8.out (Kp.trans hk HKs.out))
  have K6_9 := Lib.hid (Kp.trans K6_8.out (Kp.trans hk HKs.out))
  have K7_9 := Lib.hid (Kp.trans K7_8.out (Kp.trans hk HKs.out))
  have K8_9 := Lib.hid (Kp.trans K8_8.out (Kp.trans hk HKs.out))
  have K9_9 := Lib.hid (Kp.refl W9)
  clear h1 h2 hk hw hz HKs
  have c40 := (HB4.out.keep K4_9.out).c0; have c41 := (HB4.out.keep K4_9.out).c1
  have c90 := (HB9.out.keep K9_9.out).c0; have c91 := (HB9.out.keep K9_9.out).c1
  rw [HW9.out] at c40 c41 c90 c91
  go_wp2_with fail
  rw [← HW9.out]
  clear c40 c41 c90 c91
  refine (Add_low (a := P1) (b := P2) (c := V1) (d := V2) BP.out.ne BV.out.ne BP.out.gcd BV.out.gcd (lenB MW.out (by decide)) (lenB EW.out (by decide)) (HN4.out.keep K4_9.out) (HD4.out.keep K4_9.out) (HN9.out.keep K9_9.out) (HD9.out.keep K9_9.out)).mono ?_
  rw [HWU.out]
  intro e wx10 hq
  obtain ⟨⟨v1, v2, rfl, h1, h2, -, -⟩, hk⟩ := hq
  obtain ⟨a10o, a10l, a10c, rfl⟩ := h1.open3
  obtain ⟨b10o, b10l, b10c, rfl⟩ := h2.open3
  obtain ⟨W10, hw, HKs, HB10, hz⟩ := box2 wx10 25 (.slice a10o a10l a10c) (.slice b10o b10l b10c)
  have HN10 := Lib.hid (h1.keep HKs.out); have HD10 := Lib.hid (h2.keep HKs.out); have HW10 := Lib.hid hw
  have K0_10 := Lib.hid (Kp.trans K0_9.out (Kp.trans hk HKs.out))
  have K1_10 := Lib.hid (Kp.trans K1_9.out (Kp.trans hk HKs.out))
  have K2_10 := Lib.hid (Kp.trans K2_9.out (Kp.trans hk HKs.out))
  have K3_10 := Lib.hid (Kp.trans K3_9.out (Kp.trans hk HKs.out))
  have K4_10 := Lib.hid (Kp.trans K4_9.out (Kp.trans hk HKs.out))
  have K5_10 := Lib.hid (Kp.trans K5_9.out (Kp.trans hk HKs.out))
  have K6_10 := Lib.hid (Kp.trans K6_9.out (Kp.trans hk HKs.out))
  have K7_10 := Lib.hid (Kp.trans K7_9.out (Kp.trans hk HKs.out))
  have K8_10 := Lib.hid (Kp.trans K8_9.out (Kp.trans hk HKs.out))
  have K9_10 := Lib.hid (Kp.trans K9_9.out (Kp.trans hk HKs.out))
  have K10_10 := Lib.hid (Kp.refl W10)
  clear h1 h2 hk hw hz HKs
  have c50 := (HB5.out.keep K5_10.out).c0; have c51 := (HB5.out.keep K5_10.out).c1
  have c10 := (HB1.out.keep K1_10.out).c0; have c11 := (HB1.out.keep K1_10.out).c1
  rw [HW10.out] at c50 c51 c10 c11
  go_wp2_with fail
  rw [← HW10.out]
  clear c50 c51 c10 c11
  refine (sameFrac_eq (p := (n1, d1)) (HN5.out.keep K5_10.out) (HD5.out.keep K5_10.out) (HN1.out.keep K1_10.out) (HD1.out.keep K1_10.out)).mono ?_
  rintro e W11 ⟨rfl, hk⟩
  have K0_11 := Lib.hid (Kp.trans K0_10.out hk)
  have K1_11 := Lib.hid (Kp.trans K1_10.out hk)
  have K2_11 := Lib.hid (Kp.trans K2_10.out hk)
  have K3_11 := Lib.hid (Kp.trans K3_10.out hk)
  have K4_11 := Lib.hid (Kp.trans K4_10.out hk)
  have K5_11 := Lib.hid (Kp.trans K5_10.out hk)
  have K6_11 := Lib.hid (Kp.trans K6_10.out hk)
  have K7_11 := Lib.hid (Kp.trans K7_10.out hk)
  have K8_11 := Lib.hid (Kp.trans K8_10.out hk)
  have K9_11 := Lib.hid (Kp.trans K9_10.out hk)
  have K10_11 := Lib.hid (Kp.trans K10_10.out hk)
  have K11_11 := Lib.hid (Kp.refl W11)
  clear hk
  have c70 := (HB7.out.keep K7_11.out).c0; have c71 := (HB7.out.keep K7_11.out).c1
  have c10 := (HB1.out.keep K1_11.out).c0; have c11 := (HB1.out.keep K1_11.out).c1
  go_wp2_with fail
  clear c70 c71 c10 c11
  refine (sameFrac_eq (p := (n1, d1)) (HN7.out.keep K7_11.out) (HD7.out.keep K7_11.out) (HN1.out.keep K1_11.out) (HD1.out.keep K1_11.out)).mono ?_
  rintro e W12 ⟨rfl, hk⟩
  have K0_12 := Lib.hid (Kp.trans K0_11.out hk)
  have K1_12 := Lib.hid (Kp.trans K1_11.out hk)
  have K2_12 := Lib.hid (Kp.trans K2_11.out hk)
  have K3_12 := Lib.hid (Kp.trans K3_11.out hk)
  have K4_12 := Lib.hid (Kp.trans K4_11.out hk)
  have K5_12 := Lib.hid (Kp.trans K5_11.out hk)
  have K6_12 := Lib.hid (Kp.trans K6_11.out hk)
  have K7_12 := Lib.hid (Kp.trans K7_11.out hk)
  have K8_12 := Lib.hid (Kp.trans K8_11.out hk)
  have K9_12 := Lib.hid (Kp.trans K9_11.out hk)
  have K10_12 := Lib.hid (Kp.trans K10_11.out hk)
  have K11_12 := Lib.hid (Kp.trans K11_11.out hk)
  have K12_12 := Lib.hid (Kp.refl W12)
  clear hk
  have c80 := (HB8.out.keep K8_12.out).c0; have c81 := (HB8.out.keep K8_12.out).c1
  have c100 := (HB10.out.keep K10_12.out).c0; have c101 := (HB10.out.keep K10_12.out).c1
  go_wp2_with fail
  clear c80 c81 c100 c101
  refine (sameFrac_eq (p := (U1', U2')) (HN8.out.keep K8_12.out) (HD8.out.keep K8_12.out) (HN10.out.keep K10_12.out) (HD10.out.keep K10_12.out)).mono ?_
  rintro e W13 ⟨rfl, hk⟩
  have K0_13 := Lib.hid (Kp.trans K0_12.out hk)
  have K1_13 := Lib.hid (Kp.trans K1_12.out hk)
  have K2_13 := Lib.hid (Kp.trans K2_12.out hk)
  have K3_13 := Lib.hid (Kp.trans K3_12.out hk)
  have K4_13 := Lib.hid (Kp.trans K4_12.out hk)
  have K5_13 := Lib.hid (Kp.trans K5_12.out hk)
  have K6_13 := Lib.hid (Kp.trans K6_12.out hk)
  have K7_13 := Lib.hid (Kp.trans K7_12.out hk)
  have K8_13 := Lib.hid (Kp.trans K8_12.out hk)
  have K9_13 := Lib.hid (Kp.trans K9_12.out hk)
  have K10_13 := Lib.hid (Kp.trans K10_12.out hk)
  have K11_13 := Lib.hid (Kp.trans K11_12.out hk)
  have K12_13 := Lib.hid (Kp.trans K12_12.out hk)
  have K13_13 := Lib.hid (Kp.refl W13)
  clear hk
  have c60 := (HB6.out.keep K6_13.out).c0; have c61 := (HB6.out.keep K6_13.out).c1
  have c10 := (HB1.out.keep K1_13.out).c0; have c11 := (HB1.out.keep K1_13.out).c1
  go_wp2_with fail
  clear c60 c61 c10 c11
  refine (Compare_n (a := S1) (b := S2) (c := n1) (d := d1) BS.out.ne B1.out.ne (BS.out.l1 (by decide)) (BS.out.l2 (by decide)) (B1.out.l1 (by decide)) (B1.out.l2 (by decide)) BS.out.gcd B1.out.gcd (HN6.out.keep K6_13.out) (HD6.out.keep K6_13.out) (HN1.out.keep K1_13.out) (HD1.out.keep K1_13.out)).mono ?_
  have hT : decide (0 ≤ (FracN.ord (S1 * d1) (n1 * S2))) = true := by
    have := HGE.out
    refine decide_eq_true ?_
    unfold FracN.ord
    rw [if_neg (by omega)]; split <;> decide
  obtain ⟨T, eT⟩ : ∃ T, T = FracN.ord (S1 * d1) (n1 * S2) := ⟨_, rfl⟩
  rw [← eT] at hT ⊢
  clear eT
  rintro e W14 ⟨rfl, hk⟩
  have K0_14 := Lib.hid (Kp.trans K0_13.out hk)
  have K1_14 := Lib.hid (Kp.trans K1_13.out hk)
  have K2_14 := Lib.hid (Kp.trans K2_13.out hk)
  have K3_14 := Lib.hid (Kp.trans K3_13.out hk)
  have K4_14 := Lib.hid (Kp.trans K4_13.out hk)
  have K5_14 := Lib.hid (Kp.trans K5_13.out hk)
  have K6_14 := Lib.hid (Kp.trans K6_13.out hk)
  have K7_14 := Lib.hid (Kp.trans K7_13.out hk)
  have K8_14 := Lib.hid (Kp.trans K8_13.out hk)
  have K9_14 := Lib.hid (Kp.trans K9_13.out hk)
  have K10_14 := Lib.hid (Kp.trans K10_13.out hk)
  have K11_14 := Lib.hid (Kp.trans K11_13.out hk)
  have K12_14 := Lib.hid (Kp.trans K12_13.out hk)
  have K13_14 := Lib.hid (Kp.trans K13_13.out hk)
  have K14_14 := Lib.hid (Kp.refl W14)
  clear hk
  have c40 := (HB4.out.keep K4_14.out).c0; have c41 := (HB4.out.keep K4_14.out).c1
  have c10 := (HB1.out.keep K1_14.out).c0; have c11 := (HB1.out.keep K1_14.out).c1
  go_wp2_with fail
  clear c40 c41 c10 c11
  refine (Compare_n (a := P1) (b := P2) (c := n1) (d := d1) BP.out.ne B1.out.ne (BP.out.l1 (by decide)) (BP.out.l2 (by decide)) (B1.out.l1 (by decide)) (B1.out.l2 (by decide)) BP.out.gcd B1.out.gcd (HN4.out.keep K4_14.out) (HD4.out.keep K4_14.out) (HN1.out.keep K1_14.out) (HD1.out.keep K1_14.out)).mono ?_
  have hT : decide ((FracN.ord (P1 * d1) (n1 * P2)) ≤ 0) = true := by
    have := HLP.out
    refine decide_eq_true ?_
    unfold FracN.ord
    split
    · decide
    · rw [if_neg (by omega)]; decide
  obtain ⟨T, eT⟩ : ∃ T, T = FracN.ord (P1 * d1) (n1 * P2) := ⟨_, rfl⟩
  rw [← eT] at hT ⊢
  clear eT
  rintro e W15 ⟨rfl, hk⟩
  have K0_15 := Lib.hid (Kp.trans K0_14.out hk)
  have K1_15 := Lib.hid (Kp.trans K1_14.out hk)
  have K2_15 := Lib.hid (Kp.trans K2_14.out hk)
  have K3_15 := Lib.hid (Kp.trans K3_14.out hk)
  have K4_15 := Lib.hid (Kp.trans K4_14.out hk)
  have K5_15 := Lib.hid (Kp.trans K5_14.out hk)
  have K6_15 := Lib.hid (Kp.trans K6_14.out hk)
  have K7_15 := Lib.hid (Kp.trans K7_14.out hk)
  have K8_15 := Lib.hid (Kp.trans K8_14.out hk)
  have K9_15 := Lib.hid (Kp.trans K9_14.out hk)
  have K10_15 := Lib.hid (Kp.trans K10_14.out hk)
  have K11_15 := Lib.hid (Kp.trans K11_14.out hk)
  have K12_15 := Lib.hid (Kp.trans K12_14.out hk)
  have K13_15 := Lib.hid (Kp.trans K13_14.out hk)
  have K14_15 := Lib.hid (Kp.trans K14_14.out hk)
  have K15_15 := Lib.hid (Kp.refl W15)
  clear hk
  go_wp2_with fail
  refine (fawake_any (HT.out.keep K0_15.out)).mono ?_
  rintro e W16 ⟨rfl, hk⟩
  have K0_16 := Lib.hid (Kp.trans K0_15.out hk)
  have K1_16 := Lib.hid (Kp.trans K1_15.out hk)
  have K2_16 := Lib.hid (Kp.trans K2_15.out hk)
  have K3_16 := Lib.hid (Kp.trans K3_15.out hk)
  have K4_16 := Lib.hid (Kp.trans K4_15.out hk)
  have K5_16 := Lib.hid (Kp.trans K5_15.out hk)
  have K6_16 := Lib.hid (Kp.trans K6_15.out hk)
  have K7_16 := Lib.hid (Kp.trans K7_15.out hk)
  have K8_16 := Lib.hid (Kp.trans K8_15.out hk)
  have K9_16 := Lib.hid (Kp.trans K9_15.out hk)
  have K10_16 := Lib.hid (Kp.trans K10_15.out hk)
  have K11_16 := Lib.hid (Kp.trans K11_15.out hk)
  have K12_16 := Lib.hid (Kp.trans K12_15.out hk)
  have K13_16 := Lib.hid (Kp.trans K13_15.out hk)
  have K14_16 := Lib.hid (Kp.trans K14_15.out hk)
  have K15_16 := Lib.hid (Kp.trans K15_15.out hk)
  have K16_16 := Lib.hid (Kp.refl W16)
  clear hk
  go_wp2_with fail
  go_ret
  exact ⟨rfl, K0_16.out⟩
end Go.Proofs.YtgpochhndjadhaaGreatDoor
