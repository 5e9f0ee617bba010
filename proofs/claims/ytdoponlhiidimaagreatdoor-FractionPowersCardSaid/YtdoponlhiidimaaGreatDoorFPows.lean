/- The law on powers and sums of fractions: it returns true for all lists of digits, all ints and all lists of ints. Condition: the library's table of powers of ten holds what its text lays. -/
import Derived.Test.YtdoponlhiidimaaGreatDoorSumC
import Derived.Test.YtdoponlhiidimaaGreatDoorPowB
import Derived.Test.YtdoponlhiidimaaGreatDoorFComp
import Derived.Test.YtdoponlhiidimaaGreatDoorAwake
namespace Go.Proofs.YtdoponlhiidimaaGreatDoor
open Go.RowKit LimbN
set_option linter.unusedVariables false
set_option linter.unusedSimpArgs false

set_option maxRecDepth 100000 in
theorem TChance_any {w0 w : World} {g at' : Nat} (ht : Tp w0 w g at') (ha : at' < 1000000) :
    Calls Tryz.prog 10 #[.pointer (some ⟨g, 0, none⟩), .int .i64 1, .int .i64 8] w fun e w' => (∃ b : Bool, e = .returned (.bool b)) ∧ Tp w0 w' g (at' + 1) ∧ Only g w w' := by
  have HT := Lib.hid ht
  clear ht
  go_enter Tryz.func10, Tryz.ntmps10
  go_wp2_with fail
  refine (TNext_any HT.out ha 8 (by omega) (by omega)).mono ?_
  rintro e w1 ⟨⟨r, hr, rfl⟩, ht1, ho1⟩
  have HT1 := Lib.hid ht1; have HO1 := Lib.hid ho1
  clear ht1 ho1
  go_wp2_with fail
  go_ret
  exact ⟨⟨_, rfl⟩, HT1.out, HO1.out⟩
/-- How the law's memory stands while the list is drawn. -/
structure PowI (w0 w6 : World) (g4 B : Nat) (wy : World) (lv : Value) (ts : List QItem) (ps : List (Nat × Nat)) : Prop where
  row : QRow B wy lv ts
  nm : QNum ts ps
  nw : ∀ t ∈ ts, New B t.vn ∧ New B t.vd
  tp : Tp w0 wy g4 (1 + 2 * ps.length)
  gr : Gr g4 w6 wy
theorem grow_own {B : Nat} {W : World} {v : Value} {ts : List QItem} (h : QRow B W v ts) : ∀ r, v.ownBlock = some r → B ≤ r := fun r hr => (h.form.2 r hr).1
set_option maxRecDepth 100000 in
set_option maxHeartbeats 16000000 in
theorem fpowers_any {xs ys : List Nat} {vx vy vl : Value} {zs : List Int} {w : World} (hx : Sl w vx xs) (hy : Sl w vy ys) (o : Int) (ho : -9223372036854775808 ≤ o ∧ o ≤ 9223372036854775807) (hl : SlI w vl zs) (htab : Tab w) :
    Calls Tryz.prog 3 #[vx, vy, .int .i64 o, vl] w fun e w' => e = .returned (.bool true) ∧ Kp w w' := by
  have HT := Lib.hid htab; have HX := Lib.hid hx; have HY := Lib.hid hy; have HL := Lib.hid hl; have HO := Lib.hid ho
  obtain ⟨⟨lo, lc, rfl, -⟩, -, -⟩ := hl
  clear htab hx hy
  go_enter Tryz.func3, Tryz.ntmps3
  go_wp2_with fail
  refine (ffrac_any HX.out HY.out o HO.out).mono ?_
  rintro e w1 ⟨⟨v1, v2, rfl, h1, h2⟩, hk⟩
  obtain ⟨P, eP⟩ : ∃ P, P = frN xs ys o := ⟨_, rfl⟩
  obtain ⟨Q, eQ⟩ : ∃ Q, Q = frD xs ys o := ⟨_, rfl⟩
  rw [← eP] at h1
  rw [← eQ] at h2
  have lP : P.length ≤ 8 := by rw [eP]; exact frN_len HX.out.lt o
  have lQ : Q.length ≤ 8 := by rw [eQ]; exact frD_len HY.out.lt o
  obtain ⟨EA, pA, hA⟩ := pow_both h1.lt h2.lt lP lQ o
  obtain ⟨ao, al, ac, rfl⟩ := h1.open3
  obtain ⟨bo, bl, bc, rfl⟩ := h2.open3
  obtain ⟨W, hW, HKW, HB7, hzW⟩ := box2 w1 26 (.slice ao al ac) (.slice bo bl bc)
  have HA := Lib.hid hA; have SA := Lib.hid (h1.keep HKW.out); have SB := Lib.hid (h2.keep HKW.out); have K0 := Lib.hid (Kp.trans hk HKW.out); have HW := Lib.hid hW
  obtain ⟨g1, eg1⟩ : ∃ g1, g1 = w1.heap.size := ⟨_, rfl⟩
  rw [← eg1] at HB7
  have EG1 := Lib.hid eg1
  have TA := HB7
  have GA : Hid (g1 < W.heap.size) := HB7.out.lt
  clear h1 h2 hk eP eQ lP lQ hA hW HKW hzW eg1 HB7
  have c0 := TA.out.c0; have c1 := TA.out.c1
  rw [HW.out] at c0 c1
  go_wp2_with fail
  rw [← HW.out, ← EG1.out]
  clear c0 c1
  refine (HA.out _ _ _ SA.out SB.out).1.mono ?_
  intro e x1 hq
  obtain ⟨⟨v1, v2, rfl, h1, h2, -, -⟩, hk⟩ := hq
  obtain ⟨po, pl, pc, rfl⟩ := h1.open3
  obtain ⟨ro, rl, rc, rfl⟩ := h2.open3
  obtain ⟨W1, hW1, HKs, HBP, hz⟩ := box2 x1 26 (.slice po pl pc) (.slice ro rl rc)
  obtain ⟨g2, eg2⟩ : ∃ g2, g2 = x1.heap.size := ⟨_, rfl⟩
  rw [← eg2] at HBP
  have HW1 := Lib.hid hW1; have EG2 := Lib.hid eg2
  have G2 : Hid (W.heap.size ≤ g2) := by show _ ≤ _; rw [eg2]; exact hk.size
  have KB1 := Lib.hid (Kp.trans hk HKs.out)
  have S1 := Lib.hid (h1.keep HKs.out); have S2 := Lib.hid (h2.keep HKs.out)
  have G2b : Hid (g2 < W1.heap.size) := HBP.out.lt
  clear h1 h2 hk hW1 HKs hz eg2
  have c0 := (TA.out.keep KB1.out).c0; have c1 := (TA.out.keep KB1.out).c1
  rw [HW1.out] at c0 c1
  go_wp2_with fail
  rw [← HW1.out, ← EG2.out]
  clear c0 c1
  refine (HA.out _ _ _ (SA.out.keep KB1.out) (SB.out.keep KB1.out)).2.mono ?_
  intro e x2 hq
  obtain ⟨⟨v1, v2, rfl, h1, h2, -, -⟩, hk⟩ := hq
  obtain ⟨qo, ql, qc, rfl⟩ := h1.open3
  obtain ⟨uo, ul, uc, rfl⟩ := h2.open3
  obtain ⟨W2, hW2, HKs, HBQ, hz⟩ := box2 x2 26 (.slice qo ql qc) (.slice uo ul uc)
  obtain ⟨g3, eg3⟩ : ∃ g3, g3 = x2.heap.size := ⟨_, rfl⟩
  rw [← eg3] at HBQ
  have HW2 := Lib.hid hW2; have EG3 := Lib.hid eg3
  have G3 : Hid (W1.heap.size ≤ g3) := by show _ ≤ _; rw [eg3]; exact hk.size
  have hk2 := Kp.trans hk HKs.out
  have KB2 := Lib.hid (Kp.trans KB1.out hk2)
  have S3 := Lib.hid (h1.keep HKs.out); have S4 := Lib.hid (h2.keep HKs.out)
  have S1' := Lib.hid (S1.out.keep hk2); have S2' := Lib.hid (S2.out.keep hk2)
  have TP2 := Lib.hid (HBP.out.keep hk2)
  have G3b : Hid (g3 < W2.heap.size) := HBQ.out.lt
  clear h1 h2 hk hk2 hW2 HKs hz eg3 S1 S2 HBP
  have c0 := TP2.out.c0; have c1 := TP2.out.c1; have d0 := HBQ.out.c0; have d1 := HBQ.out.c1
  rw [HW2.out] at c0 c1 d0 d1
  go_wp2_with fail
  rw [← HW2.out, ← EG3.out]
  clear c0 c1 d0 d1
  refine (fsame_eq (E := EA) (p := pA) S1'.out S2'.out S3.out S4.out).mono ?_
  rintro e w4 ⟨rfl, hk⟩
  obtain ⟨W5, hW5⟩ : ∃ W5, W5 = w4.alloc (Obj.cells #[.slice lo zs.length lc, .int .i64 0] 34) := ⟨_, rfl⟩
  obtain ⟨g4, eg4⟩ : ∃ g4, g4 = w4.heap.size := ⟨_, rfl⟩
  have k45 : Kp w4 W5 := by rw [hW5]; exact Kp.alloc (Kp.refl _) _
  have K25 := Lib.hid (Kp.trans hk k45)
  have K05 := Lib.hid (Kp.trans K0.out (Kp.trans KB2.out (Kp.trans hk k45)))
  have hb5 : Blk W5 g4 34 #[.slice lo zs.length lc, .int .i64 ((0 : Nat) : Int)] := by rw [hW5, eg4]; exact Blk.new _ _ _
  have G4 : Hid (W2.heap.size ≤ g4) := by show _ ≤ _; rw [eg4]; exact hk.size
  have TP5 : Hid (Tp w W5 g4 0) := ⟨⟨_, _, _, zs, HL.out, hb5⟩, K05.out, by have := K0.out.size; have := KB2.out.size; have := G4.out; omega⟩
  have G45 : Hid (g4 < W5.heap.size) := hb5.lt
  have HW5 := Lib.hid hW5; have EG4 := Lib.hid eg4
  obtain ⟨zl, ezl⟩ : ∃ zl, zl = zs.length := ⟨_, rfl⟩
  rw [← ezl] at HW5 ⊢
  clear hk hW5 eg4 k45 hb5 S1' S2' S3 S4 ezl HL
  go_wp2_with fail
  rw [← HW5.out, ← EG4.out]
  refine (TNext_any TP5.out (by omega) 9 (by omega) (by omega)).mono ?_
  rintro e w6 ⟨⟨r, hr, rfl⟩, ht6, ho6⟩
  obtain ⟨B, eB⟩ : ∃ B, B = w6.heap.size := ⟨_, rfl⟩
  have HT6 := Lib.hid ht6; have HO6 := Lib.hid ho6; have EB := Lib.hid eB
  have G4B : Hid (g4 < B) := by show _ < _; have := G45.out; have := ho6.size; omega
  clear ht6 ho6 eB
  go_wp2_with fail
  go_loopw [15, 16] (fun lv iv wy => ∃ (c : Nat) (ts : List QItem) (ps : List (Nat × Nat)) (ao : Option Addr) (cc : Nat), lv = .slice ao ts.length cc ∧ iv = .int .i64 c ∧ c + ps.length ≤ 8 ∧ PowI w w6 g4 B wy lv ts ps) (fun _ iv _ => (intOf iv).toNat)
  case atStart => exact ⟨r, [], [], none, 0, rfl, rfl, by simp; omega, QRow.start (by have := EB.out; omega), QNum.nil, fun t ht => by simp at ht, HT6.out, Gr.refl _ _⟩
  case round =>
    obtain ⟨c, ts, ps, eo, ec, rfl, rfl, hc, hI⟩ := hrel
    have HI := Lib.hid hI
    clear hI
    have HB6 : Hid (B ≤ wr.heap.size) := HI.out.row.le
    by_cases hc0 : 0 < c
    · obtain ⟨tl, etl⟩ : ∃ tl, tl = ts.length := ⟨_, rfl⟩
      rw [← etl] at HI ⊢
      have ETL := Lib.hid etl
      clear etl
      go_wp2_with fail
      refine (Chance_any HI.out.tp (by omega) (by have := HB6.out; have := G4B.out; omega)).mono ?_
      intro e x4 hq
      obtain ⟨⟨n, d, vn, vd, rfl, s1, s2, n1, n2, hd0, hd1, hnd, -, hgc⟩, tp4, gr4⟩ := hq
      obtain ⟨no, nl, nc, rfl⟩ := s1.open3
      obtain ⟨do', dl, dc, rfl⟩ := s2.open3
      obtain ⟨X, hX⟩ : ∃ X, X = x4.alloc (Obj.cells #[.slice no nl nc, .slice do' dl dc] 26) := ⟨_, rfl⟩
      have kX : Kp x4 X := by rw [hX]; exact Kp.alloc (Kp.refl _) _
      have r4 : QRow B X (.slice eo tl ec) ts := (HI.out.row.gr gr4 G4B.out HI.out.nw).keep kX
      have bX : Blk X x4.heap.size 26 (qcells [⟨limbs n, limbs d, .slice no nl nc, .slice do' dl dc⟩]).toArray := by rw [hX]; exact Blk.new _ _ _
      have GOOD : Hid (QGood (n, d)) := ⟨hd0, hd1, hnd, hgc⟩
      have R4 := Lib.hid r4; have CX := Lib.hid bX.qrow; have TP4 := Lib.hid (tp4.keep kX); have GR4 := Lib.hid (Gr.trans HI.out.gr (Gr.trans gr4 (kX.gr g4)))
      have SX : Hid (∀ t ∈ ([⟨limbs n, limbs d, .slice no nl nc, .slice do' dl dc⟩] : List QItem), (Sl X t.vn t.n ∧ Sl X t.vd t.d) ∧ ∀ g, (Value.slice eo tl ec).ownBlock = some g → Off g t.vn t.n ∧ Off g t.vd t.d) := by
        intro t ht
        obtain rfl := List.mem_singleton.1 ht
        exact ⟨⟨s1.keep kX, s2.keep kX⟩, fun g hg => ⟨n1.offs (HI.out.row.form.2 g hg).2 _, n2.offs (HI.out.row.form.2 g hg).2 _⟩⟩
      have N1 := Lib.hid (n1.mono HB6.out); have N2 := Lib.hid (n2.mono HB6.out)
      have HX := Lib.hid hX
      have LT : Hid (ts.length ≤ 100000) := by show _ ≤ _; rw [HI.out.nm.len]; have := HI.out.nm.few; omega
      rw [hX] at R4 CX SX
      clear s1 s2 n1 n2 hd0 hd1 hnd hgc tp4 gr4 hX kX r4 bX
      go_wp2_with (at_builtin; refine wpList_q (B := B) rfl (.tmp 48) (.tmp 51) rfl _ ts rfl R4.out [⟨limbs n, limbs d, .slice no nl nc, .slice do' dl dc⟩] x4.heap.size 1 1 rfl rfl CX.out (by intro u hu; simp [qcells, qcell] at hu; rcases hu with rfl | rfl <;> rfl) LT.out (by omega) SX.out ?_)
      rw [← HX.out]
      intro v' w' hrow hgrow
      have FINI : Hid (PowI w w6 g4 B w' v' (ts ++ [⟨limbs n, limbs d, .slice no nl nc, .slice do' dl dc⟩]) (ps ++ [(n, d)])) := by
        have hown : ∀ r, (Value.slice eo tl ec).ownBlock = some r → B ≤ r := grow_own HI.out.row
        refine ⟨hrow, HI.out.nm.snoc (by omega) GOOD.out, ?_, ?_, ?_⟩
        · intro t ht
          rcases List.mem_append.1 ht with ht | ht
          · exact HI.out.nw t ht
          · obtain rfl := List.mem_singleton.1 ht
            exact ⟨N1.out, N2.out⟩
        · have h := TP4.out.by hgrow (fun r hr => by have := hown r hr; have := G4B.out; have := TP4.out.ge; omega)
          have e : 1 + 2 * (ps ++ [(n, d)]).length = 1 + 2 * ps.length + 2 := by simp; omega
          rw [e]; exact h
        · exact Gr.by GR4.out hgrow (fun r hr => by have := hown r hr; have := EB.out; omega)
      obtain ⟨⟨fo, fc, rfl, -⟩, -⟩ := hrow.form
      clear hrow hgrow
      go_wp2_with fail
      go_roundw
      case rel => exact ⟨c - 1, _, _, fo, fc, rfl, vint (by omega), by simp; omega, FINI.out⟩
      case measure => simp [intOf]; omega
    · obtain rfl : c = 0 := by omega
      have hlt : ts.length ≤ 9 := by rw [HI.out.nm.len]; exact HI.out.nm.few
      obtain ⟨tl, etl⟩ : ∃ tl, tl = ts.length := ⟨_, rfl⟩
      rw [← etl] at HI ⊢
      have ETL := Lib.hid etl
      clear etl
      go_wp2_with fail
      refine (TChance_any HI.out.tp (by omega)).mono ?_
      rintro e x5 ⟨⟨b, rfl⟩, tp5, o5⟩
      have r5 : QRow B x5 (.slice eo tl ec) ts := HI.out.row.gr o5.gr G4B.out HI.out.nw
      have G5 := Lib.hid (Gr.trans HI.out.gr o5.gr)
      have G25 : Hid (Gr g4 W2 x5) := Gr.trans (Gr.trans (K25.out.gr g4) HO6.out.gr) G5.out
      have ne1 : g1 ≠ g4 := by have := GA.out; have := G2.out; have := G2b.out; have := G3.out; have := G3b.out; have := G4.out; omega
      have ne2 : g2 ≠ g4 := by have := G2b.out; have := G3.out; have := G3b.out; have := G4.out; omega
      have ne3 : g3 ≠ g4 := by have := G3b.out; have := G4.out; omega
      have ta := TA.out.keep KB2.out
      have T1 := Lib.hid (Two.mk (w := x5) ((G25.out.block g1 ta.lt (fun e => ne1 (by injection e))).trans ta.blk))
      have T2 := Lib.hid (Two.mk (w := x5) ((G25.out.block g2 TP2.out.lt (fun e => ne2 (by injection e))).trans TP2.out.blk))
      have T3 := Lib.hid (Two.mk (w := x5) ((G25.out.block g3 HBQ.out.lt (fun e => ne3 (by injection e))).trans HBQ.out.blk))
      have gz : W.heap.size ≤ g4 ∧ W.heap.size ≤ g2 ∧ W.heap.size ≤ B ∧ g2 < B ∧ g3 < B ∧ g2 ≠ g3 := by
        have := GA.out; have := G2.out; have := G2b.out; have := G3.out; have := G3b.out; have := G4.out; have := G4B.out; omega
      have GZ := Lib.hid gz
      have A5 := Lib.hid ((SA.out.keep KB2.out).gr G25.out (SA.out.off gz.1)); have B5 := Lib.hid ((SB.out.keep KB2.out).gr G25.out (SB.out.off gz.1))
      have R5 := Lib.hid r5; have TP5' := Lib.hid tp5
      clear tp5 o5 r5 ne1 ne2 ne3 ta gz
      have LT : Hid (ts.length ≤ 100000) := by show _ ≤ _; omega
      cases b with
      | true =>
        have c0 := T1.out.c0; have c1 := T1.out.c1
        obtain ⟨X, hX⟩ : ∃ X, X = x5.alloc (Obj.cells #[.slice none 0 0, .slice none 0 0, .slice ao al ac, .slice bo bl bc] 26) := ⟨_, rfl⟩
        have kX : Kp x5 X := by rw [hX]; exact Kp.alloc (Kp.refl _) _
        have bX : Blk X x5.heap.size 26 (qcells [⟨[], [], .slice none 0 0, .slice none 0 0⟩, ⟨P, Q, .slice ao al ac, .slice bo bl bc⟩]).toArray := by rw [hX]; exact Blk.new _ _ _
        have R6 := Lib.hid (R5.out.keep kX); have CX := Lib.hid bX.qrow
        have SX : Hid (∀ t ∈ ([⟨[], [], .slice none 0 0, .slice none 0 0⟩, ⟨P, Q, .slice ao al ac, .slice bo bl bc⟩] : List QItem), (Sl X t.vn t.n ∧ Sl X t.vd t.d) ∧ ∀ g, (Value.slice eo tl ec).ownBlock = some g → Off g t.vn t.n ∧ Off g t.vd t.d) := by
          intro t ht
          simp only [List.mem_cons, List.not_mem_nil, or_false] at ht
          rcases ht with rfl | rfl
          · exact ⟨⟨Sl.nil _, Sl.nil _⟩, fun g _ => ⟨fun h => absurd rfl h, fun h => absurd rfl h⟩⟩
          · exact ⟨⟨A5.out.keep kX, B5.out.keep kX⟩, fun g hg => ⟨SA.out.off (Nat.le_trans GZ.out.2.2.1 (grow_own R5.out g hg)), SB.out.off (Nat.le_trans GZ.out.2.2.1 (grow_own R5.out g hg))⟩⟩
        have HX := Lib.hid hX; have KX := Lib.hid kX
        rw [hX] at R6 CX SX
        clear hX kX bX
        go_wp2_with (at_builtin; refine wpList_q (B := B) rfl (.tmp 55) (.tmp 58) rfl _ ts rfl R6.out [⟨[], [], .slice none 0 0, .slice none 0 0⟩, ⟨P, Q, .slice ao al ac, .slice bo bl bc⟩] x5.heap.size 2 2 rfl rfl CX.out (by intro u hu; simp [qcells, qcell] at hu; rcases hu with rfl | rfl | rfl | rfl <;> rfl) LT.out (by omega) SX.out ?_)
        rw [← HX.out]
        clear c0 c1
        intro v' w' hrow hgrow
        have hown : ∀ r, (Value.slice eo tl ec).ownBlock = some r → B ≤ r := grow_own R5.out
        have TPZ := Lib.hid ((TP5'.out.keep KX.out).by hgrow (fun r hr => by have := hown r hr; have := G4B.out; have := TP5'.out.ge; omega))
        have U2 := Lib.hid (Two.mk (w := w') ((hgrow.block g2 (T2.out.keep KX.out).lt (fun e => by have := hown g2 e.symm; have := GZ.out; omega)).trans (T2.out.keep KX.out).blk))
        have U3 := Lib.hid (Two.mk (w := w') ((hgrow.block g3 (T3.out.keep KX.out).lt (fun e => by have := hown g3 e.symm; have := GZ.out; omega)).trans (T3.out.keep KX.out).blk))
        have OFF : Hid (∀ t ∈ ts ++ [⟨[], [], .slice none 0 0, .slice none 0 0⟩, ⟨P, Q, .slice ao al ac, .slice bo bl bc⟩], Off g2 t.vn t.n ∧ Off g2 t.vd t.d) := by
          intro t ht
          rcases List.mem_append.1 ht with ht | ht
          · exact ⟨(HI.out.nw t ht).1.offs GZ.out.2.2.2.1 _, (HI.out.nw t ht).2.offs GZ.out.2.2.2.1 _⟩
          · simp only [List.mem_cons, List.not_mem_nil, or_false] at ht
            rcases ht with rfl | rfl
            · exact ⟨fun h => absurd rfl h, fun h => absurd rfl h⟩
            · exact ⟨SA.out.off GZ.out.2.1, SB.out.off GZ.out.2.1⟩
        obtain ⟨E2, p2, hS⟩ := sum_both (ts := ts ++ [⟨[], [], .slice none 0 0, .slice none 0 0⟩, ⟨P, Q, .slice ao al ac, .slice bo bl bc⟩]) (.inl ⟨qbad_yes (i := ts.length) (t := ⟨[], [], .slice none 0 0, .slice none 0 0⟩) (by simp) rfl, by simp; omega⟩)
        obtain ⟨⟨fo, fc, rfl, -⟩, -⟩ := hrow.form
        have ROW := Lib.hid hrow; have HS := Lib.hid hS
        clear hrow hgrow hown hS T1 T2 T3 R6 CX SX
        obtain ⟨us, eus⟩ : ∃ us, us = ts ++ [⟨[], [], .slice none 0 0, .slice none 0 0⟩, ⟨P, Q, .slice ao al ac, .slice bo bl bc⟩] := ⟨_, rfl⟩
        rw [← eus] at ROW HS OFF ⊢
        clear eus
        obtain ⟨ul', eul⟩ : ∃ ul', ul' = us.length := ⟨_, rfl⟩
        rw [← eul] at ROW ⊢
        clear eul
        go_wp2_with fail
        refine (HS.out _ _ ROW.out.qs).1.mono ?_
        intro e y1 hq
        obtain ⟨⟨v1, v2, rfl, h1, h2, n1, n2⟩, hk⟩ := hq
        obtain ⟨mo, ml, mc, rfl⟩ := h1.open3
        obtain ⟨jo, jl, jc, rfl⟩ := h2.open3
        have t2 := U2.out.keep hk
        have p1 := Put.made t2 (.slice mo ml mc) (.slice jo jl jc)
        have f0 := t2.free 0; have c0 := t2.c0; have f1 := (t2.set0 (.slice mo ml mc)).free 1; have c1 := (t2.set0 (.slice mo ml mc)).c1
        obtain ⟨Y1, hY1⟩ : ∃ Y1, Y1 = (y1.setCell ⟨g2, 0, none⟩ (.slice mo ml mc)).setCell ⟨g2, 1, none⟩ (.slice jo jl jc) := ⟨_, rfl⟩
        rw [← hY1] at p1
        have hwz : g2 < w'.heap.size ∧ g3 < w'.heap.size := ⟨U2.out.lt, U3.out.lt⟩
        have ROW1 := Lib.hid ((ROW.out.keep hk).off p1.only.gr GZ.out.2.2.2.1 OFF.out)
        have KZ1 := Lib.hid (p1.only.kp (Kp.trans TPZ.out.kp hk) (by have := GZ.out; have := K0.out.size; omega))
        have V2 := Lib.hid p1.two
        have V3 := Lib.hid (Two.mk (w := Y1) ((p1.only.block g3 (by have := GZ.out; omega)).trans (U3.out.keep hk).blk))
        have M1 := Lib.hid (h1.only p1.only (n1.offs hwz.1 _)); have M2 := Lib.hid (h2.only p1.only (n2.offs hwz.1 _))
        have NN1 := Lib.hid (n1.offs hwz.2 (limbs p2.1)); have NN2 := Lib.hid (n2.offs hwz.2 (limbs p2.2))
        have HY1 := Lib.hid hY1
        clear h1 h2 n1 n2 hk t2 hY1 p1 ROW U2 U3 hwz
        go_wp2_with fail
        rw [← HY1.out]
        clear f0 c0 f1 c1
        refine (HS.out _ _ ROW1.out.qs).2.mono ?_
        intro e y2 hq
        obtain ⟨⟨v1, v2, rfl, h1, h2, n1, n2⟩, hk⟩ := hq
        obtain ⟨io, il, ic, rfl⟩ := h1.open3
        obtain ⟨ko, kl, kc, rfl⟩ := h2.open3
        have t3 := V3.out.keep hk
        have p1 := Put.made t3 (.slice io il ic) (.slice ko kl kc)
        have f0 := t3.free 0; have c0 := t3.c0; have f1 := (t3.set0 (.slice io il ic)).free 1; have c1 := (t3.set0 (.slice io il ic)).c1
        obtain ⟨Y2, hY2⟩ : ∃ Y2, Y2 = (y2.setCell ⟨g3, 0, none⟩ (.slice io il ic)).setCell ⟨g3, 1, none⟩ (.slice ko kl kc) := ⟨_, rfl⟩
        rw [← hY2] at p1
        have g3z : g3 < Y1.heap.size := V3.out.lt
        have KZ2 := Lib.hid (p1.only.kp (Kp.trans KZ1.out hk) (by have := GZ.out; have := K0.out.size; have := G3.out; have := KB1.out.size; omega))
        have e0 := p1.two.c0; have e1 := p1.two.c1
        have b2 : Two Y2 g2 26 (.slice mo ml mc) (.slice jo jl jc) := ⟨(p1.only.block g2 (by have := GZ.out; omega)).trans (V2.out.keep hk).blk⟩
        have b0 := b2.c0; have b1 := b2.c1
        have M3 := Lib.hid (h1.only p1.only (n1.offs g3z _)); have M4 := Lib.hid (h2.only p1.only (n2.offs g3z _))
        have M1' := Lib.hid ((M1.out.keep hk).only p1.only NN1.out); have M2' := Lib.hid ((M2.out.keep hk).only p1.only NN2.out)
        have HY2 := Lib.hid hY2
        rw [hY2] at e0 e1 b0 b1
        clear h1 h2 n1 n2 hk t3 hY2 p1 b2 M1 M2 g3z V2 V3 ROW1
        go_wp2_with fail
        rw [← HY2.out]
        clear f0 c0 f1 c1 e0 e1 b0 b1
        refine (fsame_eq (E := E2) (p := p2) M1'.out M2'.out M3.out M4.out).mono ?_
        rintro e y3 ⟨rfl, hk⟩
        have KZ3 := Lib.hid (Kp.trans KZ2.out hk)
        clear hk
        go_wp2_with fail
        refine (fawake_any (HT.out.keep KZ3.out)).mono ?_
        rintro e wa ⟨rfl, hk⟩
        have HKA := Lib.hid (Kp.trans KZ3.out hk)
        clear hk
        go_wp2_with fail
        go_ret
        exact ⟨rfl, HKA.out⟩
      | false =>
        obtain ⟨E2, p2, hS⟩ := sum_both (ts := ts) (.inr ⟨ps, HI.out.nm⟩)
        have OFF : Hid (∀ t ∈ ts, Off g2 t.vn t.n ∧ Off g2 t.vd t.d) := fun t ht => ⟨(HI.out.nw t ht).1.offs GZ.out.2.2.2.1 _, (HI.out.nw t ht).2.offs GZ.out.2.2.2.1 _⟩
        have HS := Lib.hid hS
        obtain ⟨w', ew'⟩ : ∃ w', w' = x5 := ⟨_, rfl⟩
        obtain ⟨us, eus⟩ : ∃ us, us = ts := ⟨_, rfl⟩
        have ROW := R5; have TPZ := TP5'; have U2 := T2; have U3 := T3
        have ELT := ETL.out
        rw [← ew'] at ROW TPZ U2 U3 ⊢
        rw [← eus] at ROW HS OFF ELT
        subst ELT
        clear hS T1 T2 T3 R5 ew' eus
        obtain ⟨ul', eul⟩ : ∃ ul', ul' = us.length := ⟨_, rfl⟩
        rw [← eul] at ROW ⊢
        clear eul
        go_wp2_with fail
        refine (HS.out _ _ ROW.out.qs).1.mono ?_
        intro e y1 hq
        obtain ⟨⟨v1, v2, rfl, h1, h2, n1, n2⟩, hk⟩ := hq
        obtain ⟨mo, ml, mc, rfl⟩ := h1.open3
        obtain ⟨jo, jl, jc, rfl⟩ := h2.open3
        have t2 := U2.out.keep hk
        have p1 := Put.made t2 (.slice mo ml mc) (.slice jo jl jc)
        have f0 := t2.free 0; have c0 := t2.c0; have f1 := (t2.set0 (.slice mo ml mc)).free 1; have c1 := (t2.set0 (.slice mo ml mc)).c1
        obtain ⟨Y1, hY1⟩ : ∃ Y1, Y1 = (y1.setCell ⟨g2, 0, none⟩ (.slice mo ml mc)).setCell ⟨g2, 1, none⟩ (.slice jo jl jc) := ⟨_, rfl⟩
        rw [← hY1] at p1
        have hwz : g2 < w'.heap.size ∧ g3 < w'.heap.size := ⟨U2.out.lt, U3.out.lt⟩
        have ROW1 := Lib.hid ((ROW.out.keep hk).off p1.only.gr GZ.out.2.2.2.1 OFF.out)
        have KZ1 := Lib.hid (p1.only.kp (Kp.trans TPZ.out.kp hk) (by have := GZ.out; have := K0.out.size; omega))
        have V2 := Lib.hid p1.two
        have V3 := Lib.hid (Two.mk (w := Y1) ((p1.only.block g3 (by have := GZ.out; omega)).trans (U3.out.keep hk).blk))
        have M1 := Lib.hid (h1.only p1.only (n1.offs hwz.1 _)); have M2 := Lib.hid (h2.only p1.only (n2.offs hwz.1 _))
        have NN1 := Lib.hid (n1.offs hwz.2 (limbs p2.1)); have NN2 := Lib.hid (n2.offs hwz.2 (limbs p2.2))
        have HY1 := Lib.hid hY1
        clear h1 h2 n1 n2 hk t2 hY1 p1 ROW U2 U3 hwz
        go_wp2_with fail
        rw [← HY1.out]
        clear f0 c0 f1 c1
        refine (HS.out _ _ ROW1.out.qs).2.mono ?_
        intro e y2 hq
        obtain ⟨⟨v1, v2, rfl, h1, h2, n1, n2⟩, hk⟩ := hq
        obtain ⟨io, il, ic, rfl⟩ := h1.open3
        obtain ⟨ko, kl, kc, rfl⟩ := h2.open3
        have t3 := V3.out.keep hk
        have p1 := Put.made t3 (.slice io il ic) (.slice ko kl kc)
        have f0 := t3.free 0; have c0 := t3.c0; have f1 := (t3.set0 (.slice io il ic)).free 1; have c1 := (t3.set0 (.slice io il ic)).c1
        obtain ⟨Y2, hY2⟩ : ∃ Y2, Y2 = (y2.setCell ⟨g3, 0, none⟩ (.slice io il ic)).setCell ⟨g3, 1, none⟩ (.slice ko kl kc) := ⟨_, rfl⟩
        rw [← hY2] at p1
        have g3z : g3 < Y1.heap.size := V3.out.lt
        have KZ2 := Lib.hid (p1.only.kp (Kp.trans KZ1.out hk) (by have := GZ.out; have := K0.out.size; have := G3.out; have := KB1.out.size; omega))
        have e0 := p1.two.c0; have e1 := p1.two.c1
        have b2 : Two Y2 g2 26 (.slice mo ml mc) (.slice jo jl jc) := ⟨(p1.only.block g2 (by have := GZ.out; omega)).trans (V2.out.keep hk).blk⟩
        have b0 := b2.c0; have b1 := b2.c1
        have M3 := Lib.hid (h1.only p1.only (n1.offs g3z _)); have M4 := Lib.hid (h2.only p1.only (n2.offs g3z _))
        have M1' := Lib.hid ((M1.out.keep hk).only p1.only NN1.out); have M2' := Lib.hid ((M2.out.keep hk).only p1.only NN2.out)
        have HY2 := Lib.hid hY2
        rw [hY2] at e0 e1 b0 b1
        clear h1 h2 n1 n2 hk t3 hY2 p1 b2 M1 M2 g3z V2 V3 ROW1
        go_wp2_with fail
        rw [← HY2.out]
        clear f0 c0 f1 c1 e0 e1 b0 b1
        refine (fsame_eq (E := E2) (p := p2) M1'.out M2'.out M3.out M4.out).mono ?_
        rintro e y3 ⟨rfl, hk⟩
        have KZ3 := Lib.hid (Kp.trans KZ2.out hk)
        clear hk
        go_wp2_with fail
        refine (fawake_any (HT.out.keep KZ3.out)).mono ?_
        rintro e wa ⟨rfl, hk⟩
        have HKA := Lib.hid (Kp.trans KZ3.out hk)
        clear hk
        go_wp2_with fail
        go_ret
        exact ⟨rfl, HKA.out⟩
end Go.Proofs.YtdoponlhiidimaaGreatDoor
