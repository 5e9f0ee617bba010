/- The law on integer parts, decimal numbers and texts of fractions: it returns true for all inputs. Conditions: the string is not longer than a machine's memory; the library's table of powers of ten holds what its text lays. -/
import Derived.Test.YtgpochhndjadhaaGreatDoorTxtB
import Derived.Test.YtgpochhndjadhaaGreatDoorFPAny
import Derived.Test.YtgpochhndjadhaaGreatDoorRFPAny
namespace Go.Proofs.YtgpochhndjadhaaGreatDoor
open Go.RowKit LimbN
set_option linter.unusedVariables false
set_option linter.unusedSimpArgs false

theorem frN_len8 {xs ys : List Nat} (hx : Lt xs) (o : Int) : (frN xs ys o).length ≤ 8 := by
  unfold frN
  split
  · rw [List.length_take]; omega
  · exact Nat.le_trans (limbs_mono (FracN.low_le_self _ _).1) (limbs_take hx)
theorem frD_len8 {xs ys : List Nat} (hy : Lt ys) (o : Int) : (frD xs ys o).length ≤ 8 := by
  unfold frD
  split
  · rw [List.length_take]; omega
  · refine Nat.le_trans (limbs_mono (FracN.low_le_self _ _).2) ?_
    split
    · decide
    · exact limbs_take hy
set_option maxRecDepth 100000 in
set_option maxHeartbeats 16000000 in
theorem ftexts_any {xs ys : List Nat} {vx vy : Value} {w : World} (hx : Sl w vx xs) (hy : Sl w vy ys) (z : Int) (hz : -9223372036854775808 ≤ z ∧ z ≤ 9223372036854775807) (S : ByteArray) (hS : S.size ≤ 140737488351232) (o : Int) (ho : -9223372036854775808 ≤ o ∧ o ≤ 9223372036854775807) (htab : Tab w) :
    Calls Tryz.prog 5 #[vx, vy, .int .i64 z, .string S, .int .i64 o] w fun e w' => e = .returned (.bool true) ∧ Kp w w' := by
  have HT := Lib.hid htab; have HX := Lib.hid hx; have HY := Lib.hid hy; have HO := Lib.hid ho; have HZS := Lib.hid hS
  clear htab hx hy ho hS hz
  go_enter Tryz.func5, Tryz.ntmps5
  go_wp2_with fail
  refine (ffrac_any HX.out HY.out o HO.out).mono ?_
  rintro e w1 ⟨⟨v1, v2, rfl, h1, h2⟩, hk⟩
  obtain ⟨P, eP⟩ : ∃ P, P = frN xs ys o := ⟨_, rfl⟩
  obtain ⟨Q, eQ⟩ : ∃ Q, Q = frD xs ys o := ⟨_, rfl⟩
  rw [← eP] at h1
  rw [← eQ] at h2
  have lP : P.length ≤ 8 := by rw [eP]; exact frN_len8 HX.out.lt o
  have lQ : Q.length ≤ 8 := by rw [eQ]; exact frD_len8 HY.out.lt o
  obtain ⟨EA, V, hA⟩ := floor_both h1.lt h2.lt lP lQ
  obtain ⟨EB, U, hB⟩ := round_both h1.lt h2.lt lP lQ z
  obtain ⟨EC, T, hTs, hC⟩ := format_both h1.lt h2.lt lP lQ
  have HA := Lib.hid hA; have HB := Lib.hid hB; have HC := Lib.hid hC
  obtain ⟨ao, al, ac, rfl⟩ := h1.open3
  obtain ⟨bo, bl, bc, rfl⟩ := h2.open3
  obtain ⟨W, hW, HKW, HB7, hzW⟩ := box2 w1 25 (.slice ao al ac) (.slice bo bl bc)
  have SA := Lib.hid (h1.keep HKW.out); have SB := Lib.hid (h2.keep HKW.out); have K0 := Lib.hid (Kp.trans hk HKW.out); have HW := Lib.hid hW
  clear h1 h2 hk eP eQ lP lQ hA hB hC hW HKW hzW
  have c70 := HB7.out.c0; have c71 := HB7.out.c1
  rw [HW.out] at c70 c71
  go_wp2_with fail
  rw [← HW.out]
  clear c70 c71
  refine (HA.out _ _ _ SA.out SB.out).1.mono ?_
  rintro e w2 ⟨⟨vn, rfl, sn⟩, hk⟩
  have SN := Lib.hid sn; have K2 := Lib.hid hk
  clear sn hk
  have c70 := (HB7.out.keep K2.out).c0; have c71 := (HB7.out.keep K2.out).c1
  go_wp2_with fail
  clear c70 c71
  refine (HA.out _ _ _ (SA.out.keep K2.out) (SB.out.keep K2.out)).2.mono ?_
  rintro e w3 ⟨⟨vm, rfl, sm⟩, hk⟩
  have SN3 := Lib.hid (SN.out.keep hk); have SM := Lib.hid sm; have K3 := Lib.hid (Kp.trans K2.out hk)
  clear sm hk SN
  go_wp2_with fail
  have hE : (EA == EA) = true := beq_self_eq_true EA
  clear hE
  refine (same_any SN3.out SM.out).mono ?_
  intro e w4 hq
  obtain ⟨rfl, hd⟩ := hq
  rw [decide_eq_true rfl]
  have K4 := Lib.hid (Kp.trans K3.out hd.kp)
  clear hd
  have c70 := (HB7.out.keep K4.out).c0; have c71 := (HB7.out.keep K4.out).c1
  go_wp2_with fail
  clear c70 c71
  refine (HB.out _ _ _ (HT.out.keep (Kp.trans K0.out K4.out)) (SA.out.keep K4.out) (SB.out.keep K4.out)).1.mono ?_
  rintro e w5 ⟨rfl, hk⟩
  have K5 := Lib.hid (Kp.trans K4.out hk)
  clear hk
  have c70 := (HB7.out.keep K5.out).c0; have c71 := (HB7.out.keep K5.out).c1
  go_wp2_with fail
  clear c70 c71
  refine (HB.out _ _ _ (HT.out.keep (Kp.trans K0.out K5.out)) (SA.out.keep K5.out) (SB.out.keep K5.out)).2.mono ?_
  rintro e w6 ⟨rfl, hk⟩
  have K6 := Lib.hid (Kp.trans K5.out hk)
  clear hk
  have c70 := (HB7.out.keep K6.out).c0; have c71 := (HB7.out.keep K6.out).c1
  go_wp2_with fail
  clear c70 c71
  refine (HC.out _ _ _ (HT.out.keep (Kp.trans K0.out K6.out)) (SA.out.keep K6.out) (SB.out.keep K6.out)).1.mono ?_
  rintro e w7 ⟨rfl, hk⟩
  have K7 := Lib.hid (Kp.trans K6.out hk)
  clear hk
  have c70 := (HB7.out.keep K7.out).c0; have c71 := (HB7.out.keep K7.out).c1
  go_wp2_with fail
  clear c70 c71
  refine (HC.out _ _ _ (HT.out.keep (Kp.trans K0.out K7.out)) (SA.out.keep K7.out) (SB.out.keep K7.out)).2.mono ?_
  rintro e w8 ⟨rfl, hk⟩
  have K8 := Lib.hid (Kp.trans K7.out hk)
  clear hk
  obtain ⟨zs, ez⟩ : ∃ zs, zs = S.size := ⟨_, rfl⟩
  have q0 : ∀ w : World, (Builtin.len_ #[9] 3 #[.string S]).run Tryz.prog w = .ok (goInt zs) w := fun w => by rw [run_len_string w _ _ S Tryz.underlying9, ez]
  have EZ := Lib.hid ez
  have hn1 : ¬ (9223372036854775807 < T.size + 2) := by omega
  have hn2 : ¬ (9223372036854775807 < 1 + T.size) := by omega
  have hz1 : zs ≤ 140737488351232 := by rw [ez]; exact HZS.out
  clear ez
  have two : (⟨#[47, 50]⟩ : ByteArray).size = 2 := rfl
  have nul : (⟨#[47, 48]⟩ : ByteArray).size = 2 := rfl
  have one : (⟨#[48]⟩ : ByteArray).size = 1 := rfl
  by_cases hz : 2700 < zs
  · obtain ⟨S2, hS2⟩ : ∃ S2, S2 = S.extract 0 2700 := ⟨_, rfl⟩
    have qs : ∀ w : World, (Instr.slice 9 (.string S) none (some (.int .i64 2700)) none).run Tryz.prog w = .ok (.string S2) w := fun w => by
      rw [run_slice_string_h w 9 S Tryz.underlying9 .i64 2700 (by omega) (by have := EZ.out; omega), hS2]
      rfl
    have zS2 : S2.size ≤ 2700 := by rw [hS2, ByteArray.size_extract]; omega
    have hdz : decide (2700 < (zs : Int)) = true := decide_eq_true (by omega)
    clear hS2
    obtain ⟨ts, hts⟩ : ∃ ts : List ByteArray, ts = [S2, T, T ++ ⟨#[47, 50]⟩, ⟨#[48]⟩ ++ T, T ++ ⟨#[47, 48]⟩] := ⟨_, rfl⟩
    obtain ⟨W9, hW9⟩ : ∃ W9, W9 = w8.alloc (Obj.cells #[.string S2, .string T, .string (T ++ ⟨#[47, 50]⟩), .string (⟨#[48]⟩ ++ T), .string (T ++ ⟨#[47, 48]⟩)] 9) := ⟨_, rfl⟩
    have hb9 : W9.heap[w8.heap.size]? = some (.cells (ts.map Value.string).toArray 9 (0, 0)) := by rw [hW9, hts]; exact heap_alloc_new w8 _
    have htz : ∀ (i : Nat) (h : i < 5), ∃ u : ByteArray, ts[i]? = some u ∧ u.size ≤ 1000000 := by
      intro i h
      have hc : (T ++ ⟨#[47, 50]⟩ : ByteArray).size ≤ 1000000 ∧ (⟨#[48]⟩ ++ T : ByteArray).size ≤ 1000000 ∧ (T ++ ⟨#[47, 48]⟩ : ByteArray).size ≤ 1000000 := by
        rw [ByteArray.size_append, ByteArray.size_append, ByteArray.size_append, two, nul, one]; omega
      rw [hts]
      match i, h with
      | 0, _ => exact ⟨_, rfl, by omega⟩
      | 1, _ => exact ⟨_, rfl, by omega⟩
      | 2, _ => exact ⟨_, rfl, hc.1⟩
      | 3, _ => exact ⟨_, rfl, hc.2.1⟩
      | 4, _ => exact ⟨_, rfl, hc.2.2⟩
    have K9 : Hid (Kp w8 W9) := by rw [hW9]; exact Kp.alloc (Kp.refl _) _
    have B9 := Lib.hid hb9; have HTZ := Lib.hid htz; have HW9 := Lib.hid hW9
    obtain ⟨g9, eg9⟩ : ∃ g9, g9 = w8.heap.size := ⟨_, rfl⟩
    have EG9 := Lib.hid eg9
    have KW := Lib.hid (Kp.trans K0.out (Kp.trans K8.out K9.out))
    clear hts hW9 hb9 htz zS2 hTs
    rw [← eg9] at B9
    clear eg9
    go_wp2_with fail
    rw [← HW9.out, ← EG9.out]
    go_loopw [100] (fun iv wy => ∃ i : Nat, i ≤ 5 ∧ iv = .int .i64 i ∧ Kp W9 wy) (fun iv _ => 5 - (intOf iv).toNat)
    case atStart => exact ⟨0, by omega, rfl, Kp.refl _⟩
    case round =>
      obtain ⟨i, hi, rfl, hkp⟩ := hrel
      have HKP := Lib.hid hkp
      clear hkp
      by_cases hi5 : i < 5
      · obtain ⟨u, hu, zu⟩ := HTZ.out i hi5
        have hcell : wr.cell? ⟨g9, i, none⟩ = some (.string u) := by
          rw [cell_of_row wr g9 i _ 9 (0, 0) ((HKP.out.block g9 (lt_of_block B9.out)).trans B9.out)]
          simp [hu]
        have ZU := Lib.hid zu
        have hi5' : (i : Int) < 5 := by omega
        clear hu zu
        go_wp2_with fail
        refine (FParse_any u ZU.out wr).mono ?_
        intro e x1 hq
        obtain ⟨⟨p1, p2, rfl, s1, s2, -, -⟩, hk⟩ := hq
        obtain ⟨po, pl, pc, rfl⟩ := s1.open3
        obtain ⟨ro, rl, rc, rfl⟩ := s2.open3
        obtain ⟨X1, hX1, HKX, HBX, hzX⟩ := box2 x1 25 (.slice po pl pc) (.slice ro rl rc)
        have SP := Lib.hid (s1.keep HKX.out); have SR := Lib.hid (s2.keep HKX.out); have KX := Lib.hid (Kp.trans hk HKX.out); have HX1 := Lib.hid hX1
        clear s1 s2 hk hX1 HKX hzX hcell
        obtain ⟨gx, egx⟩ : ∃ gx, gx = x1.heap.size := ⟨_, rfl⟩
        have EGX := Lib.hid egx
        rw [← egx] at HBX
        clear egx
        go_wp2_with fail
        rw [← HX1.out, ← EGX.out]
        refine (rFParse_any u ZU.out X1).mono ?_
        intro e x2 hq
        obtain ⟨⟨p3, p4, rfl, s3, s4, -, -⟩, hk⟩ := hq
        obtain ⟨ko, kl, kc, rfl⟩ := s3.open3
        obtain ⟨uo, ul, uc, rfl⟩ := s4.open3
        obtain ⟨X2, hX2, HKX2, HBX2, hzX2⟩ := box2 x2 25 (.slice ko kl kc) (.slice uo ul uc)
        have hk2 := Kp.trans hk HKX2.out
        have SP2 := Lib.hid (SP.out.keep hk2); have SR2 := Lib.hid (SR.out.keep hk2); have SV := Lib.hid (s3.keep HKX2.out); have SU := Lib.hid (s4.keep HKX2.out)
        have KX2 := Lib.hid (Kp.trans KX.out hk2); have HX2 := Lib.hid hX2
        have c10 := (HBX.out.keep hk2).c0; have c11 := (HBX.out.keep hk2).c1
        have c20 := HBX2.out.c0; have c21 := HBX2.out.c1
        rw [hX2] at c10 c11 c20 c21
        clear s3 s4 hk hk2 hX2 HKX2 hzX2 SP SR
        go_wp2_with fail
        rw [← HX2.out]
        clear c10 c11 c20 c21
        refine (fsame_eq (E := fE u) (p := fP u) SP2.out SR2.out SV.out SU.out).mono ?_
        rintro e x3 ⟨rfl, hk⟩
        have KX3 := Lib.hid (Kp.trans HKP.out (Kp.trans KX2.out hk))
        clear hk
        go_wp2_with fail
        go_roundw
        case rel => exact ⟨i + 1, by omega, vint (by omega), KX3.out⟩
        case measure => simp [intOf]; omega
      · obtain rfl : i = 5 := by omega
        go_wp2_with fail
        refine (fawake_any (HT.out.keep (Kp.trans KW.out HKP.out))).mono ?_
        rintro e wa ⟨rfl, hk⟩
        have HKA := Lib.hid (Kp.trans (Kp.trans KW.out HKP.out) hk)
        clear hk
        go_wp2_with fail
        go_ret
        exact ⟨rfl, HKA.out⟩
  · obtain ⟨S2, hS2⟩ : ∃ S2, S2 = S := ⟨_, rfl⟩
    have zS2 : S2.size ≤ 2700 := by rw [hS2]; have := EZ.out; omega
    have hdz : decide (2700 < (zs : Int)) = false := decide_eq_false (by omega)
    subst hS2
    obtain ⟨ts, hts⟩ : ∃ ts : List ByteArray, ts = [S2, T, T ++ ⟨#[47, 50]⟩, ⟨#[48]⟩ ++ T, T ++ ⟨#[47, 48]⟩] := ⟨_, rfl⟩
    obtain ⟨W9, hW9⟩ : ∃ W9, W9 = w8.alloc (Obj.cells #[.string S2, .string T, .string (T ++ ⟨#[47, 50]⟩), .string (⟨#[48]⟩ ++ T), .string (T ++ ⟨#[47, 48]⟩)] 9) := ⟨_, rfl⟩
    have hb9 : W9.heap[w8.heap.size]? = some (.cells (ts.map Value.string).toArray 9 (0, 0)) := by rw [hW9, hts]; exact heap_alloc_new w8 _
    have htz : ∀ (i : Nat) (h : i < 5), ∃ u : ByteArray, ts[i]? = some u ∧ u.size ≤ 1000000 := by
      intro i h
      have hc : (T ++ ⟨#[47, 50]⟩ : ByteArray).size ≤ 1000000 ∧ (⟨#[48]⟩ ++ T : ByteArray).size ≤ 1000000 ∧ (T ++ ⟨#[47, 48]⟩ : ByteArray).size ≤ 1000000 := by
        rw [ByteArray.size_append, ByteArray.size_append, ByteArray.size_append, two, nul, one]; omega
      rw [hts]
      match i, h with
      | 0, _ => exact ⟨_, rfl, by omega⟩
      | 1, _ => exact ⟨_, rfl, by omega⟩
      | 2, _ => exact ⟨_, rfl, hc.1⟩
      | 3, _ => exact ⟨_, rfl, hc.2.1⟩
      | 4, _ => exact ⟨_, rfl, hc.2.2⟩
    have K9 : Hid (Kp w8 W9) := by rw [hW9]; exact Kp.alloc (Kp.refl _) _
    have B9 := Lib.hid hb9; have HTZ := Lib.hid htz; have HW9 := Lib.hid hW9
    obtain ⟨g9, eg9⟩ : ∃ g9, g9 = w8.heap.size := ⟨_, rfl⟩
    have EG9 := Lib.hid eg9
    have KW := Lib.hid (Kp.trans K0.out (Kp.trans K8.out K9.out))
    clear hts hW9 hb9 htz zS2 hTs
    rw [← eg9] at B9
    clear eg9
    go_wp2_with fail
    rw [← HW9.out, ← EG9.out]
    go_loopw [100] (fun iv wy => ∃ i : Nat, i ≤ 5 ∧ iv = .int .i64 i ∧ Kp W9 wy) (fun iv _ => 5 - (intOf iv).toNat)
    case atStart => exact ⟨0, by omega, rfl, Kp.refl _⟩
    case round =>
      obtain ⟨i, hi, rfl, hkp⟩ := hrel
      have HKP := Lib.hid hkp
      clear hkp
      by_cases hi5 : i < 5
      · obtain ⟨u, hu, zu⟩ := HTZ.out i hi5
        have hcell : wr.cell? ⟨g9, i, none⟩ = some (.string u) := by
          rw [cell_of_row wr g9 i _ 9 (0, 0) ((HKP.out.block g9 (lt_of_block B9.out)).trans B9.out)]
          simp [hu]
        have ZU := Lib.hid zu
        have hi5' : (i : Int) < 5 := by omega
        clear hu zu
        go_wp2_with fail
        refine (FParse_any u ZU.out wr).mono ?_
        intro e x1 hq
        obtain ⟨⟨p1, p2, rfl, s1, s2, -, -⟩, hk⟩ := hq
        obtain ⟨po, pl, pc, rfl⟩ := s1.open3
        obtain ⟨ro, rl, rc, rfl⟩ := s2.open3
        obtain ⟨X1, hX1, HKX, HBX, hzX⟩ := box2 x1 25 (.slice po pl pc) (.slice ro rl rc)
        have SP := Lib.hid (s1.keep HKX.out); have SR := Lib.hid (s2.keep HKX.out); have KX := Lib.hid (Kp.trans hk HKX.out); have HX1 := Lib.hid hX1
        clear s1 s2 hk hX1 HKX hzX hcell
        obtain ⟨gx, egx⟩ : ∃ gx, gx = x1.heap.size := ⟨_, rfl⟩
        have EGX := Lib.hid egx
        rw [← egx] at HBX
        clear egx
        go_wp2_with fail
        rw [← HX1.out, ← EGX.out]
        refine (rFParse_any u ZU.out X1).mono ?_
        intro e x2 hq
        obtain ⟨⟨p3, p4, rfl, s3, s4, -, -⟩, hk⟩ := hq
        obtain ⟨ko, kl, kc, rfl⟩ := s3.open3
        obtain ⟨uo, ul, uc, rfl⟩ := s4.open3
        obtain ⟨X2, hX2, HKX2, HBX2, hzX2⟩ := box2 x2 25 (.slice ko kl kc) (.slice uo ul uc)
        have hk2 := Kp.trans hk HKX2.out
        have SP2 := Lib.hid (SP.out.keep hk2); have SR2 := Lib.hid (SR.out.keep hk2); have SV := Lib.hid (s3.keep HKX2.out); have SU := Lib.hid (s4.keep HKX2.out)
        have KX2 := Lib.hid (Kp.trans KX.out hk2); have HX2 := Lib.hid hX2
        have c10 := (HBX.out.keep hk2).c0; have c11 := (HBX.out.keep hk2).c1
        have c20 := HBX2.out.c0; have c21 := HBX2.out.c1
        rw [hX2] at c10 c11 c20 c21
        clear s3 s4 hk hk2 hX2 HKX2 hzX2 SP SR
        go_wp2_with fail
        rw [← HX2.out]
        clear c10 c11 c20 c21
        refine (fsame_eq (E := fE u) (p := fP u) SP2.out SR2.out SV.out SU.out).mono ?_
        rintro e x3 ⟨rfl, hk⟩
        have KX3 := Lib.hid (Kp.trans HKP.out (Kp.trans KX2.out hk))
        clear hk
        go_wp2_with fail
        go_roundw
        case rel => exact ⟨i + 1, by omega, vint (by omega), KX3.out⟩
        case measure => simp [intOf]; omega
      · obtain rfl : i = 5 := by omega
        go_wp2_with fail
        refine (fawake_any (HT.out.keep (Kp.trans KW.out HKP.out))).mono ?_
        rintro e wa ⟨rfl, hk⟩
        have HKA := Lib.hid (Kp.trans (Kp.trans KW.out HKP.out) hk)
        clear hk
        go_wp2_with fail
        go_ret
        exact ⟨rfl, HKA.out⟩
end Go.Proofs.YtgpochhndjadhaaGreatDoor
