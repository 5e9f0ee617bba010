/- The reference's sum of a list of fractions. Condition: the slice reads as the fractions that are named; where all are well-formed, they are small. -/
import Derived.Test.YtdoponlhiidimaaGreatDoorMSu
import Derived.Deep.RegionHeld3
namespace Go.Proofs.YtdoponlhiidimaaGreatDoor
open Go.RowKit LimbN
set_option linter.unusedVariables false
set_option linter.unusedSimpArgs false

set_option maxRecDepth 100000 in
theorem rZero_any (w : World) : Calls Tryz.prog 33 #[] w fun e w' => (∃ vd, e = .returned (.agg #[.slice none 0 0, vd]) ∧ Sl w' vd (limbs 1) ∧ New (w.heap.size + 1) vd) ∧ Kp w w' := by
  obtain ⟨w1, hw1, HK1, HB1, hz1⟩ := box2 w 26 (.slice none 0 0) (.slice (some ⟨w.heap.size + 1, 0, none⟩) 1 1)
  obtain ⟨w2, hw2⟩ : ∃ w2, w2 = w1.alloc (Obj.cells #[.int .u32 1] 43) := ⟨_, rfl⟩
  have hs1 : w1.heap.size = w.heap.size + 1 := by rw [hw1]; simp
  have HK2 : Hid (Kp w1 w2) := by show Kp w1 w2; rw [hw2]; exact Kp.alloc (Kp.refl _) _
  have s2 : Sl w2 (.slice (some ⟨w.heap.size + 1, 0, none⟩) 1 1) (limbs 1) := by
    have hr : Row w2 (w.heap.size + 1) 43 [1] := ⟨by rw [hw2, ← hs1]; exact heap_alloc_new w1 _⟩
    have := hr.at 0
    exact ⟨⟨_, 1, rfl, Nat.le_refl _, by unfold maxLen; decide, this, fun h => by simp at h⟩, Lt.limbs 1, by decide⟩
  have T2 := Lib.hid (HB1.out.keep HK2.out)
  have hn : New (w.heap.size + 1) (.slice (some ⟨w.heap.size + 1, 0, none⟩) 1 1) := by
    intro a l c e
    injection e with e1
    injection e1 with e1
    rw [← e1]
    exact Nat.le_refl _
  have FIN : Hid ((∃ vd, Ending.returned (.agg #[.slice none 0 0, .slice (some ⟨w.heap.size + 1, 0, none⟩) 1 1]) = .returned (.agg #[.slice none 0 0, vd]) ∧ Sl w2 vd (limbs 1) ∧ New (w.heap.size + 1) vd) ∧ Kp w w2) :=
    ⟨⟨_, rfl, s2, hn⟩, Kp.trans HK1.out HK2.out⟩
  have e2 : w2 = (w.alloc (Obj.cells #[.slice none 0 0, .slice (some ⟨w.heap.size + 1, 0, none⟩) 1 1] 26)).alloc (Obj.cells #[.int .u32 1] 43) := by rw [hw2, hw1]
  have E2 := Lib.hid e2
  clear hw1 hw2 hs1 HK2 s2 hn e2 HB1 HK1 hz1
  go_enter Tryz.func33, Tryz.ntmps33
  go_wp2_with fail
  rw [← E2.out]
  have c0 := T2.out.c0
  have c1 := T2.out.c1
  exact bodyPost_ret (by simp [results, Tryz.results33, go_sem, c0, c1]) rfl FIN.out
set_option maxRecDepth 100000 in
set_option maxHeartbeats 2000000 in
theorem rSum_bad {v : Value} {ts : List QItem} {w : World} (hs : QS w v ts) (hn : ts.length ≤ 100000) (hb : qbad ts = true) :
    Calls Tryz.prog 12 #[v] w (MkR 1 (0, 0) w) := by
  obtain ⟨ao, cap, rfl, -⟩ := hs.ex
  obtain ⟨len, hlen⟩ : ∃ len, len = ts.length := ⟨_, rfl⟩
  obtain ⟨w1, hw1, HK1, HB1, hz1⟩ := start2 w 26
  rw [← hlen] at hs hn ⊢
  have HS := Lib.hid hs; have HL := Lib.hid hlen; have HB := Lib.hid hb; have HW := Lib.hid hw1
  clear hs hlen hb hw1
  go_enter Tryz.func12, Tryz.ntmps12
  go_wp2_with fail
  rw [← HW.out]
  go_loopw [4] (fun iv wy => ∃ k : Nat, k ≤ len ∧ iv = .int .i64 k ∧ Kp w1 wy ∧ Hid (∀ (j : Nat) (t : QItem), j < k → ts[j]? = some t → frOk t.n t.d = true)) (fun iv _ => len - (intOf iv).toNat)
  case atStart => exact ⟨0, Nat.zero_le _, rfl, Kp.refl _, fun j t hj => absurd hj (by omega)⟩
  case round =>
    obtain ⟨k, hk, rfl, hkp, hz⟩ := hrel
    have HKP := Lib.hid hkp
    have HK0 := Lib.hid (Kp.trans HK1.out hkp)
    clear hkp
    by_cases hkl : k < len
    · have ht : ts[k]? = some (ts[k]'(by have := HL.out; omega)) := List.getElem?_eq_getElem _
      obtain ⟨t, et⟩ : ∃ t, t = (ts[k]'(by have := HL.out; omega)) := ⟨_, rfl⟩
      rw [← et] at ht
      obtain ⟨g, rfl, k0, k1, s0, s1⟩ := (HS.out.keep HK0.out).at rfl ht
      have HTT := Lib.hid ht; have S0 := Lib.hid s0; have S1 := Lib.hid s1
      obtain ⟨no, nl, nc, e0⟩ := s0.open3
      obtain ⟨do', dl, dc, e1⟩ := s1.open3
      rw [e0] at k0
      rw [e1] at k1
      rw [e0] at S0
      rw [e1] at S1
      clear et ht s0 s1 e0 e1
      cases hf : frOk t.n t.d with
      | true =>
        have HF := Lib.hid hf
        clear hf
        go_wp2_with fail
        refine (rCheck_any S0.out S1.out).mono ?_
        rintro e w2 ⟨rfl, hk2⟩
        rw [HF.out]
        have HK2 := Lib.hid (Kp.trans HKP.out hk2)
        clear hk2
        go_wp2_with fail
        go_roundw
        case rel => exact ⟨k + 1, by omega, vint (by omega), HK2.out, fun j t' hj h => by
          by_cases hjk : j = k
          · subst hjk
            have e := HTT.out
            rw [h] at e
            injection e with e
            rw [e]; exact HF.out
          · exact hz.out j t' (by omega) h⟩
        case measure => simp [intOf]; omega
      | false =>
        have HF := Lib.hid hf
        clear hf
        go_wp2_with fail
        refine (rCheck_any S0.out S1.out).mono ?_
        rintro e w2 ⟨rfl, hk2⟩
        rw [HF.out]
        have T2 := HB1.out.keep (Kp.trans HKP.out hk2)
        have p2 := Put.made T2 (.slice none 0 0) (.slice none 0 0)
        have f0 := T2.free 0; have c0 := T2.c0; have f1 := (T2.set0 (.slice none 0 0)).free 1; have c1 := (T2.set0 (.slice none 0 0)).c1
        obtain ⟨X, hX⟩ : ∃ X, X = (w2.setCell ⟨w.heap.size, 0, none⟩ (.slice none 0 0)).setCell ⟨w.heap.size, 1, none⟩ (.slice none 0 0) := ⟨_, rfl⟩
        rw [← hX] at p2
        have FIN : Hid (MkR 1 (0, 0) w (.returned (.tuple #[.agg #[.slice none 0 0, .slice none 0 0], .int .i64 1])) X) :=
          ⟨⟨_, _, rfl, Sl.nil _, Sl.nil _, New.nil _, New.nil _⟩, p2.only.kp (Kp.trans HK1.out (Kp.trans HKP.out hk2)) (Nat.le_refl _)⟩
        have TW := Lib.hid p2.two
        have HX := Lib.hid hX
        clear hk2 T2 p2 hX
        go_wp2_with fail
        rw [← HX.out]
        clear f0 c0 f1 c1
        have c0 := TW.out.c0
        have c1 := TW.out.c1
        exact bodyPost_ret (by simp [results, Tryz.results12, go_sem, c0, c1]) rfl FIN.out
    · exfalso
      have := qbad_no (fun i t h => hz.out i t (by
          have := HL.out
          rcases Nat.lt_or_ge i ts.length with h1 | h1
          · omega
          · rw [List.getElem?_eq_none h1] at h; cases h) h)
      rw [HB.out] at this
      cases this
/-- How the reference's memory stands between two rounds. -/
structure RSumI (w wy : World) (b5 : Nat) (p : Nat × Nat) : Prop where
  two : ∃ vn vd, Two wy b5 26 vn vd ∧ Sl wy vn (limbs p.1) ∧ Sl wy vd (limbs p.2) ∧ New (w.heap.size + 1) vn ∧ New (w.heap.size + 1) vd
  res : Two wy w.heap.size 26 (.slice none 0 0) (.slice none 0 0)
  kp : Kp w wy
  lt : b5 < wy.heap.size
  ge : w.heap.size < b5
set_option maxRecDepth 100000 in
set_option maxHeartbeats 8000000 in
theorem rSum_ok {v : Value} {ts : List QItem} {ps : List (Nat × Nat)} {w : World} (hs : QS w v ts) (hn : QNum ts ps) :
    Calls Tryz.prog 12 #[v] w (MkR 0 (qsum ps) w) := by
  obtain ⟨ao, lc, rfl, -⟩ := hs.ex
  obtain ⟨len, hlen⟩ : ∃ len, len = ts.length := ⟨_, rfl⟩
  have hl9 : len ≤ 9 := by rw [hlen, hn.len]; exact hn.few
  obtain ⟨w1, hw1, HK1, HB1, hz1⟩ := start2 w 26
  rw [← hlen] at hs ⊢
  have HS := Lib.hid hs; have HL := Lib.hid hlen; have HN := Lib.hid hn; have HW := Lib.hid hw1; have HZ1 := Lib.hid hz1
  clear hs hlen hn hw1 hz1
  go_enter Tryz.func12, Tryz.ntmps12
  go_wp2_with fail
  rw [← HW.out]
  go_loopw [4] (fun iv wy => ∃ k : Nat, k ≤ len ∧ iv = .int .i64 k ∧ Kp w1 wy) (fun iv _ => len - (intOf iv).toNat)
  case atStart => exact ⟨0, Nat.zero_le _, rfl, Kp.refl _⟩
  case round =>
    obtain ⟨k, hk, rfl, hkp⟩ := hrel
    have HKP := Lib.hid hkp
    have HK0 := Lib.hid (Kp.trans HK1.out hkp)
    clear hkp
    by_cases hkl : k < len
    · obtain ⟨t, n, d, ht, hp, en, ed, good⟩ := HN.out.get (i := k) (by have := HL.out; omega)
      obtain ⟨g, rfl, k0, k1, s3, s4⟩ := (HS.out.keep HK0.out).at rfl ht
      rw [en] at s3
      rw [ed] at s4
      obtain ⟨no, nl, nc, e0⟩ := s3.open3
      obtain ⟨do', dl, dc, e1⟩ := s4.open3
      rw [e0] at k0 s3
      rw [e1] at k1 s4
      have S3 := Lib.hid s3; have S4 := Lib.hid s4; have HF := Lib.hid good.ok
      clear ht hp en ed good s3 s4 e0 e1
      go_wp2_with fail
      refine (rCheck_any S3.out S4.out).mono ?_
      rintro e w2 ⟨rfl, hk2⟩
      rw [HF.out]
      have HK2 := Lib.hid (Kp.trans HKP.out hk2)
      clear hk2
      go_wp2_with fail
      go_roundw
      case rel => exact ⟨k + 1, by omega, vint (by omega), HK2.out⟩
      case measure => simp [intOf]; omega
    · go_wp2_with fail
      refine (rZero_any wr).mono ?_
      rintro e w4 ⟨⟨vd, rfl, h1, h2⟩, hk4⟩
      obtain ⟨uo, ul, uc, rfl⟩ := h1.open3
      obtain ⟨W5, hW5, KW5, BW5, zW5⟩ := box2 w4 26 (.slice none 0 0) (.slice uo ul uc)
      obtain ⟨b5, hb5⟩ : ∃ b5, b5 = w4.heap.size := ⟨_, rfl⟩
      rw [← hb5] at BW5
      have z1 := HKP.out.size; have z4 := hk4.size; have z0 := HZ1.out
      have hk5 := Kp.trans hk4 KW5.out
      have INI : Hid (RSumI w W5 b5 (0, 1)) :=
        ⟨⟨_, _, BW5.out, Sl.nil _, h1.keep KW5.out, New.nil _, h2.mono (by omega)⟩, HB1.out.keep (Kp.trans HKP.out hk5), Kp.trans HK0.out hk5, by omega, by omega⟩
      have HW5 := Lib.hid hW5; have HB5 := Lib.hid hb5
      clear h1 h2 hk4 hW5 hk5 hb5 z1 z4 z0 zW5 BW5 KW5
      go_wp2_with fail
      rw [← HW5.out, ← HB5.out]
      go_loopw [6] (fun iv wy => ∃ k : Nat, k ≤ len ∧ iv = .int .i64 k ∧ RSumI w wy b5 (qsum (ps.take k))) (fun iv _ => len - (intOf iv).toNat)
      case atStart => exact ⟨0, Nat.zero_le _, rfl, INI.out⟩
      case round =>
      obtain ⟨k, hk, rfl, hI⟩ := hrel
      have HI := Lib.hid hI
      obtain ⟨⟨xn, xd, tw, s1, s2, m1, m2⟩, res, kpw, lt, geb⟩ := hI
      obtain ⟨xo, xl, xc, rfl⟩ := s1.open3
      obtain ⟨yo, yl, yc, rfl⟩ := s2.open3
      by_cases hkl : ¬ k < len
      · have hkl' : k = ps.length := by have := HN.out.len; have := HL.out; omega
        have e : ps.take k = ps := by rw [hkl']; exact List.take_length
        rw [e] at s1 s2
        have q0 := tw.c0; have q1 := tw.c1
        have p4 := Put.made res (.slice xo xl xc) (.slice yo yl yc)
        have f0 := res.free 0; have c0 := res.c0; have f1 := (res.set0 (.slice xo xl xc)).free 1; have c1 := (res.set0 (.slice xo xl xc)).c1
        obtain ⟨X, hX⟩ : ∃ X, X = (wr.setCell ⟨w.heap.size, 0, none⟩ (.slice xo xl xc)).setCell ⟨w.heap.size, 1, none⟩ (.slice yo yl yc) := ⟨_, rfl⟩
        rw [← hX] at p4
        have FIN : Hid (MkR 0 (qsum ps) w (.returned (.tuple #[.agg #[.slice xo xl xc, .slice yo yl yc], .int .i64 0])) X) :=
          ⟨⟨_, _, rfl, s1.only p4.only (m1.offs (by omega) _), s2.only p4.only (m2.offs (by omega) _), m1.mono (by omega), m2.mono (by omega)⟩, p4.only.kp kpw (Nat.le_refl _)⟩
        have TW := Lib.hid p4.two
        have HX := Lib.hid hX
        clear p4 hX e tw s1 s2 m1 m2 res kpw lt geb
        go_wp2_with fail
        rw [← HX.out]
        clear f0 c0 f1 c1 q0 q1
        have c0 := TW.out.c0
        have c1 := TW.out.c1
        exact bodyPost_ret (by simp [results, Tryz.results12, go_sem, c0, c1]) rfl FIN.out
      have hkl2 : k < len := by omega
      clear hkl
      obtain ⟨t, n, d, ht, hp, en, ed, good⟩ := HN.out.get (i := k) (by have := HL.out; omega)
      obtain ⟨g, rfl, k0, k1, s3, s4⟩ := (HS.out.keep kpw).at rfl ht
      rw [en] at s3
      rw [ed] at s4
      obtain ⟨no, nl, nc, e0⟩ := s3.open3
      obtain ⟨do', dl, dc, e1⟩ := s4.open3
      rw [e0] at k0 s3
      rw [e1] at k1 s4
      have sm := qsum_small HN.out.good k (by rw [← HN.out.len, ← HL.out]; omega)
      have ln := sm.len (by omega)
      have lg := good.len
      have HSM := Lib.hid sm; have HLN := Lib.hid ln; have HLG := Lib.hid lg; have HGOOD := Lib.hid good
      have S1 := Lib.hid s1; have S2 := Lib.hid s2; have S3 := Lib.hid s3; have S4 := Lib.hid s4
      have TW := Lib.hid tw; have K0 := Lib.hid k0; have K1 := Lib.hid k1
      have HQS := Lib.hid (qsum_succ hp)
      have LT := Lib.hid lt; have GEB := Lib.hid geb
      clear tw s1 s2 m1 m2 res kpw lt geb ht hp en ed good s3 s4 e0 e1 sm ln lg k0 k1
      go_upto_region 10 with fail
      refine wp_region_held_drew (S := (fun w' => w'.cell? ⟨b5, 0, none⟩ = some (.slice xo xl xc) ∧ w'.cell? ⟨b5, 1, none⟩ = some (.slice yo yl yc) ∧ w'.cell? ⟨g, k * 2, none⟩ = some (.slice no nl nc) ∧ w'.cell? ⟨g, k * 2 + 1, none⟩ = some (.slice do' dl dc) ∧ Kp wr w')) (by kernel_rfl) ?_ (fun hHeld => ?_)
      · exact ⟨cellK TW.out.c0 (Kp.drewN wr 1), cellK TW.out.c1 (Kp.drewN wr 1), cellK K0.out (Kp.drewN wr 1), cellK K1.out (Kp.drewN wr 1), Kp.drewN wr 1⟩
      refine wpAnyH_take (i := 0) (v := (.agg #[.slice xo xl xc, .slice yo yl yc])) rfl (by kernel_rfl) (by kernel_rfl) (by kernel_rfl) (fun _ _ _ h => h) (Or.inl ⟨by rfl, ?_⟩) (by assumption) ?_
      · (intro wq hSw; obtain ⟨q0, q1, q2, q3, -⟩ := hSw; go_simp)
      try simp only [Act.put, List.setIfInBounds_toArray, List.set_cons_zero, List.set_cons_succ]
      refine wpAnyH_take (i := 1) (v := (.slice (some ⟨g, 0, none⟩) len lc)) rfl (by kernel_rfl) (by kernel_rfl) (by kernel_rfl) (fun _ _ _ h => h) (Or.inl ⟨by rfl, ?_⟩) (by assumption) ?_
      · (intro wq hSw; obtain ⟨q0, q1, q2, q3, -⟩ := hSw; go_simp)
      try simp only [Act.put, List.setIfInBounds_toArray, List.set_cons_zero, List.set_cons_succ]
      refine wpAnyH_take (i := 2) (v := (.int .i64 (k : Nat))) rfl (by kernel_rfl) (by kernel_rfl) (by kernel_rfl) (fun _ _ _ h => h) (Or.inl ⟨by rfl, ?_⟩) (by assumption) ?_
      · (intro wq hSw; obtain ⟨q0, q1, q2, q3, -⟩ := hSw; go_simp)
      try simp only [Act.put, List.setIfInBounds_toArray, List.set_cons_zero, List.set_cons_succ]
      refine wpAnyH_take (i := 3) (v := (.pointer (some ⟨g, k * 2, none⟩))) rfl (by kernel_rfl) (by kernel_rfl) (by kernel_rfl) (fun _ _ _ h => h) (Or.inl ⟨by rfl, ?_⟩) (by assumption) ?_
      · (intro wq hSw; obtain ⟨q0, q1, q2, q3, -⟩ := hSw; go_simp)
      try simp only [Act.put, List.setIfInBounds_toArray, List.set_cons_zero, List.set_cons_succ]
      refine wpAnyH_take (i := 4) (v := (.agg #[.slice no nl nc, .slice do' dl dc])) rfl (by kernel_rfl) (by kernel_rfl) (by kernel_rfl) (fun _ _ _ h => h) (Or.inl ⟨by rfl, ?_⟩) (by assumption) ?_
      · (intro wq hSw; obtain ⟨q0, q1, q2, q3, -⟩ := hSw; go_simp)
      try simp only [Act.put, List.setIfInBounds_toArray, List.set_cons_zero, List.set_cons_succ]
      clear hHeld
      refine wpAnyH_ready (rs := [5, 9]) (by kernel_rfl) (by simp) (AllReadyH.cons rfl (fun KK hK => ?_) (AllReadyH.cons rfl (fun KK hK => ?_) AllReadyH.nil))
      · go_simp; go_at_call_of 34 (Value.slice xo xl xc); refine (rAddF_n (Nat.ne_of_gt HSM.out.pos) (Nat.ne_of_gt HGOOD.out.pos) HLN.out.1 HLN.out.2 HLG.out.1 HLG.out.2 HSM.out.low HGOOD.out.low (S1.out.keep (by repeat' (first | assumption | exact Kp.drewN wr 1 | exact Kp.refl _ | refine Kp.trans ?_ hkB | refine Kp.trans ?_ hk))) (S2.out.keep (by repeat' (first | assumption | exact Kp.drewN wr 1 | exact Kp.refl _ | refine Kp.trans ?_ hkB | refine Kp.trans ?_ hk))) (S3.out.keep (by repeat' (first | assumption | exact Kp.drewN wr 1 | exact Kp.refl _ | refine Kp.trans ?_ hkB | refine Kp.trans ?_ hk))) (S4.out.keep (by repeat' (first | assumption | exact Kp.drewN wr 1 | exact Kp.refl _ | refine Kp.trans ?_ hkB | refine Kp.trans ?_ hk)))).mono ?_; intro e w4 hq; obtain ⟨⟨vn, vz, rfl, h1, h2, h3, h4⟩, hk⟩ := hq; obtain ⟨po, pl, pc, rfl⟩ := h1.open3; obtain ⟨ro, rl, rc, rfl⟩ := h2.open3; go_wp2_with fail
        refine hK.out _ _ (⟨cellK TW.out.c0 ((by repeat' (first | assumption | exact Kp.drewN wr 1 | exact Kp.refl _ | refine Kp.trans ?_ hkB | refine Kp.trans ?_ hk))), cellK TW.out.c1 ((by repeat' (first | assumption | exact Kp.drewN wr 1 | exact Kp.refl _ | refine Kp.trans ?_ hkB | refine Kp.trans ?_ hk))), cellK K0.out ((by repeat' (first | assumption | exact Kp.drewN wr 1 | exact Kp.refl _ | refine Kp.trans ?_ hkB | refine Kp.trans ?_ hk))), cellK K1.out ((by repeat' (first | assumption | exact Kp.drewN wr 1 | exact Kp.refl _ | refine Kp.trans ?_ hkB | refine Kp.trans ?_ hk))), (by repeat' (first | assumption | exact Kp.drewN wr 1 | exact Kp.refl _ | refine Kp.trans ?_ hkB | refine Kp.trans ?_ hk))⟩) (fun hHeld => ?_)
        clear hK KK
        try simp only [Act.put, List.setIfInBounds_toArray, List.set_cons_zero, List.set_cons_succ]
        refine wpAnyH_take (i := 6) (v := (.tuple #[.agg #[.slice po pl pc, .slice ro rl rc], .int .i64 0])) rfl (by kernel_rfl) (by kernel_rfl) (by kernel_rfl) (fun _ _ _ h => h) (Or.inl ⟨by rfl, ?_⟩) (by assumption) ?_
        · (intro wq hSw; obtain ⟨q0, q1, q2, q3, -⟩ := hSw; go_simp)
        try simp only [Act.put, List.setIfInBounds_toArray, List.set_cons_zero, List.set_cons_succ]
        refine wpAnyH_take (i := 7) (v := (.agg #[.slice po pl pc, .slice ro rl rc])) rfl (by kernel_rfl) (by kernel_rfl) (by kernel_rfl) (fun _ _ _ h => h) (Or.inl ⟨by rfl, ?_⟩) (by assumption) ?_
        · (intro wq hSw; obtain ⟨q0, q1, q2, q3, -⟩ := hSw; go_simp)
        try simp only [Act.put, List.setIfInBounds_toArray, List.set_cons_zero, List.set_cons_succ]
        refine wpAnyH_take (i := 8) (v := (.int .i64 0)) rfl (by kernel_rfl) (by kernel_rfl) (by kernel_rfl) (fun _ _ _ h => h) (Or.inl ⟨by rfl, ?_⟩) (by assumption) ?_
        · (intro wq hSw; obtain ⟨q0, q1, q2, q3, -⟩ := hSw; go_simp)
        try simp only [Act.put, List.setIfInBounds_toArray, List.set_cons_zero, List.set_cons_succ]
        clear hHeld
        refine wpAnyH_ready (rs := [9]) (by kernel_rfl) (by simp) (AllReadyH.cons rfl (fun KK hK => ?_) AllReadyH.nil)
        refine step_new rfl 7 rfl rfl ?_; intro wB g7 hkB T7 lo7 hi7
        refine hK.out _ _ (⟨cellK TW.out.c0 ((by repeat' (first | assumption | exact Kp.drewN wr 1 | exact Kp.refl _ | refine Kp.trans ?_ hkB | refine Kp.trans ?_ hk))), cellK TW.out.c1 ((by repeat' (first | assumption | exact Kp.drewN wr 1 | exact Kp.refl _ | refine Kp.trans ?_ hkB | refine Kp.trans ?_ hk))), cellK K0.out ((by repeat' (first | assumption | exact Kp.drewN wr 1 | exact Kp.refl _ | refine Kp.trans ?_ hkB | refine Kp.trans ?_ hk))), cellK K1.out ((by repeat' (first | assumption | exact Kp.drewN wr 1 | exact Kp.refl _ | refine Kp.trans ?_ hkB | refine Kp.trans ?_ hk))), (by repeat' (first | assumption | exact Kp.drewN wr 1 | exact Kp.refl _ | refine Kp.trans ?_ hkB | refine Kp.trans ?_ hk))⟩) (fun hHeld => ?_)
        clear hK KK
        try simp only [Act.put, List.setIfInBounds_toArray, List.set_cons_zero, List.set_cons_succ]
        clear hHeld
        refine wpAnyH_ready (rs := [10]) (by kernel_rfl) (by simp) (AllReadyH.cons rfl (fun KK hK => ?_) AllReadyH.nil)
        refine step_put (x := .slice none 0 0) (y := .slice none 0 0) rfl 7 36 rfl rfl rfl rfl (by first | assumption | exact Two.keep T7 hk) ?_; intro w7 hp7; have hk7 : Kp wr w7 := Only.kp (by repeat' (first | assumption | exact Kp.drewN wr 1 | exact Kp.refl _ | refine Kp.trans ?_ hkB | refine Kp.trans ?_ hk)) hp7.only (by have z1 := kp_le hkB; have z2 := kp_le hk; have z0 : wr.heap.size ≤ wr.drew.heap.size := Nat.le_refl _; omega)
        refine hK.out _ _ (⟨cellK TW.out.c0 (hk7), cellK TW.out.c1 (hk7), cellK K0.out (hk7), cellK K1.out (hk7), hk7⟩) (fun hHeld => ?_)
        clear hK KK
        try simp only [Act.put, List.setIfInBounds_toArray, List.set_cons_zero, List.set_cons_succ]
        refine wpAnyH_take (i := 11) (v := (.int .i64 0)) rfl (by kernel_rfl) (by kernel_rfl) (by kernel_rfl) (fun _ _ _ h => h) (Or.inl ⟨by rfl, ?_⟩) (by assumption) ?_
        · (intro wq hSw; obtain ⟨q0, q1, q2, q3, -⟩ := hSw; go_simp)
        try simp only [Act.put, List.setIfInBounds_toArray, List.set_cons_zero, List.set_cons_succ]
        clear hHeld
        refine wpAnyH_done (by kernel_rfl) ?_ _
        have z1 := kp_le hkB; have z2 := kp_le hk
        have z0 : wr.heap.size ≤ wr.drew.heap.size := Nat.le_refl _
        have z3 := LT.out; have z4 := GEB.out; have z5 := hk7.size
        have KH1 : Sl w7 (.slice po pl pc) (limbs (qadd (qsum (ps.take k)) (n, d)).1) := by first | exact (h1.keep hkB).only hp7.only (h1.off lo7) | exact h1.only hp7.only (h3.offs hi7 _)
        have KH2 : Sl w7 (.slice ro rl rc) (limbs (qadd (qsum (ps.take k)) (n, d)).2) := by first | exact (h2.keep hkB).only hp7.only (h2.off lo7) | exact h2.only hp7.only (h4.offs hi7 _)
        have m0 := hp7.two.c0; have m1 := hp7.two.c1
        have T5 := TW.out.keep hk7
        have p5 := Put.made T5 (.slice po pl pc) (.slice ro rl rc)
        have f0 := T5.free 0; have c0 := T5.c0; have f1 := (T5.set0 (.slice po pl pc)).free 1; have c1 := (T5.set0 (.slice po pl pc)).c1
        obtain ⟨X, hX⟩ : ∃ X, X = (w7.setCell ⟨b5, 0, none⟩ (.slice po pl pc)).setCell ⟨b5, 1, none⟩ (.slice ro rl rc) := ⟨_, rfl⟩
        rw [← hX] at p5
        have z6 := p5.only.size
        have FIN : Hid (RSumI w X b5 (qsum (ps.take (k + 1)))) := by
          show RSumI w X b5 (qsum (ps.take (k + 1)))
          rw [HQS.out]
          exact ⟨⟨_, _, p5.two, KH1.only p5.only (h3.offs (by omega) _), KH2.only p5.only (h4.offs (by omega) _), h3.mono (by omega), h4.mono (by omega)⟩, ⟨(p5.only.block _ (by omega)).trans (HI.out.res.keep hk7).blk⟩, p5.only.kp (Kp.trans HI.out.kp hk7) (by omega), by omega, by omega⟩
        have HX := Lib.hid hX
        clear hX p5 T5 KH1 KH2 z1 z2 z0 z3 z4 z5 z6
        go_wp2_with fail
        rw [← HX.out]
        go_roundw
        case rel => exact ⟨k + 1, by omega, vint (by omega), FIN.out⟩
        case measure => simp [intOf]; omega
      · refine step_new rfl 7 rfl rfl ?_; intro wB g7 hkB T7 lo7 hi7
        refine hK.out _ _ (⟨cellK TW.out.c0 ((by repeat' (first | assumption | exact Kp.drewN wr 1 | exact Kp.refl _ | refine Kp.trans ?_ hkB | refine Kp.trans ?_ hk))), cellK TW.out.c1 ((by repeat' (first | assumption | exact Kp.drewN wr 1 | exact Kp.refl _ | refine Kp.trans ?_ hkB | refine Kp.trans ?_ hk))), cellK K0.out ((by repeat' (first | assumption | exact Kp.drewN wr 1 | exact Kp.refl _ | refine Kp.trans ?_ hkB | refine Kp.trans ?_ hk))), cellK K1.out ((by repeat' (first | assumption | exact Kp.drewN wr 1 | exact Kp.refl _ | refine Kp.trans ?_ hkB | refine Kp.trans ?_ hk))), (by repeat' (first | assumption | exact Kp.drewN wr 1 | exact Kp.refl _ | refine Kp.trans ?_ hkB | refine Kp.trans ?_ hk))⟩) (fun hHeld => ?_)
        clear hK KK
        try simp only [Act.put, List.setIfInBounds_toArray, List.set_cons_zero, List.set_cons_succ]
        clear hHeld
        refine wpAnyH_ready (rs := [5]) (by kernel_rfl) (by simp) (AllReadyH.cons rfl (fun KK hK => ?_) AllReadyH.nil)
        go_simp; go_at_call_of 34 (Value.slice xo xl xc); refine (rAddF_n (Nat.ne_of_gt HSM.out.pos) (Nat.ne_of_gt HGOOD.out.pos) HLN.out.1 HLN.out.2 HLG.out.1 HLG.out.2 HSM.out.low HGOOD.out.low (S1.out.keep (by repeat' (first | assumption | exact Kp.drewN wr 1 | exact Kp.refl _ | refine Kp.trans ?_ hkB | refine Kp.trans ?_ hk))) (S2.out.keep (by repeat' (first | assumption | exact Kp.drewN wr 1 | exact Kp.refl _ | refine Kp.trans ?_ hkB | refine Kp.trans ?_ hk))) (S3.out.keep (by repeat' (first | assumption | exact Kp.drewN wr 1 | exact Kp.refl _ | refine Kp.trans ?_ hkB | refine Kp.trans ?_ hk))) (S4.out.keep (by repeat' (first | assumption | exact Kp.drewN wr 1 | exact Kp.refl _ | refine Kp.trans ?_ hkB | refine Kp.trans ?_ hk)))).mono ?_; intro e w4 hq; obtain ⟨⟨vn, vz, rfl, h1, h2, h3, h4⟩, hk⟩ := hq; obtain ⟨po, pl, pc, rfl⟩ := h1.open3; obtain ⟨ro, rl, rc, rfl⟩ := h2.open3; go_wp2_with fail
        refine hK.out _ _ (⟨cellK TW.out.c0 ((by repeat' (first | assumption | exact Kp.drewN wr 1 | exact Kp.refl _ | refine Kp.trans ?_ hkB | refine Kp.trans ?_ hk))), cellK TW.out.c1 ((by repeat' (first | assumption | exact Kp.drewN wr 1 | exact Kp.refl _ | refine Kp.trans ?_ hkB | refine Kp.trans ?_ hk))), cellK K0.out ((by repeat' (first | assumption | exact Kp.drewN wr 1 | exact Kp.refl _ | refine Kp.trans ?_ hkB | refine Kp.trans ?_ hk))), cellK K1.out ((by repeat' (first | assumption | exact Kp.drewN wr 1 | exact Kp.refl _ | refine Kp.trans ?_ hkB | refine Kp.trans ?_ hk))), (by repeat' (first | assumption | exact Kp.drewN wr 1 | exact Kp.refl _ | refine Kp.trans ?_ hkB | refine Kp.trans ?_ hk))⟩) (fun hHeld => ?_)
        clear hK KK
        try simp only [Act.put, List.setIfInBounds_toArray, List.set_cons_zero, List.set_cons_succ]
        refine wpAnyH_take (i := 6) (v := (.tuple #[.agg #[.slice po pl pc, .slice ro rl rc], .int .i64 0])) rfl (by kernel_rfl) (by kernel_rfl) (by kernel_rfl) (fun _ _ _ h => h) (Or.inl ⟨by rfl, ?_⟩) (by assumption) ?_
        · (intro wq hSw; obtain ⟨q0, q1, q2, q3, -⟩ := hSw; go_simp)
        try simp only [Act.put, List.setIfInBounds_toArray, List.set_cons_zero, List.set_cons_succ]
        refine wpAnyH_take (i := 7) (v := (.agg #[.slice po pl pc, .slice ro rl rc])) rfl (by kernel_rfl) (by kernel_rfl) (by kernel_rfl) (fun _ _ _ h => h) (Or.inl ⟨by rfl, ?_⟩) (by assumption) ?_
        · (intro wq hSw; obtain ⟨q0, q1, q2, q3, -⟩ := hSw; go_simp)
        try simp only [Act.put, List.setIfInBounds_toArray, List.set_cons_zero, List.set_cons_succ]
        refine wpAnyH_take (i := 8) (v := (.int .i64 0)) rfl (by kernel_rfl) (by kernel_rfl) (by kernel_rfl) (fun _ _ _ h => h) (Or.inl ⟨by rfl, ?_⟩) (by assumption) ?_
        · (intro wq hSw; obtain ⟨q0, q1, q2, q3, -⟩ := hSw; go_simp)
        try simp only [Act.put, List.setIfInBounds_toArray, List.set_cons_zero, List.set_cons_succ]
        clear hHeld
        refine wpAnyH_ready (rs := [10]) (by kernel_rfl) (by simp) (AllReadyH.cons rfl (fun KK hK => ?_) AllReadyH.nil)
        refine step_put (x := .slice none 0 0) (y := .slice none 0 0) rfl 7 36 rfl rfl rfl rfl (by first | assumption | exact Two.keep T7 hk) ?_; intro w7 hp7; have hk7 : Kp wr w7 := Only.kp (by repeat' (first | assumption | exact Kp.drewN wr 1 | exact Kp.refl _ | refine Kp.trans ?_ hkB | refine Kp.trans ?_ hk)) hp7.only (by have z1 := kp_le hkB; have z2 := kp_le hk; have z0 : wr.heap.size ≤ wr.drew.heap.size := Nat.le_refl _; omega)
        refine hK.out _ _ (⟨cellK TW.out.c0 (hk7), cellK TW.out.c1 (hk7), cellK K0.out (hk7), cellK K1.out (hk7), hk7⟩) (fun hHeld => ?_)
        clear hK KK
        try simp only [Act.put, List.setIfInBounds_toArray, List.set_cons_zero, List.set_cons_succ]
        refine wpAnyH_take (i := 11) (v := (.int .i64 0)) rfl (by kernel_rfl) (by kernel_rfl) (by kernel_rfl) (fun _ _ _ h => h) (Or.inl ⟨by rfl, ?_⟩) (by assumption) ?_
        · (intro wq hSw; obtain ⟨q0, q1, q2, q3, -⟩ := hSw; go_simp)
        try simp only [Act.put, List.setIfInBounds_toArray, List.set_cons_zero, List.set_cons_succ]
        clear hHeld
        refine wpAnyH_done (by kernel_rfl) ?_ _
        have z1 := kp_le hkB; have z2 := kp_le hk
        have z0 : wr.heap.size ≤ wr.drew.heap.size := Nat.le_refl _
        have z3 := LT.out; have z4 := GEB.out; have z5 := hk7.size
        have KH1 : Sl w7 (.slice po pl pc) (limbs (qadd (qsum (ps.take k)) (n, d)).1) := by first | exact (h1.keep hkB).only hp7.only (h1.off lo7) | exact h1.only hp7.only (h3.offs hi7 _)
        have KH2 : Sl w7 (.slice ro rl rc) (limbs (qadd (qsum (ps.take k)) (n, d)).2) := by first | exact (h2.keep hkB).only hp7.only (h2.off lo7) | exact h2.only hp7.only (h4.offs hi7 _)
        have m0 := hp7.two.c0; have m1 := hp7.two.c1
        have T5 := TW.out.keep hk7
        have p5 := Put.made T5 (.slice po pl pc) (.slice ro rl rc)
        have f0 := T5.free 0; have c0 := T5.c0; have f1 := (T5.set0 (.slice po pl pc)).free 1; have c1 := (T5.set0 (.slice po pl pc)).c1
        obtain ⟨X, hX⟩ : ∃ X, X = (w7.setCell ⟨b5, 0, none⟩ (.slice po pl pc)).setCell ⟨b5, 1, none⟩ (.slice ro rl rc) := ⟨_, rfl⟩
        rw [← hX] at p5
        have z6 := p5.only.size
        have FIN : Hid (RSumI w X b5 (qsum (ps.take (k + 1)))) := by
          show RSumI w X b5 (qsum (ps.take (k + 1)))
          rw [HQS.out]
          exact ⟨⟨_, _, p5.two, KH1.only p5.only (h3.offs (by omega) _), KH2.only p5.only (h4.offs (by omega) _), h3.mono (by omega), h4.mono (by omega)⟩, ⟨(p5.only.block _ (by omega)).trans (HI.out.res.keep hk7).blk⟩, p5.only.kp (Kp.trans HI.out.kp hk7) (by omega), by omega, by omega⟩
        have HX := Lib.hid hX
        clear hX p5 T5 KH1 KH2 z1 z2 z0 z3 z4 z5 z6
        go_wp2_with fail
        rw [← HX.out]
        go_roundw
        case rel => exact ⟨k + 1, by omega, vint (by omega), FIN.out⟩
        case measure => simp [intOf]; omega
end Go.Proofs.YtdoponlhiidimaaGreatDoor
