/- The reference's SameDecl and Same at two that read the same. Conditions: names have at most a million bytes, rows at most a million items. -/
import Derived.Test.YtmflgfojicaecaaGreatDoorSSm
import Derived.StillTailTactics
namespace Go.Proofs.YtmflgfojicaecaaGreatDoor
namespace By
open Go.RowKit WireN LexN SrcN
set_option linter.unusedVariables false
set_option linter.unusedSimpArgs false

set_option maxRecDepth 100000 in
set_option maxHeartbeats 2000000 in
theorem SameDecl_eq {d : XD} {pa ba pa' ba' : Option Addr} {pc bc pc' bc' : Nat} {w : World} (hP : Sts w (.slice pa d.ps.length pc) d.ps) (hB : Nds w (.slice ba d.bd.length bc) d.bd) (hP' : Sts w (.slice pa' d.ps.length pc') d.ps) (hB' : Nds w (.slice ba' d.bd.length bc') d.bd) :
    Calls Tryz.prog 40 #[.agg #[.int .i64 d.k, .string (st d.nm), .slice pa d.ps.length pc, .slice ba d.bd.length bc], .agg #[.int .i64 d.k, .string (st d.nm), .slice pa' d.ps.length pc', .slice ba' d.bd.length bc']] w fun e W' => e = .returned (.bool true) ∧ Kp w W' := by
  have HPA := Lib.hid hP; have HPB := Lib.hid hP'
  obtain ⟨⟨a1, c1', e1, hl6, ha⟩, -⟩ := hB
  simp only [Value.slice.injEq] at e1
  obtain ⟨rfl, -, rfl⟩ := e1
  obtain ⟨⟨b1, d1', e2, -, hb⟩, -⟩ := hB'
  simp only [Value.slice.injEq] at e2
  obtain ⟨rfl, -, rfl⟩ := e2
  have HA := Lib.hid ha; have HB := Lib.hid hb
  obtain ⟨n, hn⟩ : ∃ n, n = d.bd.length := ⟨_, rfl⟩
  obtain ⟨pl, hpl⟩ : ∃ n, n = d.ps.length := ⟨_, rfl⟩
  obtain ⟨S, hS⟩ : ∃ S, S = st d.nm := ⟨_, rfl⟩
  obtain ⟨k, hk⟩ : ∃ S, S = d.k := ⟨_, rfl⟩
  rw [← hpl] at HPA HPB
  rw [← hn] at hl6
  rw [← hn, ← hpl, ← hS, ← hk]
  have HN := Lib.hid hn
  clear ha hb hn hS hpl hk hP hP'
  obtain ⟨W1, hW1⟩ : ∃ W1, W1 = w.alloc (Obj.cells #[.int .i64 k, .string S, .slice pa pl pc, .slice ba n bc] 38) := ⟨_, rfl⟩
  obtain ⟨W2, hW2⟩ : ∃ W2, W2 = W1.alloc (Obj.cells #[.int .i64 k, .string S, .slice pa' pl pc', .slice ba' n bc'] 38) := ⟨_, rfl⟩
  have k1 : Kp w W1 := by rw [hW1]; exact kp_alloc _ _
  have k2 : Kp W1 W2 := by rw [hW2]; exact kp_alloc _ _
  have z1 : W1.heap.size = w.heap.size + 1 := by rw [hW1]; simp
  have b1 : Blk W2 w.heap.size 38 #[.int .i64 k, .string S, .slice pa pl pc, .slice ba n bc] := by
    have : Blk W1 w.heap.size 38 #[.int .i64 k, .string S, .slice pa pl pc, .slice ba n bc] := by rw [hW1]; exact Blk.new _ _ _
    exact this.keep k2
  have b2 : Blk W2 (w.heap.size + 1) 38 #[.int .i64 k, .string S, .slice pa' pl pc', .slice ba' n bc'] := by rw [← z1, hW2]; exact Blk.new _ _ _
  have B1 := Lib.hid b1; have B2 := Lib.hid b2; have K2 := Lib.hid (Kp.trans k1 k2)
  have CT : Hid (∀ W, Kp w W → Calls Tryz.prog 39 #[.slice pa pl pc, .slice pa' pl pc'] W fun e W' => e = .returned (.bool true) ∧ Kp W W') := Lib.hid (fun W hk => sameTexts_eq (HPA.out.kp hk) (HPB.out.kp hk))
  have x0 := b1.cell 0 rfl; have x1 := b1.cell 1 rfl; have x2 := b1.cell 2 rfl; have x3 := b1.cell 3 rfl
  have y0 := b2.cell 0 rfl; have y1 := b2.cell 1 rfl; have y2 := b2.cell 2 rfl; have y3 := b2.cell 3 rfl
  have HW : Hid (W2 = (w.alloc (Obj.cells #[.int .i64 k, .string S, .slice pa pl pc, .slice ba n bc] 38)).alloc (Obj.cells #[.int .i64 k, .string S, .slice pa' pl pc', .slice ba' n bc'] 38)) := Lib.hid (by rw [hW2, hW1])
  rw [HW.out] at x0 x1 x2 x3 y0 y1 y2 y3
  clear hW1 hW2 k1 k2 z1 b1 b2
  go_enter Tryz.func40, Tryz.ntmps40
  go_wp2_with fail
  rw [← HW.out]
  refine (CT.out _ K2.out).mono ?_
  rintro e W3 ⟨rfl, hk3⟩
  have K3 := Lib.hid hk3
  have g1 := B1.out.keep hk3
  have g2 := B2.out.keep hk3
  have u3 := g1.cell 3 rfl
  have v3 := g2.cell 3 rfl
  clear hk3 x0 x1 x2 x3 y0 y1 y2 y3 g1 g2
  go_wp2_with fail
  clear u3 v3
  go_loopw [38] (fun iv wy => ∃ i : Nat, i ≤ n ∧ iv = .int .i64 i ∧ Kp W2 wy) (fun iv _ => n - (intOf iv).toNat)
  case atStart => exact ⟨0, Nat.zero_le _, rfl, K3.out⟩
  case round =>
    obtain ⟨i, hi, rfl, hkp⟩ := hrel
    have HKP := Lib.hid hkp
    have p3 := (B1.out.keep hkp).cell 3 rfl
    have q3 := (B2.out.keep hkp).cell 3 rfl
    clear hkp
    rename World => wy
    by_cases hil : i < n
    · obtain ⟨x, hx⟩ : ∃ x, d.bd[i]? = some x := ⟨_, List.getElem?_eq_getElem (by have := HN.out; omega)⟩
      rcases HA.out with h0 | ⟨ga, oa, rfl, hca⟩
      · rw [h0] at hx; cases hx
      rcases HB.out with h0 | ⟨gb, ob, rfl, hcb⟩
      · rw [h0] at hx; cases hx
      have KK := Kp.trans K2.out HKP.out
      obtain ⟨aa, ac, m0, m1, m2, m3, m4, hI⟩ := (hca i x hx).kp KK
      obtain ⟨aa', ac', l0, l1, l2, l3, l4, hI'⟩ := (hcb i x hx).kp KK
      have C : Hid (∀ W, Kp wy W → Calls Tryz.prog 68 #[.agg #[.int .i64 x.k, .int .i64 x.num, .int .i64 x.op, .string (st x.nm), .slice aa x.args.length ac], .agg #[.int .i64 x.k, .int .i64 x.num, .int .i64 x.op, .string (st x.nm), .slice aa' x.args.length ac']] W fun e W' => e = .returned (.bool true) ∧ Kp W W') := Lib.hid (fun W hk => sameExpr_eq (hI.kp hk) (hI'.kp hk))
      obtain ⟨X0, hX0⟩ : ∃ z, z = x.k := ⟨_, rfl⟩
      obtain ⟨X1, hX1⟩ : ∃ z, z = x.num := ⟨_, rfl⟩
      obtain ⟨X2, hX2⟩ : ∃ z, z = x.op := ⟨_, rfl⟩
      obtain ⟨X3, hX3⟩ : ∃ z, z = st x.nm := ⟨_, rfl⟩
      obtain ⟨X4, hX4⟩ : ∃ z, z = x.args.length := ⟨_, rfl⟩
      rw [← hX0, ← hX1, ← hX2, ← hX3, ← hX4] at C
      rw [← hX0] at m0 l0
      rw [← hX1] at m1 l1
      rw [← hX2] at m2 l2
      rw [← hX3] at m3 l3
      rw [← hX4] at m4 l4
      clear hx hca hcb KK hI hI' hX0 hX1 hX2 hX3 hX4
      go_wp2_with fail
      go_still_tail 10, (by kernel_rfl)
      change wpList _ _ _ _ _ wy.drew
      have KD : Hid (Kp wy wy.drew) := Lib.hid (kp_drew wy)
      generalize wy.drew = wd at KD
      clear p3 q3 m0 m1 m2 m3 m4 l0 l1 l2 l3 l4
      go_wp2_with fail
      refine (C.out _ KD.out).mono ?_
      rintro e W5 ⟨rfl, hk5⟩
      have K5 := Lib.hid (Kp.trans HKP.out (Kp.trans KD.out hk5))
      clear hk5
      go_wp2_with fail
      go_roundw
      case rel => exact ⟨i + 1, by omega, vint (by omega), K5.out⟩
      case measure => simp [intOf]; omega
    · go_wp2_with fail
      go_ret
      exact ⟨rfl, Kp.trans K2.out HKP.out⟩
set_option maxRecDepth 100000 in
set_option maxHeartbeats 2000000 in
theorem Same_eq {f : XS} {iv dv iv' dv' : Value} {w : World} (h1 : SrcV w iv dv f) (h2 : SrcV w iv' dv' f) :
    Calls Tryz.prog 12 #[.agg #[.string (st f.pk), iv, dv], .agg #[.string (st f.pk), iv', dv']] w fun e W' => e = .returned (.bool true) ∧ Kp w W' := by
  have HPA := Lib.hid h1.im; have HPB := Lib.hid h2.im
  obtain ⟨⟨pa, pc, rfl, -, -⟩, -⟩ := h1.im
  obtain ⟨⟨pa', pc', rfl, -, -⟩, -⟩ := h2.im
  obtain ⟨⟨ba, bc, rfl, hl6, ha⟩, -⟩ := h1.dc
  obtain ⟨⟨ba', bc', rfl, -, hb⟩, -⟩ := h2.dc
  have HA := Lib.hid ha; have HB := Lib.hid hb
  obtain ⟨n, hn⟩ : ∃ n, n = f.dc.length := ⟨_, rfl⟩
  obtain ⟨pl, hpl⟩ : ∃ n, n = f.im.length := ⟨_, rfl⟩
  obtain ⟨S, hS⟩ : ∃ S, S = st f.pk := ⟨_, rfl⟩
  rw [← hpl] at HPA HPB
  rw [← hn] at hl6
  rw [← hn, ← hpl, ← hS]
  have HN := Lib.hid hn
  clear ha hb hn hS hpl h1 h2
  obtain ⟨W1, hW1⟩ : ∃ W1, W1 = w.alloc (Obj.cells #[.string S, .slice pa pl pc, .slice ba n bc] 29) := ⟨_, rfl⟩
  obtain ⟨W2, hW2⟩ : ∃ W2, W2 = W1.alloc (Obj.cells #[.string S, .slice pa' pl pc', .slice ba' n bc'] 29) := ⟨_, rfl⟩
  have k1 : Kp w W1 := by rw [hW1]; exact kp_alloc _ _
  have k2 : Kp W1 W2 := by rw [hW2]; exact kp_alloc _ _
  have z1 : W1.heap.size = w.heap.size + 1 := by rw [hW1]; simp
  have b1 : Blk W2 w.heap.size 29 #[.string S, .slice pa pl pc, .slice ba n bc] := by
    have : Blk W1 w.heap.size 29 #[.string S, .slice pa pl pc, .slice ba n bc] := by rw [hW1]; exact Blk.new _ _ _
    exact this.keep k2
  have b2 : Blk W2 (w.heap.size + 1) 29 #[.string S, .slice pa' pl pc', .slice ba' n bc'] := by rw [← z1, hW2]; exact Blk.new _ _ _
  have B1 := Lib.hid b1; have B2 := Lib.hid b2; have K2 := Lib.hid (Kp.trans k1 k2)
  have CT : Hid (∀ W, Kp w W → Calls Tryz.prog 39 #[.slice pa pl pc, .slice pa' pl pc'] W fun e W' => e = .returned (.bool true) ∧ Kp W W') := Lib.hid (fun W hk => sameTexts_eq (HPA.out.kp hk) (HPB.out.kp hk))
  have x0 := b1.cell 0 rfl; have x1 := b1.cell 1 rfl; have x2 := b1.cell 2 rfl
  have y0 := b2.cell 0 rfl; have y1 := b2.cell 1 rfl; have y2 := b2.cell 2 rfl
  have HW : Hid (W2 = (w.alloc (Obj.cells #[.string S, .slice pa pl pc, .slice ba n bc] 29)).alloc (Obj.cells #[.string S, .slice pa' pl pc', .slice ba' n bc'] 29)) := Lib.hid (by rw [hW2, hW1])
  rw [HW.out] at x0 x1 x2 y0 y1 y2
  clear hW1 hW2 k1 k2 z1 b1 b2
  go_enter Tryz.func12, Tryz.ntmps12
  go_wp2_with fail
  rw [← HW.out]
  refine (CT.out _ K2.out).mono ?_
  rintro e W3 ⟨rfl, hk3⟩
  have K3 := Lib.hid hk3
  have g1 := B1.out.keep hk3
  have g2 := B2.out.keep hk3
  have u2 := g1.cell 2 rfl
  have v2 := g2.cell 2 rfl
  clear hk3 x0 x1 x2 y0 y1 y2 g1 g2
  go_wp2_with fail
  clear u2 v2
  go_loopw [31] (fun iv wy => ∃ i : Nat, i ≤ n ∧ iv = .int .i64 i ∧ Kp W2 wy) (fun iv _ => n - (intOf iv).toNat)
  case atStart => exact ⟨0, Nat.zero_le _, rfl, K3.out⟩
  case round =>
    obtain ⟨i, hi, rfl, hkp⟩ := hrel
    have HKP := Lib.hid hkp
    have p2 := (B1.out.keep hkp).cell 2 rfl
    have q2 := (B2.out.keep hkp).cell 2 rfl
    clear hkp
    rename World => wy
    by_cases hil : i < n
    · obtain ⟨x, hx⟩ : ∃ x, f.dc[i]? = some x := ⟨_, List.getElem?_eq_getElem (by have := HN.out; omega)⟩
      rcases HA.out with h0 | ⟨ga, oa, rfl, hca⟩
      · rw [h0] at hx; cases hx
      rcases HB.out with h0 | ⟨gb, ob, rfl, hcb⟩
      · rw [h0] at hx; cases hx
      have KK := Kp.trans K2.out HKP.out
      obtain ⟨ea, ec, ga', gc, m0, m1, m2, m3, hP, hB⟩ := (hca i x hx).kp KK
      obtain ⟨ea', ec', gb', gc', l0, l1, l2, l3, hP', hB'⟩ := (hcb i x hx).kp KK
      have C : Hid (∀ W, Kp wy W → Calls Tryz.prog 40 #[.agg #[.int .i64 x.k, .string (st x.nm), .slice ea x.ps.length ec, .slice ga' x.bd.length gc], .agg #[.int .i64 x.k, .string (st x.nm), .slice ea' x.ps.length ec', .slice gb' x.bd.length gc']] W fun e W' => e = .returned (.bool true) ∧ Kp W W') := Lib.hid (fun W hk => SameDecl_eq (hP.kp hk) (hB.kp hk) (hP'.kp hk) (hB'.kp hk))
      obtain ⟨X0, hX0⟩ : ∃ z, z = x.k := ⟨_, rfl⟩
      obtain ⟨X1, hX1⟩ : ∃ z, z = st x.nm := ⟨_, rfl⟩
      obtain ⟨X2, hX2⟩ : ∃ z, z = x.ps.length := ⟨_, rfl⟩
      obtain ⟨X3, hX3⟩ : ∃ z, z = x.bd.length := ⟨_, rfl⟩
      rw [← hX0, ← hX1, ← hX2, ← hX3] at C
      rw [← hX0] at m0 l0
      rw [← hX1] at m1 l1
      rw [← hX2] at m2 l2
      rw [← hX3] at m3 l3
      clear hx hca hcb KK hP hB hP' hB' hX0 hX1 hX2 hX3
      go_wp2_with fail
      go_still_tail 10, (by kernel_rfl)
      change wpList _ _ _ _ _ wy.drew
      have KD : Hid (Kp wy wy.drew) := Lib.hid (kp_drew wy)
      generalize wy.drew = wd at KD
      clear p2 q2 m0 m1 m2 m3 l0 l1 l2 l3
      go_wp2_with fail
      refine (C.out _ KD.out).mono ?_
      rintro e W5 ⟨rfl, hk5⟩
      have K5 := Lib.hid (Kp.trans HKP.out (Kp.trans KD.out hk5))
      clear hk5
      go_wp2_with fail
      go_roundw
      case rel => exact ⟨i + 1, by omega, vint (by omega), K5.out⟩
      case measure => simp [intOf]; omega
    · go_wp2_with fail
      go_ret
      exact ⟨rfl, Kp.trans K2.out HKP.out⟩
end By
end Go.Proofs.YtmflgfojicaecaaGreatDoor
