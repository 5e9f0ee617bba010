/- The law on blanks: it returns true for all tapes, and leaves what was there. Condition: a package variable of the library holds some integer. -/
import Derived.Test.YtifhbbjalodplaaDoorLWLaw
import Derived.Test.YtifhbbjalodplaaDoorLBlk
namespace Go.Proofs.YtifhbbjalodplaaDoor
namespace By
open Go.RowKit WireN LexN
set_option linter.unusedVariables false
set_option linter.unusedSimpArgs false

theorem s5_sep {x : List Nat} (h : x ∈ S5) : SepB x := by
  simp only [S5, List.mem_cons, List.not_mem_nil, or_false] at h
  rcases h with rfl | rfl | rfl | rfl | rfl
  · exact ⟨sep_one (by decide), by decide, by decide⟩
  · exact ⟨sep_append (s := [10]) (t := [10]) (sep_one (by decide)) (sep_one (by decide)), by decide, by decide⟩
  · exact ⟨sep_one (by decide), by decide, by decide⟩
  · exact ⟨sep_append (s := [32]) (t := [35, 32, 99, 32, 59, 32, 10]) (sep_one (by decide)) sep_comment, by decide, by decide⟩
  · exact ⟨sep_one (by decide), by decide, by decide⟩
theorem sep32 : SepB [32] := ⟨sep_one (by decide), by decide, by decide⟩
theorem w25_good {x : List Nat} (h : x ∈ W25) : goodW x = true := by
  have key : ∀ x ∈ W25, goodW x = true := by decide +kernel
  exact key x h
/-- A row of tokens of which those from a place on are as they were. -/
structure Rest (W : World) (B g : Nat) (ts : List Tok) (k : Nat) : Prop where
  ge : B ≤ g
  blk : ∃ cur, W.heap[g]? = some (.cells cur 42 (0, 0))
  cell : ∀ j t, k ≤ j → ts[j]? = some t → ∀ i u, (tcell t)[i]? = some u → W.cell? ⟨g, j * 4 + i, none⟩ = some u
theorem Rest.start {w W : World} {v : Value} {ts : List Tok} (h : TRow w W v ts) (hn : 0 < ts.length) : ∃ g cap, v = .slice (some ⟨g, 0, none⟩) ts.length cap ∧ ts.length ≤ cap ∧ g < W.heap.size ∧ Rest W w.heap.size g ts 0 := by
  obtain ⟨g, cap, hv, hc, h1, h2, h3⟩ := h.cell hn
  refine ⟨g, cap, hv, hc, h2, h1, ?_, fun j t _ ht i u hu => h3 j t ht i u hu⟩
  rcases h.own.2 with ⟨e, h0⟩ | ⟨g', cap', cur, e, hb, hg, -⟩
  · omega
  · rw [hv] at e
    injection e with e1 e2 e3
    injection e1 with e1
    injection e1 with e1
    subst e1
    exact ⟨cur, hg⟩
theorem Rest.free {W : World} {B g k : Nat} {ts : List Tok} (h : Rest W B g ts k) (i : Nat) : W.frozen? ⟨g, i, none⟩ = false := by
  obtain ⟨cur, hb⟩ := h.blk
  exact frozen_of_row W g i cur _ hb
theorem Rest.lt {W : World} {B g k : Nat} {ts : List Tok} (h : Rest W B g ts k) : g < W.heap.size := by
  obtain ⟨cur, hb⟩ := h.blk
  exact lt_of_block hb
theorem Rest.keep {W W' : World} {B g k : Nat} {ts : List Tok} (h : Rest W B g ts k) (hk : Kp W W') : Rest W' B g ts k := by
  obtain ⟨cur, hb⟩ := h.blk
  exact ⟨h.ge, ⟨cur, by rw [hk.block g (lt_of_block hb)]; exact hb⟩, fun j t hj ht i u hu => cell_kept (h.cell j t hj ht i u hu) hk⟩
theorem Rest.next {W : World} {B g k : Nat} {ts : List Tok} (h : Rest W B g ts k) (v : Value) : Rest (W.setCell ⟨g, k * 4 + 3, none⟩ v) B g ts (k + 1) := by
  obtain ⟨cur, hb⟩ := h.blk
  refine ⟨h.ge, ⟨_, heap_setCell_same W g (k * 4 + 3) _ _ v hb⟩, fun j t hj ht i u hu => ?_⟩
  rw [World.cell?_setCell_other W _ _ v (fun e => by injection e with e1 e2; omega)]
  exact h.cell j t (by omega) ht i u hu
theorem Rest.other {W : World} {B g g' k o : Nat} {ts : List Tok} (h : Rest W B g ts k) (hne : g ≠ g') (v : Value) : Rest (W.setCell ⟨g', o, none⟩ v) B g ts k := by
  obtain ⟨cur, hb⟩ := h.blk
  refine ⟨h.ge, ⟨cur, by rw [heap_setCell_other W ⟨g', o, none⟩ g v hne]; exact hb⟩, fun j t hj ht i u hu => ?_⟩
  rw [World.cell?_setCell_other W _ _ v (fun e => by injection e with e1 e2; omega)]
  exact h.cell j t hj ht i u hu

set_option maxRecDepth 100000 in
set_option maxHeartbeats 4000000 in
theorem lblanks_any {w : World} (hx : MX w) {v : Value} {zs : List Int} (hs : SlI w v zs) : Calls Tryd.prog 6 #[v] w fun e w' => e = .returned (.bool true) ∧ Kp w w' := by
  obtain ⟨ao, len, cap, rfl⟩ := hs.open3
  have HX := Lib.hid hx
  have HT := Lib.hid (Tp.start hs)
  clear hx hs
  go_enter Tryd.func6, Tryd.ntmps6
  go_wp2_with fail
  refine (words_any HT.out (by omega)).mono ?_
  rintro e w1 ⟨⟨v1, ws, at2, rfl, hrow, hall, hlen, htp, hat⟩, hgr⟩
  obtain ⟨wb, hwb⟩ : ∃ wb, wb = w.alloc (.cells #[.slice ao len cap, .int .i64 0] 29) := ⟨_, rfl⟩
  have HGB : Hid (w.heap.size < wb.heap.size) := Lib.hid (by rw [hwb]; simp)
  rw [← hwb] at hrow hgr
  have HROW := Lib.hid hrow; have HALL := Lib.hid hall; have HTP := Lib.hid htp; have HAT := Lib.hid hat; have HLEN := Lib.hid hlen
  obtain ⟨ao1, c1, hv1, hc1⟩ := hrow.form
  subst hv1
  obtain ⟨n, hn⟩ : ∃ n, n = ws.length := ⟨_, rfl⟩
  have HN := Lib.hid hn
  rw [← hn] at HROW hc1 ⊢
  have hnc : (n : Int) ≤ (c1 : Int) := by omega
  have hn13 : (n : Int) ≤ 13 := by omega
  clear hrow hall htp hat hlen hgr hwb hn hc1
  go_wp2_with fail
  go_loopw [4, 5, 21] (fun s1 s2 q wr => ∃ (k at3 : Nat) (ps qs : List (List Nat × List Nat)), q = .int .i64 k ∧ k ≤ n ∧ s1 = .string (st (text ps)) ∧ s2 = .string (st (text qs)) ∧ (∀ p ∈ ps, SepB p.1 ∧ goodW p.2 = true) ∧ (∀ p ∈ qs, SepB p.1 ∧ goodW p.2 = true) ∧ ps.map (·.2) = qs.map (·.2) ∧
    Lt (text ps) ∧ Lt (text qs) ∧ (text ps).length ≤ 50 * k ∧ (text qs).length ≤ 50 * k ∧ Tp w wr w.heap.size at3 ∧ at3 ≤ 14 + k ∧ WRow wb wr (.slice ao1 n c1) ws) (fun _ _ q _ => n - (intOf q).toNat)
  case atStart => exact ⟨0, at2, [], [], rfl, Nat.zero_le _, rfl, rfl, by simp, by simp, rfl, Lt.nil, Lt.nil, by simp [text], by simp [text], HTP.out, by have := HAT.out; omega, HROW.out⟩
  case round =>
    obtain ⟨k, at3, ps, qs, rfl, hk, rfl, rfl, hps, hqs, hpq, hlx, hly, hxl, hyl, htp, hat, hrow⟩ := hrel
    rename World => wx
    have HTPX := Lib.hid htp; have HATX := Lib.hid hat; have HLX := Lib.hid hlx; have HLY := Lib.hid hly; have HXL := Lib.hid hxl; have HYL := Lib.hid hyl; have HROWX := Lib.hid hrow
    have HPS := Lib.hid hps; have HQS := Lib.hid hqs; have HPQ := Lib.hid hpq
    clear htp hat hlx hly hxl hyl hps hqs hpq
    by_cases hkn : k < n
    · obtain ⟨gw, cw, e, -, -, -, hsr⟩ := hrow.cell (by have := HN.out; omega)
      injection e with e1 e2 e3
      subst e1 e3
      have hkl : k < ws.length := by have := HN.out; omega
      have hcell := hsr k ws[k] (List.getElem?_eq_getElem hkl)
      have HMEM : Hid (ws[k] ∈ W25) := Lib.hid (HALL.out _ (List.getElem_mem hkl))
      obtain ⟨y, hy⟩ : ∃ y, y = ws[k] := ⟨_, rfl⟩
      rw [← hy] at hcell HMEM
      have hyb := w25_lt HMEM.out
      have HYB := Lib.hid hyb
      have b1 : ∀ w, (Op.stringOp .add ⟨#[32]⟩ (st y)).run Tryd.prog w = .ok (.string (st ([32] ++ y))) w := fun w => add_st (a := [32]) (by simp; omega) w
      have b2 : ∀ w, (Op.stringOp .add (st (text ps)) (st ([32] ++ y))).run Tryd.prog w = .ok (.string (st (text (ps ++ [([32], y)])))) w := fun w => by
        rw [text_snoc]; exact add_st (by rw [List.length_append]; have := HXL.out; simp; omega) w
      have HLT1 : Hid (Lt (text (ps ++ [([32], y)]))) := Lib.hid (by rw [text_snoc]; exact HLX.out.append ((Lt.one (by omega)).append hyb.1))
      have HLL1 : Hid ((text (ps ++ [([32], y)])).length ≤ 50 * (k + 1)) := Lib.hid (by rw [text_snoc, List.length_append, List.length_append]; have := HXL.out; simp; omega)
      have HPS1 : Hid (∀ p ∈ ps ++ [([32], y)], SepB p.1 ∧ goodW p.2 = true) := Lib.hid (fun p hp => by
        rcases List.mem_append.1 hp with h | h
        · exact HPS.out p h
        · rw [List.mem_singleton.1 h]; exact ⟨sep32, w25_good HMEM.out⟩)
      obtain ⟨Y, hY⟩ : ∃ Y, Y = st y := ⟨_, rfl⟩
      obtain ⟨TY, hTY⟩ : ∃ TY, TY = st ([32] ++ y) := ⟨_, rfl⟩
      obtain ⟨X1, hX1⟩ : ∃ X1, X1 = st (text ps) := ⟨_, rfl⟩
      obtain ⟨X2, hX2⟩ : ∃ X2, X2 = st (text (ps ++ [([32], y)])) := ⟨_, rfl⟩
      obtain ⟨Y1, hY1⟩ : ∃ Y1, Y1 = st (text qs) := ⟨_, rfl⟩
      rw [← hY] at hcell
      rw [← hY, ← hTY] at b1
      rw [← hX1, ← hTY, ← hX2] at b2
      rw [← hX1, ← hY1]
      have HYY := Lib.hid hY; have HX2 := Lib.hid hX2; have HY1 := Lib.hid hY1
      have HKA := Lib.hid (kp_alloc wx (.cells #[.string ⟨#[32]⟩, .string ⟨#[10, 10]⟩, .string ⟨#[9]⟩, .string ⟨#[32, 35, 32, 99, 32, 59, 32, 10]⟩, .string ⟨#[13]⟩] 9))
      have HSR : Hid (Sr (wx.alloc (.cells #[.string ⟨#[32]⟩, .string ⟨#[10, 10]⟩, .string ⟨#[9]⟩, .string ⟨#[32, 35, 32, 99, 32, 59, 32, 10]⟩, .string ⟨#[13]⟩] 9)) wx.heap.size S5) := Lib.hid (Sr.new a5)
      have HGX : Hid (w.heap.size < wx.heap.size) := Lib.hid (by obtain ⟨_, _, _, _, _, hb⟩ := HTPX.out.ex; exact hb.lt)
      clear hsr hrow hkl hy hY hTY hX1 hX2 hY1 e2 hyb
      go_wp2_with fail
      refine (TOne_any (HTPX.out.keep HKA.out) (by have := HATX.out; omega) HSR.out rfl (by decide) (by decide) (Nat.le_refl _) (by have := HGX.out; omega)).mono ?_
      rintro e w2 ⟨⟨z, hz, rfl⟩, htp2, ho2⟩
      have HTP2 := Lib.hid htp2
      have hzl := s5_lt hz
      have hyl := HYB.out
      have a1 : ∀ w, (Op.stringOp .add (st z) Y).run Tryd.prog w = .ok (.string (st (z ++ y))) w := fun w => by rw [HYY.out]; exact add_st (by omega) w
      have a2 : ∀ w, (Op.stringOp .add Y1 (st (z ++ y))).run Tryd.prog w = .ok (.string (st (text (qs ++ [(z, y)])))) w := fun w => by
        rw [HY1.out, text_snoc]; exact add_st (by rw [List.length_append]; have := HYL.out; omega) w
      have HLT2 : Hid (Lt (text (qs ++ [(z, y)]))) := Lib.hid (by rw [text_snoc]; exact HLY.out.append (hzl.1.append hyl.1))
      have HLL2 : Hid ((text (qs ++ [(z, y)])).length ≤ 50 * (k + 1)) := Lib.hid (by rw [text_snoc, List.length_append, List.length_append]; have := HYL.out; omega)
      have HQS1 : Hid (∀ p ∈ qs ++ [(z, y)], SepB p.1 ∧ goodW p.2 = true) := Lib.hid (fun p hp => by
        rcases List.mem_append.1 hp with h | h
        · exact HQS.out p h
        · rw [List.mem_singleton.1 h]; exact ⟨s5_sep hz, w25_good HMEM.out⟩)
      have HPQ1 : Hid ((ps ++ [([32], y)]).map (fun p : List Nat × List Nat => p.2) = (qs ++ [(z, y)]).map (fun p : List Nat × List Nat => p.2)) := Lib.hid (by rw [List.map_append, List.map_append, HPQ.out]; rfl)
      have HROW2 : Hid (WRow wb w2 (.slice (some ⟨gw, 0, none⟩) n c1) ws) := Lib.hid ((HROWX.out.keep HKA.out).kept (Only.gr ho2) HGB.out)
      obtain ⟨Z, hZ⟩ : ∃ Z, Z = st z := ⟨_, rfl⟩
      obtain ⟨ZY, hZY⟩ : ∃ ZY, ZY = st (z ++ y) := ⟨_, rfl⟩
      obtain ⟨Y2, hY2⟩ : ∃ Y2, Y2 = st (text (qs ++ [(z, y)])) := ⟨_, rfl⟩
      rw [← hZ]
      rw [← hZ, ← hZY] at a1
      rw [← hZY, ← hY2] at a2
      have HY2 := Lib.hid hY2
      clear hz htp2 ho2 hzl hyl hZ hZY hY2
      go_wp2_with fail
      go_roundw
      case rel => exact ⟨k + 1, at3 + 1, ps ++ [([32], y)], qs ++ [(z, y)], by go_num, by omega, by rw [← HX2.out], by rw [← HY2.out], HPS1.out, HQS1.out, HPQ1.out, HLT1.out, HLT2.out, HLL1.out, HLL2.out, HTP2.out, by have := HATX.out; omega, HROW2.out⟩
      case measure => simp [intOf]; omega
    · have hkk : k ≤ 13 := by have := HN.out; have := HLEN.out; omega
      have HEQ := Lib.hid (toks_text HPS.out HQS.out HPQ.out (by have := HXL.out; omega) (by have := HYL.out; omega))
      have H1 := Lib.hid (fun w => Tokens_any HLX.out w)
      have H2 := Lib.hid (fun w => Tokens_any HLY.out w)
      have HTL := Lib.hid (toks_len (text ps))
      obtain ⟨r1, hr1⟩ : ∃ r, r = toks (text ps) := ⟨_, rfl⟩
      obtain ⟨r2, hr2⟩ : ∃ r, r = toks (text qs) := ⟨_, rfl⟩
      rw [← hr1] at H1 HEQ HTL
      rw [← hr2] at H2 HEQ
      obtain ⟨ts, p1, e1⟩ := r1
      obtain ⟨us, p2, e2⟩ := r2
      simp only at HEQ HTL
      have hee := HEQ.out.2
      subst hee
      have HTU : Hid (ts.map strip = us.map strip) := Lib.hid HEQ.out.1
      have hul : us.length = ts.length := by
        have := congrArg List.length HTU.out
        simp only [List.length_map] at this
        exact this.symm
      obtain ⟨X, hX⟩ : ∃ X, X = st (text ps) := ⟨_, rfl⟩
      obtain ⟨Y, hY⟩ : ∃ Y, Y = st (text qs) := ⟨_, rfl⟩
      rw [← hX] at H1 ⊢
      rw [← hY] at H2 ⊢
      have HKX := Lib.hid HTPX.out.kp
      clear hrow hX hY hr1 hr2 HEQ
      go_wp2_with fail
      refine (H1.out _).mono ?_
      rintro e w2 ⟨v2, B1, rfl, hro1, hk1⟩
      simp only
      obtain ⟨ao2, c2, hv2, hc2⟩ := hro1.form
      have HRO1 := Lib.hid hro1; have HK2 := Lib.hid (Kp.trans hk1 hro1.kp)
      simp only at hv2 hc2
      obtain ⟨m, hm⟩ : ∃ m, m = ts.length := ⟨_, rfl⟩
      have HM := Lib.hid hm
      rw [← hm] at hv2 hc2 hul
      subst hv2
      have hc2i : (m : Int) ≤ (c2 : Int) := by omega
      have HU1 : Hid (wx.heap.size ≤ B1.heap.size) := Lib.hid hk1.size
      clear hro1 hk1 hm hc2
      go_wp2_with fail
      refine (H2.out _).mono ?_
      rintro e w3 ⟨v3, B2, rfl, hro2, hk2⟩
      simp only
      obtain ⟨ao3, c3, hv3, hc3⟩ := hro2.form
      have HRO2 := Lib.hid hro2; have HK3 := Lib.hid (Kp.trans hk2 hro2.kp)
      simp only at hv3 hc3
      rw [hul] at hv3 hc3
      subst hv3
      have hc3i : (m : Int) ≤ (c3 : Int) := by omega
      have HU2 : Hid (w2.heap.size ≤ B2.heap.size) := Lib.hid hk2.size
      have q1 : ((e1 : Int) != (e1 : Int)) = false := by simp
      have q3 : ((m : Int) != (m : Int)) = false := by simp
      have hmb : (m : Int) ≤ 16385 := by have := HTL.out; have := HM.out; omega
      have HK03 := Lib.hid (Kp.trans HKX.out (Kp.trans HK2.out HK3.out))
      have HUL := Lib.hid hul
      clear hro2 hk2 hc3 hul
      by_cases hm0 : m = 0
      · have hmi : (m : Int) ≤ 0 := by omega
        go_wp2_with fail
        go_loopw [61] (fun q wr => q = .int .i64 0 ∧ Kp w3 wr) (fun _ _ => 0)
        case atStart => exact ⟨rfl, Kp.refl _⟩
        case round =>
          obtain ⟨rfl, hkp⟩ := hrel
          rename World => wy
          have HKP := Lib.hid (Kp.trans HK03.out hkp)
          clear hkp hm0
          go_wp2_with fail
          refine (awake_any (HX.out.keep HKP.out)).mono ?_
          rintro e w5 ⟨rfl, hk5⟩
          have HK5 := Lib.hid (Kp.trans HKP.out hk5)
          clear hk5
          go_wp2_with fail
          go_ret
          exact ⟨rfl, HK5.out⟩
      · obtain ⟨g1, d1, e3, -, hg1, hre1⟩ := Rest.start HRO1.out (by have := HM.out; omega)
        obtain ⟨g2, d2, e4, -, hg2, hre2⟩ := Rest.start HRO2.out (by have := HUL.out; show 0 < us.length; omega)
        injection e3 with e3a e3b e3c
        injection e4 with e4a e4b e4c
        subst e3a e3c e4a e4c
        have hge2 : B2.heap.size ≤ g2 := hre2.ge
        have hu2 : w2.heap.size ≤ B2.heap.size := HU2.out
        have HNE : Hid (g1 ≠ g2) := Lib.hid (by omega)
        have HRE1 := Lib.hid (hre1.keep HK3.out); have HRE2 := Lib.hid hre2
        have HG1 : Hid (w.heap.size ≤ g1) := Lib.hid (by have := hre1.ge; have := HU1.out; have := HKX.out.size; omega)
        have HG2 : Hid (w.heap.size ≤ g2) := Lib.hid (by have := hre2.ge; have := HU2.out; have := HK2.out.size; have := HKX.out.size; omega)
        clear hg1 hg2 hre1 hre2 e3b e4b hm0 hge2 hu2
        go_wp2_with fail
        go_loopw [61] (fun q wr => ∃ j : Nat, q = .int .i64 j ∧ j ≤ m ∧ Rest wr B1.heap.size g1 ts j ∧ Rest wr B2.heap.size g2 us j ∧ Kp w wr) (fun q _ => m - (intOf q).toNat)
        case atStart => exact ⟨0, rfl, Nat.zero_le _, HRE1.out, HRE2.out, HK03.out⟩
        case round =>
          obtain ⟨j, rfl, hj, hre1, hre2, hkp⟩ := hrel
          rename World => wy
          have HR1 := Lib.hid hre1; have HR2 := Lib.hid hre2; have HKP := Lib.hid hkp
          clear hkp
          by_cases hjm : j < m
          · have hjt : j < ts.length := by have := HM.out; omega
            have hju : j < us.length := by have := HUL.out; omega
            have hst : strip ts[j] = strip us[j] := by
              have h := congrArg (fun l : List Tok => l[j]?) HTU.out
              simp only [List.getElem?_map, List.getElem?_eq_getElem hjt, List.getElem?_eq_getElem hju, Option.map_some, Option.some.injEq] at h
              exact h
            have ht1 : ts[j]? = some ts[j] := List.getElem?_eq_getElem hjt
            have ht2 : us[j]? = some us[j] := List.getElem?_eq_getElem hju
            obtain ⟨⟨K, TX, NM, AT⟩, hte⟩ : ∃ t, t = ts[j] := ⟨_, rfl⟩
            obtain ⟨⟨K', TX', NM', AT'⟩, hue⟩ : ∃ t, t = us[j] := ⟨_, rfl⟩
            rw [← hte] at ht1 hst
            rw [← hue] at ht2 hst
            simp only [strip, Prod.mk.injEq, and_true] at hst
            obtain ⟨rfl, rfl, rfl⟩ := hst
            have a3 := hre1.cell j _ (Nat.le_refl _) ht1 3 _ rfl
            have f3 := hre1.free (j * 4 + 3)
            have hre2s := hre2.other (o := j * 4 + 3) (Ne.symm HNE.out) (.int .i64 0)
            have b3 := hre2s.cell j _ (Nat.le_refl _) ht2 3 _ rfl
            have g3 := hre2s.free (j * 4 + 3)
            obtain ⟨W2, hW2⟩ : ∃ W2, W2 = (wy.setCell ⟨g1, j * 4 + 3, none⟩ (.int .i64 0)).setCell ⟨g2, j * 4 + 3, none⟩ (.int .i64 0) := ⟨_, rfl⟩
            have hsame : ∀ i, i < 3 → W2.cell? ⟨g1, j * 4 + i, none⟩ = wy.cell? ⟨g1, j * 4 + i, none⟩ := fun i hi => by
              rw [hW2, World.cell?_setCell_other _ _ _ _ (fun e => HNE.out (congrArg Addr.block e).symm), World.cell?_setCell_other _ _ _ _ (fun e => by injection e <;> omega)]
            have hsame2 : ∀ i, i < 3 → W2.cell? ⟨g2, j * 4 + i, none⟩ = wy.cell? ⟨g2, j * 4 + i, none⟩ := fun i hi => by
              rw [hW2, World.cell?_setCell_other _ _ _ _ (fun e => by injection e <;> omega), World.cell?_setCell_other _ _ _ _ (fun e => HNE.out (congrArg Addr.block e))]
            have m0 : W2.cell? ⟨g1, j * 4, none⟩ = some (.int .i64 (K : Nat)) := (hsame 0 (by omega)).trans (hre1.cell j _ (Nat.le_refl _) ht1 0 _ rfl)
            have m1 : W2.cell? ⟨g1, j * 4 + 1, none⟩ = some (.string (st TX)) := (hsame 1 (by omega)).trans (hre1.cell j _ (Nat.le_refl _) ht1 1 _ rfl)
            have m2 : W2.cell? ⟨g1, j * 4 + 2, none⟩ = some (.int .i64 (NM : Nat)) := (hsame 2 (by omega)).trans (hre1.cell j _ (Nat.le_refl _) ht1 2 _ rfl)
            have n0 : W2.cell? ⟨g2, j * 4, none⟩ = some (.int .i64 (K : Nat)) := (hsame2 0 (by omega)).trans (hre2.cell j _ (Nat.le_refl _) ht2 0 _ rfl)
            have n1 : W2.cell? ⟨g2, j * 4 + 1, none⟩ = some (.string (st TX)) := (hsame2 1 (by omega)).trans (hre2.cell j _ (Nat.le_refl _) ht2 1 _ rfl)
            have n2 : W2.cell? ⟨g2, j * 4 + 2, none⟩ = some (.int .i64 (NM : Nat)) := (hsame2 2 (by omega)).trans (hre2.cell j _ (Nat.le_refl _) ht2 2 _ rfl)
            have n3 : W2.cell? ⟨g2, j * 4 + 3, none⟩ = some (.int .i64 0) := by
              obtain ⟨cur, hb⟩ := hre2s.blk
              rw [cell_of_row _ g2 _ _ _ (0, 0) hb] at b3
              rw [hW2, cell_of_row _ g2 _ _ _ (0, 0) (heap_setCell_same _ g2 (j * 4 + 3) _ _ _ hb)]
              rw [Array.getElem?_setIfInBounds, if_pos rfl, if_pos (Array.getElem?_eq_some_iff.1 b3).1]
            have m3 : W2.cell? ⟨g1, j * 4 + 3, none⟩ = some (.int .i64 0) := by
              obtain ⟨cur, hb⟩ := hre1.blk
              have a4 := a3
              rw [cell_of_row _ g1 _ _ _ (0, 0) hb] at a4
              rw [hW2, World.cell?_setCell_other _ _ _ _ (fun e => HNE.out (congrArg Addr.block e).symm), cell_of_row _ g1 _ _ _ (0, 0) (heap_setCell_same _ g1 (j * 4 + 3) _ _ _ hb)]
              rw [Array.getElem?_setIfInBounds, if_pos rfl, if_pos (Array.getElem?_eq_some_iff.1 a4).1]
            have HRN1 : Hid (Rest W2 B1.heap.size g1 ts (j + 1)) := Lib.hid (by rw [hW2]; exact (hre1.next _).other HNE.out _)
            have HRN2 : Hid (Rest W2 B2.heap.size g2 us (j + 1)) := Lib.hid (by rw [hW2]; exact hre2s.next _)
            have HKN : Hid (Kp w W2) := Lib.hid (by rw [hW2]; exact Only.kp (Only.kp HKP.out (Only.set (Only.refl _ _) _ _) HG1.out) (Only.set (Only.refl _ _) _ _) HG2.out)
            obtain ⟨SX, hSX⟩ : ∃ SX, SX = st TX := ⟨_, rfl⟩
            rw [← hSX] at m1 n1
            simp only at a3 b3
            have HW2 := Lib.hid hW2
            clear hsame hsame2 hre1 hre2 hre2s ht1 ht2 hte hue hjt hju hSX hW2
            go_wp2_with fail
            rw [← HW2.out]
            clear a3 b3 f3 g3
            go_quiet (fail)
            go_wp2_with fail
            exact ⟨⟨j + 1, by go_num, by omega, HRN1.out.keep (Kp.drewN _ _), HRN2.out.keep (Kp.drewN _ _), Kp.trans HKN.out (Kp.drewN _ _)⟩, by simp [intOf]; omega⟩
          · clear hre1 hre2
            go_wp2_with fail
            refine (awake_any (HX.out.keep HKP.out)).mono ?_
            rintro e w5 ⟨rfl, hk5⟩
            have HK5 := Lib.hid (Kp.trans HKP.out hk5)
            clear hk5
            go_wp2_with fail
            go_ret
            exact ⟨rfl, HK5.out⟩
end By
end Go.Proofs.YtifhbbjalodplaaDoor

