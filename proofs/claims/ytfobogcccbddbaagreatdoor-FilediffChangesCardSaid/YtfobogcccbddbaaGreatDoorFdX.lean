/- The reference's Diff: its walk. No condition. -/
import Derived.Test.YtfobogcccbddbaaGreatDoorZam
namespace Go.Proofs.YtfobogcccbddbaaGreatDoor
namespace By
open Go.RowKit WireN LexN RevN FdN
set_option linter.unusedVariables false
set_option linter.unusedSimpArgs false

theorem chok {k : Int} {p o y : List Nat} (hk : -9223372036854775808 ≤ k ∧ k ≤ 9223372036854775807) (h1 : Lt p) (h2 : Lt o) (h3 : Lt y) (h4 : p.length ≤ 140737488355328) (h5 : o.length ≤ 140737488355328) (h6 : y.length ≤ 140737488355328) : ChOk (k, p, o, y) := ⟨hk, ⟨h1, h2, h3⟩, h4, h5, h6⟩
theorem smB {fs : List Fl} (h : chk fs = 0) {f : Fl} (hf : f ∈ fs) : f.1.length ≤ 140737488355328 ∧ f.2.length ≤ 140737488355328 := by
  obtain ⟨h1, h2⟩ := chkL_mem (chk_ok h).2 f hf
  have := path_len h1
  omega
set_option maxRecDepth 100000 in
set_option maxHeartbeats 32000000 in
theorem rDiff_any {w : World} {va vb : Value} {a b : List Fl} (ha : Rw w va a) (hb : Rw w vb b) :
    Calls Tryz.prog 10 #[.agg #[va], .agg #[vb]] w (DifR a b w) := by
  obtain ⟨Q, hQ⟩ : ∃ Q, Q = DifR a b w := ⟨_, rfl⟩
  rw [← hQ]
  have FIN : Hid (∀ (u : Value) (E : Nat) (w' : World), E = difE a b → Cw w' u (difA a b) → (∀ c, u.ownBlock = some c → w.heap.size ≤ c) → Kp w w' → Q (.returned (.tuple #[u, .int .i64 (E : Nat)])) w') := Lib.hid (by
    intro u E w' h1 h2 h3 h4
    rw [hQ]
    exact ⟨u, by rw [h1], h2, h3, h4⟩)
  obtain ⟨W, hW⟩ : ∃ W, W = (w.alloc (.cells #[va] 25)).alloc (.cells #[vb] 25) := ⟨_, rfl⟩
  have hk0 : Kp w W := by rw [hW]; exact Kp.alloc (kp_alloc _ _) _
  have b1 : Blk W w.heap.size 25 #[va] := by rw [hW]; exact (Blk.new _ _ _).keep (kp_alloc _ _)
  have b2 : Blk W (w.heap.size + 1) 25 #[vb] := by
    have := Blk.new (w.alloc (.cells #[va] 25)) 25 #[vb]
    rw [hW]
    simpa using this
  have hsz : W.heap.size = w.heap.size + 2 := by rw [hW]; simp
  have HA := Lib.hid (ha.keep hk0); have HB := Lib.hid (hb.keep hk0)
  obtain ⟨E1, hE1⟩ : ∃ E, E = chk a := ⟨_, rfl⟩
  obtain ⟨E2, hE2⟩ : ∃ E, E = chk b := ⟨_, rfl⟩
  have HCA := Lib.hid (rCheck_any HA.out)
  have HCB : Hid (∀ w1, Kp W w1 → Calls Tryz.prog 33 #[.agg #[vb]] w1 fun e w' => e = .returned (.int .i64 (E2 : Nat)) ∧ Kp w1 w') := Lib.hid (fun w1 hk => by rw [hE2]; exact rCheck_any (HB.out.keep hk))
  rw [← hE1] at HCA
  have HE1 := Lib.hid hE1; have HE2 := Lib.hid hE2
  have HW := Lib.hid hW; have HK := Lib.hid hk0; have HB1 := Lib.hid b1; have HB2 := Lib.hid b2; have HSZ := Lib.hid hsz
  have c0 := b1.cell 0 rfl
  obtain ⟨ao, ac, rfl, hac, -, -⟩ := ha.open3
  obtain ⟨bo, bc, rfl, hbc, -, -⟩ := hb.open3
  obtain ⟨n, hn⟩ : ∃ n, n = a.length := ⟨_, rfl⟩
  obtain ⟨m, hm⟩ : ∃ m, m = b.length := ⟨_, rfl⟩
  rw [← hn] at HW HB1 HA HCA c0 hac ⊢
  rw [← hm] at HW HB2 HB HCB hbc ⊢
  have HN := Lib.hid hn; have HM := Lib.hid hm
  have i1 : (n : Int) ≤ (ac : Int) := by omega
  have i2 : (m : Int) ≤ (bc : Int) := by omega
  clear ha hb hk0 b1 b2 hW hE1 hE2 hac hbc hn hm hQ hsz
  by_cases he1 : E1 = 0
  · have q1 : ((E1 : Int) != 0) = false := by simp [he1]
    have HZ1 : Hid (chk a = 0) := Lib.hid (HE1.out ▸ he1)
    clear he1
    by_cases he2 : E2 = 0
    · have q2 : ((E2 : Int) != 0) = false := by simp [he2]
      have HZ2 : Hid (chk b = 0) := Lib.hid (HE2.out ▸ he2)
      clear he2
      have i3 : (n : Int) ≤ 64 := by have := (chk_ok HZ1.out).1; have := HN.out; omega
      have i4 : (m : Int) ≤ 64 := by have := (chk_ok HZ2.out).1; have := HM.out; omega
      have FINE : Hid (difE a b = 0 ∧ difA a b = difL a b) := Lib.hid (by
        have h : difE a b = 0 := if_neg (by rw [HZ1.out, HZ2.out]; simp)
        exact ⟨h, if_pos h⟩)
      go_enter Tryz.func10, Tryz.ntmps10
      go_wp2_with fail
      rw [← HW.out]
      refine HCA.out.mono ?_
      rintro e w1 ⟨rfl, hk1⟩
      have HK1 := Lib.hid hk1
      have c1 := (HB2.out.keep hk1).cell 0 rfl
      clear hk1 c0
      go_wp2_with fail
      refine (HCB.out _ HK1.out).mono ?_
      rintro e w2 ⟨rfl, hk2⟩
      have HK2 := Lib.hid (HK1.out.trans hk2)
      have c2 := (HB1.out.keep HK2.out).cell 0 rfl
      clear hk2 c1
      go_wp2_with fail
      go_loopw [6, 33] (fun gv iv wr => ∃ (k : Nat) (v : Value), iv = .int .i64 (k : Nat) ∧ gv = v ∧ k ≤ n ∧ OwF w2 wr v (gnk a b k)) (fun _ iv _ => n - (intOf iv).toNat)
      case atStart => exact ⟨0, _, rfl, rfl, Nat.zero_le _, OwF.start w2⟩
      case round =>
        obtain ⟨k, gv, rfl, rfl, hk, ho⟩ := hrel
        rename World => wr
        have HO := Lib.hid ho
        obtain ⟨⟨g1, g2, g3, rfl⟩, -⟩ := row_form ho.owns
        by_cases hlt : k < n
        · obtain ⟨f, hf⟩ : ∃ f, a[k]? = some f := ⟨_, List.getElem?_eq_getElem (by have := HN.out; omega)⟩
          have hmem := List.mem_of_getElem? hf
          obtain ⟨bb, bf, rfl, hcell⟩ := (HA.out.keep (HK2.out.trans ho.kp)).cell (by omega)
          obtain ⟨d0, d1⟩ := hcell k f hf
          have j1 : (k : Int) < (n : Int) := by omega
          have HFO : Hid ((Lt f.1 ∧ Lt f.2) ∧ (f.1.length ≤ maxLen ∧ f.2.length ≤ maxLen)) := Lib.hid ⟨HA.out.lt f hmem, HA.out.sm f hmem⟩
          have HST : Hid (gnk a b (k + 1) = gnk a b k ++ (if hasP b f.1 = true then [] else [f])) := Lib.hid (gnk_step hf)
          have HFD : Hid (∀ w1, Kp W w1 → Calls Tryz.prog 34 #[.agg #[.slice bo m bc], .string (st f.1)] w1 fun e w' => e = .returned (.tuple #[.string (st (findF b f.1).1), .bool (hasP b f.1)]) ∧ Kp w1 w') := Lib.hid (fun w1 hk => by
            have h := rFind_any (HB.out.keep hk) HFO.out.1.1
            rwa [find_snd HZ2.out] at h)
          have HLN : Hid ((gnk a b k).length ≤ 1000000) := Lib.hid (by have := gnk_len a b k; have := HN.out; omega)
          obtain ⟨w3, hw3⟩ : ∃ w3, w3 = wr.alloc (.cells #[.string (st f.1), .string (st f.2)] 53) := ⟨_, rfl⟩
          have hk3 : Kp wr w3 := by rw [hw3]; exact kp_alloc _ _
          have HB3 : Hid (Blk w3 wr.heap.size 53 #[.string (st f.1), .string (st f.2)]) := Lib.hid (by rw [hw3]; exact Blk.new _ _ _)
          have c3 := (HB2.out.keep ((HK2.out.trans ho.kp).trans hk3)).cell 0 rfl
          rw [hw3] at c3
          have HW3 := Lib.hid hw3; have HK3 := Lib.hid hk3
          obtain ⟨P, hP⟩ : ∃ S, S = st f.1 := ⟨_, rfl⟩
          obtain ⟨Y, hY⟩ : ∃ S, S = st f.2 := ⟨_, rfl⟩
          obtain ⟨Z, hZ⟩ : ∃ S, S = st (findF b f.1).1 := ⟨_, rfl⟩
          obtain ⟨t, ht⟩ : ∃ t, t = hasP b f.1 := ⟨_, rfl⟩
          rw [← hP] at d0 HFD HW3 HB3 c3
          rw [← hY] at d1 HW3 HB3 c3
          rw [← hZ, ← ht] at HFD
          rw [← ht] at HST
          have HPP := Lib.hid hP; have HYY := Lib.hid hY
          clear ho hf hmem hcell hw3 hk3 hP hY hZ ht hk
          go_wp2_with fail
          rw [← HW3.out]
          refine (HFD.out _ ((HK2.out.trans HO.out.kp).trans HK3.out)).mono ?_
          rintro e w4 ⟨rfl, hk4⟩
          have HK4 := Lib.hid hk4
          have b4 := HB3.out.keep hk4
          have e0 := b4.cell 0 rfl; have e1 := b4.cell 1 rfl
          clear hk4 b4 d0 d1 c3
          cases t with
          | true =>
            have HX : Hid (OwF w2 w4 (.slice g1 g2 g3) (gnk a b (k + 1))) := Lib.hid (by
              rw [HST.out, if_pos rfl, List.append_nil]
              exact (HO.out.keep HK3.out).keep HK4.out)
            go_wp2_with fail
            go_roundw
            case rel => exact ⟨k + 1, _, by go_num, rfl, by omega, HX.out⟩
            case measure => simp [intOf]; omega
          | false =>
            have HO4 := Lib.hid (((HO.out.keep HK3.out).keep HK4.out).keep (kp_alloc w4 (.cells #[.string P, .string Y] 53)))
            have HNB : Hid (Blk (w4.alloc (.cells #[.string P, .string Y] 53)) w4.heap.size 53 #[.string (st f.1), .string (st f.2)]) := Lib.hid (by rw [← HPP.out, ← HYY.out]; exact Blk.new _ _ _)
            go_wp2_with (at_builtin; refine wpList_fl (w := w2) rfl (.tmp 46) (.tmp 48) rfl _ rfl HO4.out HLN.out f HFO.out w4.heap.size rfl HNB.out ?_)
            intro v6 w6 ho6 hg6 ha6
            have HX : Hid (OwF w2 w6 v6 (gnk a b (k + 1))) := Lib.hid (by
              rw [HST.out, if_neg (by simp)]
              exact ho6)
            clear ho6 hg6 ha6 e0 e1
            go_wp2_with fail
            go_roundw
            case rel => exact ⟨k + 1, _, by go_num, rfl, by omega, HX.out⟩
            case measure => simp [intOf]; omega
        · have j1 : (n : Int) ≤ (k : Int) := by omega
          have j1' : decide (k < n) = false := decide_eq_false hlt
          have hgn : gnk a b k = gn a b := gnk_all a b (by have := HN.out; omega)
          rw [hgn] at HO
          have hg2 : g2 = (gn a b).length := by
            obtain ⟨_, _, e, -, -, -⟩ := HO.out.rw.open3
            simp only [Value.slice.injEq] at e
            exact e.2.1
          have hg23 : g2 ≤ g3 := by
            obtain ⟨_, _, e, h, -, -⟩ := HO.out.rw.open3
            simp only [Value.slice.injEq] at e
            omega
          have HG2 := Lib.hid hg2
          have hgl : (gn a b).length ≤ 64 := by have := gnk_len a b k; rw [hgn] at this; have := HN.out; omega
          have i5 : (g2 : Int) ≤ 64 := by omega
          have i6 : (g2 : Int) ≤ (g3 : Int) := by omega
          have qm := make_boolF (n := g2) (by omega) wr
          obtain ⟨w5, hw5⟩ : ∃ w5, w5 = wr.alloc (.cells (bcelF (List.replicate g2 false)).toArray 4) := ⟨_, rfl⟩
          obtain ⟨gb, hgb⟩ : ∃ gb, gb = wr.heap.size := ⟨_, rfl⟩
          have hk5 : Kp wr w5 := by rw [hw5]; exact kp_alloc _ _
          have hS0 : DfS w2 w5 (.slice g1 g2 g3) (gn a b) gb (dk a b 0).1 (.slice none 0 0) (dk a b 0).2 := by
            have e : (dk a b 0) = (List.replicate g2 false, []) := by rw [hg2]; rfl
            rw [e]
            refine ⟨HO.out.keep hk5, ?_, (OwC.start w2).keep (HO.out.kp.trans hk5), ?_, fun c hc => ?_, fun c hc => by simp [Value.ownBlock] at hc⟩
            · rw [hw5, hgb]; exact Blk.new _ _ _
            · rw [hgb]; exact HO.out.kp.size
            · have := ((row_form HO.out.owns).2 c hc).2
              omega
          rw [← hw5, ← hgb] at qm
          have HS0 := Lib.hid hS0
          have c5 := (HB2.out.keep ((HK2.out.trans HO.out.kp).trans hk5)).cell 0 rfl
          clear ho hk hlt hgn hg2 hg23 hgl hw5 hgb hk5 hS0
          go_wp2_with fail
          go_loopw [12, 57] (fun ov iv wx => ∃ (i : Nat) (v : Value), iv = .int .i64 (i : Nat) ∧ ov = v ∧ i ≤ m ∧ DfS w2 wx (.slice g1 g2 g3) (gn a b) gb (dk a b i).1 v (dk a b i).2) (fun _ iv _ => m - (intOf iv).toNat)
          case atStart => exact ⟨0, _, rfl, rfl, Nat.zero_le _, HS0.out⟩
          case round =>
            obtain ⟨i, ov, rfl, rfl, hi, hS⟩ := hrel
            rename World => wx
            have HS := Lib.hid hS
            obtain ⟨⟨o1, o2, o3, rfl⟩, -⟩ := row_form hS.oc.owns
            by_cases hil : i < m
            · obtain ⟨f, hf⟩ : ∃ f, b[i]? = some f := ⟨_, List.getElem?_eq_getElem (by have := HM.out; omega)⟩
              have hmem := List.mem_of_getElem? hf
              obtain ⟨bb, bf, rfl, hcell⟩ := (HB.out.keep (HK2.out.trans hS.kp)).cell (by omega)
              obtain ⟨d0, d1⟩ := hcell i f hf
              have j2 : (i : Int) < (m : Int) := by omega
              have HFO : Hid ((Lt f.1 ∧ Lt f.2) ∧ (f.1.length ≤ maxLen ∧ f.2.length ≤ maxLen)) := Lib.hid ⟨HB.out.lt f hmem, HB.out.sm f hmem⟩
              have HST : Hid (dk a b (i + 1) = stepD a (gn a b) (dk a b i) f) := Lib.hid (dk_step hf)
              have hdl := dk_len a b i (by have := HM.out; omega)
              obtain ⟨us, hus⟩ : ∃ us, us = (dk a b i).1 := ⟨_, rfl⟩
              obtain ⟨D, hD⟩ : ∃ D, D = (dk a b i).2 := ⟨_, rfl⟩
              have hst : dk a b i = (us, D) := by rw [hus, hD]
              rw [hst] at HST
              rw [← hus, ← hD] at hdl HS hS
              have HDL : Hid (us.length = (gn a b).length ∧ D.length ≤ 64) := Lib.hid ⟨hdl.1, by omega⟩
              have HFD : Hid (∀ w1, Kp W w1 → Calls Tryz.prog 34 #[.agg #[.slice ao n ac], .string (st f.1)] w1 fun e w' => e = .returned (.tuple #[.string (st (findF a f.1).1), .bool (hasP a f.1)]) ∧ Kp w1 w') := Lib.hid (fun w1 hk => by
                have h := rFind_any (HA.out.keep hk) HFO.out.1.1
                rwa [find_snd HZ1.out] at h)
              obtain ⟨w3, hw3⟩ : ∃ w3, w3 = wx.alloc (.cells #[.string (st f.1), .string (st f.2)] 53) := ⟨_, rfl⟩
              obtain ⟨hx, hhx⟩ : ∃ hx, hx = wx.heap.size := ⟨_, rfl⟩
              have hk3 : Kp wx w3 := by rw [hw3]; exact kp_alloc _ _
              have HB3 : Hid (Blk w3 hx 53 #[.string (st f.1), .string (st f.2)]) := Lib.hid (by rw [hw3, hhx]; exact Blk.new _ _ _)
              have HXN : Hid ((∀ c, (Value.slice o1 o2 o3).ownBlock = some c → c < hx) ∧ (∀ c, (Value.slice g1 g2 g3).ownBlock = some c → c < hx) ∧ gb < hx ∧ w2.heap.size ≤ hx) := Lib.hid (by
                rw [hhx]
                exact ⟨fun c hc => ((row_form hS.oc.owns).2 c hc).2, fun c hc => ((row_form hS.go.owns).2 c hc).2, Blk.lt hS.ub, hS.kp.size⟩)
              have c3 := (HB1.out.keep ((HK2.out.trans hS.kp).trans hk3)).cell 0 rfl
              rw [hw3] at c3
              have HW3 := Lib.hid hw3; have HK3 := Lib.hid hk3; have HHX := Lib.hid hhx
              obtain ⟨P, hP⟩ : ∃ S, S = st f.1 := ⟨_, rfl⟩
              obtain ⟨Y, hY⟩ : ∃ S, S = st f.2 := ⟨_, rfl⟩
              obtain ⟨Z, hZ⟩ : ∃ S, S = st (findF a f.1).1 := ⟨_, rfl⟩
              rw [← hP] at d0 HFD HW3 HB3 c3
              rw [← hY] at d1 HW3 HB3 c3
              rw [← hZ] at HFD
              have HPP := Lib.hid hP; have HYY := Lib.hid hY; have HZZ := Lib.hid hZ; have HF := Lib.hid hf
              have HIL := Lib.hid hil
              have HMEM := Lib.hid hmem
              clear hS hf hmem hcell hw3 hk3 hhx hP hY hZ hi hus hD hst hdl hil
              by_cases hh : hasP a f.1 = true
              · rw [hh] at HFD
                obtain ⟨f0, hf0, he0⟩ := (hasP_iff HZ1.out).1 hh
                have hby : (findF a f.1).1 = f0.2 := by rw [← he0]; exact find_mem HZ1.out hf0
                have hba : bytesAt a f.1 = f0.2 := by rw [← he0]; exact bytesAt_eq HZ1.out hf0
                have q5 : (Z.toList == Y.toList) = decide (f0.2 = f.2) := by rw [HZZ.out, hby, HYY.out]; exact st_inj' (HA.out.lt f0 hf0).2 HFO.out.1.2
                have HSD : Hid (dk a b (i + 1) = (us, if f0.2 = f.2 then D else ins (3, f.1, [], f.2) D)) := Lib.hid (by
                  rw [HST.out]; unfold stepD; rw [if_pos hh, hba])
                clear hf0 he0 hby hba hh
                by_cases hq : f0.2 = f.2
                · rw [decide_eq_true hq] at q5
                  have HSD2 : Hid (dk a b (i + 1) = (us, D)) := Lib.hid (by rw [HSD.out, if_pos hq])
                  clear hq HSD
                  go_wp2_with fail
                  rw [← HW3.out, ← HHX.out]
                  refine (HFD.out _ ((HK2.out.trans HS.out.kp).trans HK3.out)).mono ?_
                  rintro e w4 ⟨rfl, hk4⟩
                  have b4 := HB3.out.keep hk4
                  have e0 := b4.cell 0 rfl; have e1 := b4.cell 1 rfl
                  have HX : Hid (DfS w2 w4 (.slice g1 g2 g3) (gn a b) gb (dk a b (i + 1)).1 (.slice o1 o2 o3) (dk a b (i + 1)).2) := Lib.hid (by
                    rw [HSD2.out]
                    exact (HS.out.keep HK3.out).keep hk4)
                  clear hk4 b4 d0 d1 c3
                  go_wp2_with fail
                  go_roundw
                  case rel => exact ⟨i + 1, _, by go_num, rfl, by have := HIL.out; omega, HX.out⟩
                  case measure => simp [intOf]; have := HIL.out; omega
                · rw [decide_eq_false hq] at q5
                  have HSD2 : Hid (dk a b (i + 1) = (us, ins (3, f.1, [], f.2) D)) := Lib.hid (by rw [HSD.out, if_neg hq])
                  have HCO : Hid (ChOk (3, f.1, [], f.2)) := Lib.hid (chok (by decide) (HFO.out.1.1) (Lt.nil) (HFO.out.1.2) (smB HZ2.out HMEM.out).1 (by simp) (smB HZ2.out HMEM.out).2)
                  clear hq HSD
                  go_wp2_with fail
                  rw [← HW3.out, ← HHX.out]
                  refine (HFD.out _ ((HK2.out.trans HS.out.kp).trans HK3.out)).mono ?_
                  rintro e w4 ⟨rfl, hk4⟩
                  have b4 := HB3.out.keep hk4
                  have e0 := b4.cell 0 rfl; have e1 := b4.cell 1 rfl
                  have HX := Lib.hid ((HS.out.keep HK3.out).keep hk4)
                  have HI := Lib.hid (rIns_any HX.out.oc HCO.out (by have := HDL.out; omega))
                  simp only [vC] at HI
                  rw [← HPP.out, ← HYY.out] at HI
                  clear hk4 b4 d0 d1 c3
                  go_wp2_with fail
                  refine HI.out.mono ?_
                  rintro e w6 ⟨v', rfl, ho6, -, hs6, hv6⟩
                  have HX6 : Hid (DfS w2 w6 (.slice g1 g2 g3) (gn a b) gb (dk a b (i + 1)).1 v' (dk a b (i + 1)).2) := Lib.hid (by
                    rw [HSD2.out]
                    exact HX.out.ins ho6 hs6 hv6)
                  clear ho6 hs6 hv6 e0 e1
                  go_wp2_with fail
                  go_roundw
                  case rel => exact ⟨i + 1, _, by go_num, rfl, by have := HIL.out; omega, HX6.out⟩
                  case measure => simp [intOf]; have := HIL.out; omega
              · have hh' : hasP a f.1 = false := by simpa using hh
                rw [hh'] at HFD
                have HSD : Hid (stepD a (gn a b) (us, D) f = match fndU f.2 (gn a b) us 0 with
                  | some l => (us.set l true, ins (4, f.1, ((gn a b)[l]?.getD ([], [])).1, []) D)
                  | none => (us, ins (1, f.1, [], f.2) D)) := Lib.hid (by unfold stepD; rw [if_neg hh]; cases fndU f.2 (gn a b) us 0 <;> rfl)
                clear hh hh'
                go_wp2_with fail
                rw [← HW3.out, ← HHX.out]
                refine (HFD.out _ ((HK2.out.trans HS.out.kp).trans HK3.out)).mono ?_
                rintro e w4 ⟨rfl, hk4⟩
                have b4 := HB3.out.keep hk4
                have e0 := b4.cell 0 rfl; have e1 := b4.cell 1 rfl
                obtain ⟨W5, hW5⟩ : ∃ W5, W5 = w4.alloc (.cells #[.int .i64 1, .string P, .string ⟨#[]⟩, .string Y] 50) := ⟨_, rfl⟩
                obtain ⟨xb, hxb⟩ : ∃ xb, xb = w4.heap.size := ⟨_, rfl⟩
                have hk5 : Kp w4 W5 := by rw [hW5]; exact kp_alloc _ _
                have HXB : Hid (Blk W5 xb 50 #[.int .i64 1, .string P, .string ⟨#[]⟩, .string Y]) := Lib.hid (by rw [hW5, hxb]; exact Blk.new _ _ _)
                have HFB := Lib.hid (b4.keep hk5)
                have HX5 := Lib.hid (((HS.out.keep HK3.out).keep hk4).keep hk5)
                have HXL : Hid (hx < xb) := Lib.hid (by rw [hxb]; exact b4.lt)
                have HW5 := Lib.hid hW5; have HXE := Lib.hid hxb
                clear hk4 b4 d0 d1 c3 hW5 hxb hk5
                go_wp2_with fail
                rw [← HW5.out, ← HXE.out]
                go_loopw [87] (fun lv wy => ∃ l : Nat, lv = .int .i64 (l : Nat) ∧ l ≤ g2 ∧ Kp W5 wy ∧ Hid (∀ r, r < l → ∀ q, us[r]? = some false → (gn a b)[r]? ≠ some (q, f.2))) (fun lv _ => g2 - (intOf lv).toNat)
                case atStart => exact ⟨0, rfl, Nat.zero_le _, Kp.refl _, Lib.hid (fun r hr => by omega)⟩
                case round =>
                  obtain ⟨l, rfl, hl, hky, HNO⟩ := hrel
                  rename World => wy
                  have HKY := Lib.hid hky
                  by_cases hlg : l < g2
                  · obtain ⟨g0, hg0⟩ : ∃ g0, (gn a b)[l]? = some g0 := ⟨_, List.getElem?_eq_getElem (by have := HG2.out; omega)⟩
                    obtain ⟨u, hu⟩ : ∃ u, us[l]? = some u := ⟨_, List.getElem?_eq_getElem (by have := HG2.out; have := HDL.out; omega)⟩
                    have hXy := HX5.out.keep hky
                    have hgm := List.mem_of_getElem? hg0
                    obtain ⟨gg, gf, rfl, hcell⟩ := hXy.go.rw.cell (by omega)
                    obtain ⟨d0, d1⟩ := hcell l g0 hg0
                    have HGO : Hid ((Lt g0.1 ∧ Lt g0.2) ∧ (g0.1.length ≤ maxLen ∧ g0.2.length ≤ maxLen)) := Lib.hid ⟨hXy.go.lt g0 hgm, hXy.go.sm g0 hgm⟩
                    have j3 : (l : Int) < (g2 : Int) := by omega
                    have q6 := st_inj' HGO.out.1.2 HFO.out.1.2
                    obtain ⟨G1, hG1⟩ : ∃ S, S = st g0.1 := ⟨_, rfl⟩
                    obtain ⟨G2, hG2⟩ : ∃ S, S = st g0.2 := ⟨_, rfl⟩
                    rw [← hG1] at d0
                    rw [← hG2] at d1 q6
                    rw [← HYY.out] at q6
                    obtain ⟨w7, hw7⟩ : ∃ w7, w7 = wy.alloc (.cells #[.string G1, .string G2] 53) := ⟨_, rfl⟩
                    have hk7 : Kp wy w7 := by rw [hw7]; exact kp_alloc _ _
                    have hX7 := hXy.keep hk7
                    have t0 := BF.cell hX7.ub hu
                    have bfb := HFB.out.keep (hky.trans hk7)
                    have t1 := bfb.cell 0 rfl; have t2 := bfb.cell 1 rfl
                    have bgb : Blk w7 wy.heap.size 53 #[.string G1, .string G2] := by rw [hw7]; exact Blk.new _ _ _
                    have t3 := bgb.cell 0 rfl; have t4 := bgb.cell 1 rfl
                    rw [hw7] at t0 t1 t2 t3 t4
                    have HW7 := Lib.hid hw7
                    by_cases hmatch : u = false ∧ g0.2 = f.2
                    · obtain ⟨rfl, hgf⟩ := hmatch
                      rw [decide_eq_true hgf] at q6
                      have HFN : Hid (fndU f.2 (gn a b) us 0 = some l) := Lib.hid (by
                        have h := fndU_at f.2 (gn a b) us 0 l g0.1 (by rw [hg0, ← hgf]) hu HNO.out
                        simpa using h)
                      have HSD2 : Hid (dk a b (i + 1) = (us.set l true, ins (4, f.1, g0.1, []) D)) := Lib.hid (by
                        rw [HST.out, HSD.out, HFN.out]
                        show (us.set l true, ins (4, f.1, ((gn a b)[l]?.getD ([], [])).1, []) D) = _
                        rw [hg0]
                        rfl)
                      have HCO : Hid (ChOk (4, f.1, g0.1, [])) := Lib.hid (chok (by decide) (HFO.out.1.1) (HGO.out.1.1) (Lt.nil) (smB HZ2.out HMEM.out).1 (smB HZ1.out (List.mem_filter.1 hgm).1).1 (by simp))
                      have r0 := Blk.free hX7.ub l
                      rw [hw7] at r0
                      have hX8 := hX7.use l
                      have hXB8 := (HXB.out.keep (hky.trans hk7)).other ((Only.refl gb w7).set l (.bool true)) (by have := HXN.out; have := HXL.out; omega)
                      have hFB8 := bfb.other ((Only.refl gb w7).set l (.bool true)) (by have := HXN.out; omega)
                      have hGB8 := bgb.other ((Only.refl gb w7).set l (.bool true)) (by have h1 := hXy.kp; have h2 : gb < wy.heap.size := Blk.lt hXy.ub; omega)
                      have s0 := hFB8.cell 0 rfl; have s1 := hGB8.cell 0 rfl
                      have f0 := hXB8.free 0; have f1 := hXB8.free 1; have f2 := hXB8.free 2; have f3 := hXB8.free 3
                      have v0 := hXB8.cell 0 rfl; have v1 := hXB8.cell 1 rfl; have v2 := hXB8.cell 2 rfl; have v3 := hXB8.cell 3 rfl
                      have hXB9 := (((hXB8.set 0 (.int .i64 4)).set 1 (.string P)).set 2 (.string G1)).set 3 (.string ⟨#[]⟩)
                      have ho9 : Only xb (w7.setCell ⟨gb, l, none⟩ (.bool true)) (((((w7.setCell ⟨gb, l, none⟩ (.bool true)).setCell ⟨xb, 0, none⟩ (.int .i64 4)).setCell ⟨xb, 1, none⟩ (.string P)).setCell ⟨xb, 2, none⟩ (.string G1)).setCell ⟨xb, 3, none⟩ (.string ⟨#[]⟩)) := ((((Only.refl xb _).set 0 _).set 1 _).set 2 _).set 3 _
                      obtain ⟨W9, hW9⟩ : ∃ W9, W9 = (((((w7.setCell ⟨gb, l, none⟩ (.bool true)).setCell ⟨xb, 0, none⟩ (.int .i64 4)).setCell ⟨xb, 1, none⟩ (.string P)).setCell ⟨xb, 2, none⟩ (.string G1)).setCell ⟨xb, 3, none⟩ (.string ⟨#[]⟩)) := ⟨_, rfl⟩
                      have HX9 : Hid (DfS w2 W9 (.slice (some ⟨gg, gf, none⟩) g2 g3) (gn a b) gb (us.set l true) (.slice o1 o2 o3) D) := Lib.hid (by
                        rw [hW9]
                        refine hX8.beside ho9 (by have := HXN.out; have := HXL.out; omega) (by have := HXN.out; have := HXL.out; omega) (fun c hc => ?_) (fun c hc => ?_)
                        · have := HXN.out.2.1 c hc; have := HXL.out; omega
                        · have := HXN.out.1 c hc; have := HXL.out; omega)
                      have y0 := hXB9.cell 0 rfl; have y1 := hXB9.cell 1 rfl; have y2 := hXB9.cell 2 rfl; have y3 := hXB9.cell 3 rfl
                      rw [hw7] at s0 s1 f0 f1 f2 f3 v0 v1 v2 v3 y0 y1 y2 y3 hW9
                      have HI := Lib.hid (rIns_any HX9.out.oc HCO.out (by have := HDL.out; omega))
                      simp only [vC] at HI
                      rw [← HPP.out, ← hG1] at HI
                      have HW9 := Lib.hid hW9
                      clear hg0 hu hXy hgm hcell hG1 hG2 hw7 hk7 hX7 bfb bgb hgf hX8 hXB8 hFB8 hGB8 hXB9 ho9 hW9 hky hl hlg
                      go_wp2_with fail
                      rw [← HW9.out]
                      refine HI.out.mono ?_
                      rintro e w10 ⟨v', rfl, ho6, -, hs6, hv6⟩
                      have HX6 : Hid (DfS w2 w10 (.slice (some ⟨gg, gf, none⟩) g2 g3) (gn a b) gb (dk a b (i + 1)).1 v' (dk a b (i + 1)).2) := Lib.hid (by
                        rw [HSD2.out]
                        exact HX9.out.ins ho6 hs6 hv6)
                      clear ho6 hs6 hv6 s0 s1 f0 f1 f2 f3 v0 v1 v2 v3 y0 y1 y2 y3 t0 t1 t2 t3 t4 r0
                      go_wp2_with fail
                      go_roundw
                      case rel => exact ⟨i + 1, _, by go_num, rfl, by have := HIL.out; omega, HX6.out⟩
                      case measure => simp [intOf]; have := HIL.out; omega
                    · have HNO2 : Hid (∀ r, r < l + 1 → ∀ q, us[r]? = some false → (gn a b)[r]? ≠ some (q, f.2)) := Lib.hid (by
                        intro r hr q h1 h2
                        by_cases e : r = l
                        · subst e
                          rw [hu] at h1
                          rw [hg0] at h2
                          injection h1 with h1
                          injection h2 with h2
                          exact hmatch ⟨h1, by rw [h2]⟩
                        · exact HNO.out r (by omega) q h1 h2)
                      have HK7 : Hid (Kp W5 w7) := Lib.hid (hky.trans hk7)
                      obtain ⟨z, hz⟩ : ∃ z, z = decide (g0.2 = f.2) := ⟨_, rfl⟩
                      rw [← hz] at q6
                      have huz : u = true ∨ (u = false ∧ z = false) := by
                        cases u with
                        | true => exact .inl rfl
                        | false => exact .inr ⟨rfl, by rw [hz]; exact decide_eq_false (fun e => hmatch ⟨rfl, e⟩)⟩
                      clear hg0 hu hXy hgm hcell hG1 hG2 hw7 hk7 hX7 bfb bgb hmatch hz hky hl
                      rcases huz with rfl | ⟨rfl, rfl⟩
                      all_goals
                        go_wp2_with fail
                        (try rw [← HW7.out])
                        go_roundw
                        case rel => exact ⟨l + 1, by go_num, by omega, HK7.out, HNO2⟩
                        case measure => simp [intOf]; omega
                  · have j3 : (g2 : Int) ≤ (l : Int) := by omega
                    have j3' : decide (l < g2) = false := decide_eq_false hlg
                    have HFN : Hid (fndU f.2 (gn a b) us 0 = none) := Lib.hid (fndU_none _ _ _ _ (fun r q h1 => HNO.out r (by have h2 := (List.getElem?_eq_some_iff.1 h1).1; have := HG2.out; have := HDL.out; omega) q h1))
                    have HSD2 : Hid (dk a b (i + 1) = (us, ins (1, f.1, [], f.2) D)) := Lib.hid (by rw [HST.out, HSD.out, HFN.out])
                    have HCO : Hid (ChOk (1, f.1, [], f.2)) := Lib.hid (chok (by decide) (HFO.out.1.1) (Lt.nil) (HFO.out.1.2) (smB HZ2.out HMEM.out).1 (by simp) (smB HZ2.out HMEM.out).2)
                    have HX9 := Lib.hid (HX5.out.keep hky)
                    have bxb := HXB.out.keep hky
                    have y0 := bxb.cell 0 rfl; have y1 := bxb.cell 1 rfl; have y2 := bxb.cell 2 rfl; have y3 := bxb.cell 3 rfl
                    have HI := Lib.hid (rIns_any HX9.out.oc HCO.out (by have := HDL.out; omega))
                    simp only [vC] at HI
                    rw [← HPP.out, ← HYY.out] at HI
                    clear hky hl hlg bxb
                    go_wp2_with fail
                    refine HI.out.mono ?_
                    rintro e w10 ⟨v', rfl, ho6, -, hs6, hv6⟩
                    have HX6 : Hid (DfS w2 w10 (.slice g1 g2 g3) (gn a b) gb (dk a b (i + 1)).1 v' (dk a b (i + 1)).2) := Lib.hid (by
                      rw [HSD2.out]
                      exact HX9.out.ins ho6 hs6 hv6)
                    clear ho6 hs6 hv6 y0 y1 y2 y3
                    go_wp2_with fail
                    go_roundw
                    case rel => exact ⟨i + 1, _, by go_num, rfl, by have := HIL.out; omega, HX6.out⟩
                    case measure => simp [intOf]; have := HIL.out; omega
            · have j2 : (m : Int) ≤ (i : Int) := by omega
              have j2' : decide (i < m) = false := decide_eq_false hil
              have hdk : dk a b i = dif1 a b := dk_all a b (by have := HM.out; omega)
              have hdl := dk_len a b b.length (Nat.le_refl _)
              rw [dk_all a b (Nat.le_refl _)] at hdl
              rw [hdk] at HS
              have HDL : Hid ((dif1 a b).1.length = (gn a b).length ∧ (dif1 a b).2.length ≤ 64) := Lib.hid ⟨hdl.1, by have := HM.out; omega⟩
              obtain ⟨us, hus⟩ : ∃ us, us = (dif1 a b).1 := ⟨_, rfl⟩
              rw [← hus] at HS HDL
              have HUS := Lib.hid hus
              clear hS hi hil hdk hdl hus
              go_wp2_with fail
              go_loopw [12, 119] (fun ov lv wy => ∃ (l : Nat) (v : Value), lv = .int .i64 (l : Nat) ∧ ov = v ∧ l ≤ g2 ∧ DfS w2 wy (.slice g1 g2 g3) (gn a b) gb us v (rk a b l)) (fun _ lv _ => g2 - (intOf lv).toNat)
              case atStart => exact ⟨0, _, rfl, rfl, Nat.zero_le _, HS.out⟩
              case round =>
                obtain ⟨l, ov, rfl, rfl, hl, hS⟩ := hrel
                rename World => wy
                have HS2 := Lib.hid hS
                obtain ⟨⟨p1, p2, p3, rfl⟩, -⟩ := row_form hS.oc.owns
                by_cases hlg : l < g2
                · obtain ⟨g0, hg0⟩ : ∃ g0, (gn a b)[l]? = some g0 := ⟨_, List.getElem?_eq_getElem (by have := HG2.out; omega)⟩
                  obtain ⟨u, hu⟩ : ∃ u, us[l]? = some u := ⟨_, List.getElem?_eq_getElem (by have := HG2.out; have := HDL.out; omega)⟩
                  have hgm := List.mem_of_getElem? hg0
                  obtain ⟨gg, gf, rfl, hcell⟩ := hS.go.rw.cell (by omega)
                  obtain ⟨d0, d1⟩ := hcell l g0 hg0
                  have HGO : Hid ((Lt g0.1 ∧ Lt g0.2) ∧ (g0.1.length ≤ maxLen ∧ g0.2.length ≤ maxLen)) := Lib.hid ⟨hS.go.lt g0 hgm, hS.go.sm g0 hgm⟩
                  have j3 : (l : Int) < (g2 : Int) := by omega
                  have HRL : Hid ((rk a b l).length ≤ 900) := Lib.hid (by have := rk_len a b l; have := HDL.out.2; omega)
                  have HRS : Hid (rk a b (l + 1) = if u = true then rk a b l else ins (2, g0.1, [], []) (rk a b l)) := Lib.hid (by
                    rw [rk_step]; unfold stepR; rw [← HUS.out, hu, hg0]; rfl)
                  obtain ⟨G1, hG1⟩ : ∃ S, S = st g0.1 := ⟨_, rfl⟩
                  obtain ⟨G2, hG2⟩ : ∃ S, S = st g0.2 := ⟨_, rfl⟩
                  rw [← hG1] at d0
                  rw [← hG2] at d1
                  obtain ⟨w7, hw7⟩ : ∃ w7, w7 = wy.alloc (.cells #[.string G1, .string G2] 53) := ⟨_, rfl⟩
                  have hk7 : Kp wy w7 := by rw [hw7]; exact kp_alloc _ _
                  have hX7 := hS.keep hk7
                  have t0 := BF.cell hX7.ub hu
                  have bgb : Blk w7 wy.heap.size 53 #[.string G1, .string G2] := by rw [hw7]; exact Blk.new _ _ _
                  have t3 := bgb.cell 0 rfl; have t4 := bgb.cell 1 rfl
                  have HX7 := Lib.hid hX7
                  rw [hw7] at t0 t3 t4
                  have HW7 := Lib.hid hw7
                  have HCO : Hid (ChOk (2, g0.1, [], [])) := Lib.hid (chok (by decide) (HGO.out.1.1) (Lt.nil) (Lt.nil) (smB HZ1.out (List.mem_filter.1 hgm).1).1 (by simp) (by simp))
                  have HI := Lib.hid (rIns_any HX7.out.oc HCO.out HRL.out)
                  simp only [vC] at HI
                  rw [← hG1] at HI
                  clear hS hg0 hu hgm hcell hG1 hG2 hw7 hk7 hX7 bgb hl
                  cases u with
                  | true =>
                    have HX8 : Hid (DfS w2 w7 (.slice (some ⟨gg, gf, none⟩) g2 g3) (gn a b) gb us (.slice p1 p2 p3) (rk a b (l + 1))) := Lib.hid (by
                      rw [HRS.out, if_pos rfl]; exact HX7.out)
                    go_wp2_with fail
                    (try rw [← HW7.out])
                    go_roundw
                    case rel => exact ⟨l + 1, _, by go_num, rfl, by omega, HX8.out⟩
                    case measure => simp [intOf]; omega
                  | false =>
                    go_wp2_with fail
                    rw [← HW7.out]
                    refine HI.out.mono ?_
                    rintro e w10 ⟨v', rfl, ho6, -, hs6, hv6⟩
                    have HX8 : Hid (DfS w2 w10 (.slice (some ⟨gg, gf, none⟩) g2 g3) (gn a b) gb us v' (rk a b (l + 1))) := Lib.hid (by
                      rw [HRS.out, if_neg (by simp)]
                      exact HX7.out.ins ho6 hs6 hv6)
                    clear ho6 hs6 hv6 t0 t3 t4
                    go_wp2_with fail
                    go_roundw
                    case rel => exact ⟨l + 1, _, by go_num, rfl, by omega, HX8.out⟩
                    case measure => simp [intOf]; omega
                · have j3 : (g2 : Int) ≤ (l : Int) := by omega
                  have hle : rk a b l = difL a b := by
                    have h1 : l = (gn a b).length := by have := HG2.out; omega
                    rw [h1]; rfl
                  rw [hle] at HS2
                  clear hS hl hlg hle
                  go_wp2_with fail
                  exact FIN.out _ 0 _ FINE.out.1.symm (by rw [FINE.out.2]; exact HS2.out.oc.cw) (fun c hc => by have h1 := (row_form HS2.out.oc.owns).2 c hc; have h2 := HK2.out.size; have h3 := HSZ.out; omega) ((HK.out.trans HK2.out).trans HS2.out.kp)
    · have q2 : ((E2 : Int) != 0) = true := by simp; omega
      have F : Hid (1 = difE a b ∧ difA a b = []) := Lib.hid (by
        have h : difE a b = 1 := if_pos (.inr (by rw [← HE2.out]; exact he2))
        exact ⟨h.symm, if_neg (by rw [h]; decide)⟩)
      clear he2
      go_enter Tryz.func10, Tryz.ntmps10
      go_wp2_with fail
      rw [← HW.out]
      refine HCA.out.mono ?_
      rintro e w1 ⟨rfl, hk1⟩
      have HK1 := Lib.hid hk1
      have c1 := (HB2.out.keep hk1).cell 0 rfl
      clear hk1 c0
      go_wp2_with fail
      refine (HCB.out _ HK1.out).mono ?_
      rintro e w2 ⟨rfl, hk2⟩
      have HK2 := Lib.hid ((HK.out.trans HK1.out).trans hk2)
      clear hk2 c1
      go_wp2_with fail
      exact FIN.out _ 1 _ F.out.1 (by rw [F.out.2]; exact Cw.nil _) (fun c hc => by simp [Value.ownBlock] at hc) HK2.out
  · have q1 : ((E1 : Int) != 0) = true := by simp; omega
    have F : Hid (1 = difE a b ∧ difA a b = []) := Lib.hid (by
      have h : difE a b = 1 := if_pos (.inl (by rw [← HE1.out]; exact he1))
      exact ⟨h.symm, if_neg (by rw [h]; decide)⟩)
    clear he1
    go_enter Tryz.func10, Tryz.ntmps10
    go_wp2_with fail
    rw [← HW.out]
    refine HCA.out.mono ?_
    rintro e w1 ⟨rfl, hk1⟩
    have HK1 := Lib.hid (HK.out.trans hk1)
    clear hk1 c0
    go_wp2_with fail
    exact FIN.out _ 1 _ F.out.1 (by rw [F.out.2]; exact Cw.nil _) (fun c hc => by simp [Value.ownBlock] at hc) HK1.out
end By
end Go.Proofs.YtfobogcccbddbaaGreatDoor

