/- The reference's Decode. Condition: at most a million bytes. -/
import Derived.Test.YtlfoikjbbbhbdaaCtT
import Derived.Test.YtlfoikjbbbhbdaaWRFrs
import Derived.Test.YtlfoikjbbbhbdaaWSameF
namespace Go.Proofs.Ytlfoikjbbbhbdaa
namespace By
open Go.RowKit WireN CtN
set_option linter.unusedVariables false
set_option linter.unusedSimpArgs false

/-- What Decode answers, of frames and the error at their end. -/
def dcE (fs : List (Nat × List Nat)) (E : Nat) : Nat := if E ≠ 0 then E else if ∀ f ∈ fs, f.1 = 3 then err (fs.map (fun f => f.2)) else 6
def dcL (fs : List (Nat × List Nat)) (E : Nat) : List Tx := if dcE fs E = 0 then fs.map (fun f => f.2) else []
theorem dcL_no {fs : List (Nat × List Nat)} {E : Nat} (h : dcE fs E ≠ 0) : dcL fs E = [] := if_neg h
theorem dcL_ok {fs : List (Nat × List Nat)} {E : Nat} (h : dcE fs E = 0) : dcL fs E = fs.map (fun f => f.2) := if_pos h
/-- What Decode leaves. -/
def DecR (xs : List Nat) (w : World) (e : Ending) (w' : World) : Prop :=
  ∃ fs q E u, Chain xs 0 fs q ∧ Stops xs q E ∧ e = .returned (.tuple #[.agg #[u], .int .i64 (dcE fs E : Nat)]) ∧ Tw w' u (dcL fs E) ∧ (∀ b, u.ownBlock = some b → w.heap.size ≤ b) ∧ Kp w w'
theorem sl_txok {w : World} {v : Value} {xs : List Nat} (h : Sl w v xs) : TxOk xs := by
  obtain ⟨⟨ao, cap, rfl, h2, h3, h4, h5⟩, hl, hsm⟩ := h
  exact ⟨hl, by omega⟩
set_option maxRecDepth 100000 in
set_option maxHeartbeats 8000000 in
theorem rDecT_any {w : World} {v : Value} {xs : List Nat} (hs : Sl w v xs) (hsm : xs.length ≤ 1000000) :
    Calls Try.prog 46 #[v] w (DecR xs w) := by
  obtain ⟨Q, hQ⟩ : ∃ Q, Q = DecR xs w := ⟨_, rfl⟩
  rw [← hQ]
  obtain ⟨W, hW⟩ : ∃ W, W = w.alloc (.cells #[.slice none 0 0] 25) := ⟨_, rfl⟩
  have hk0 : Kp w W := by rw [hW]; exact kp_alloc _ _
  have b1 : Blk W w.heap.size 25 #[.slice none 0 0] := by rw [hW]; exact Blk.new _ _ _
  have hsz : W.heap.size = w.heap.size + 1 := by rw [hW]; simp
  have HFR := Lib.hid (rFrames_any (hs.keep hk0) hsm)
  have HW := Lib.hid hW; have HK := Lib.hid hk0; have HB1 := Lib.hid b1; have HSM := Lib.hid hsm; have HSZ := Lib.hid hsz
  have HQ := Lib.hid hQ
  obtain ⟨ao, xc, rfl, -, -, -⟩ := hs.open3
  obtain ⟨xl, hxl⟩ : ∃ xl, xl = xs.length := ⟨_, rfl⟩
  rw [← hxl] at HFR ⊢
  clear hs hk0 b1 hW hQ hsm hsz hxl
  go_enter Try.func46, Try.ntmps46
  go_wp2_with fail
  rw [← HW.out]
  refine HFR.out.mono ?_
  rintro e w2 ⟨fs, vps, q, E, vo, hst, rfl, hrf⟩
  have FIN : Hid (∀ (W' : World) (u0 u : Value) (R : Nat) (A : Act), Blk W' w.heap.size 25 #[u0] → Kp w W' → A.defers = [] → A.tmps.getD 2 undef = .pointer (some ⟨w.heap.size, 0, none⟩) → A.tmps.getD 3 undef = .int .i64 (R : Nat) → Tw W' u (dcL fs E) → (∀ b, u.ownBlock = some b → w.heap.size + 1 ≤ b) → R = dcE fs E →
      bodyPost Try.prog Try.f46 Q .ret A (W'.setCell ⟨w.heap.size, 0, none⟩ u)) := Lib.hid (by
    intro W' u0 u R A hb hk h0 h4 h5 hT hu hR
    have b3 := hb.set 0 u
    have e0 := b3.cell 0 (v := u) rfl
    have h4' : A.tmps[2]?.getD undef = .pointer (some ⟨w.heap.size, 0, none⟩) := by simpa using h4
    have h5' : A.tmps[3]?.getD undef = .int .i64 (R : Nat) := by simpa using h5
    refine bodyPost_ret (v := .tuple #[.agg #[u], .int .i64 (R : Nat)]) (by simp [results, Try.results46, go_sem, h4', h5', e0]) h0 ?_
    rw [HQ.out]
    exact ⟨fs, q, E, u, hrf.ch, hst, by rw [hR], hT.setc (fun b hb2 => by have := hu b hb2; omega), fun b hb2 => by have := hu b hb2; omega, Only.kp hk ((Only.refl w.heap.size W').set 0 _) (Nat.le_refl _)⟩)
  have hfs := hrf.fs HSM.out
  have HKR := Lib.hid hrf.kp
  have HFS := Lib.hid hfs
  have hfew := hfs.few
  obtain ⟨⟨va, vc, rfl, hcap, hcells⟩, -⟩ := hfs
  obtain ⟨n, hn⟩ : ∃ n, n = fs.length := ⟨_, rfl⟩
  rw [← hn] at HFS hcap hfew ⊢
  have HN := Lib.hid hn; have HCE := Lib.hid hcells
  have i1 : (n : Int) ≤ (vc : Int) := by omega
  have i2 : (n : Int) ≤ 1000000 := by omega
  clear hst hrf hn hcells hcap HFR
  by_cases he : E = 0
  · have q1 : ((E : Int) != 0) = false := by simp [he]
    have HDE : Hid (dcE fs E = if ∀ f ∈ fs, f.1 = 3 then err (fs.map (fun f => f.2)) else 6) := Lib.hid (by rw [dcE, if_neg (by simp [he])])
    clear he
    obtain ⟨w3, hw3⟩ : ∃ W, W = w2.alloc (.cells #[.slice none 0 0] 25) := ⟨_, rfl⟩
    obtain ⟨o, ho⟩ : ∃ o, o = w2.heap.size := ⟨_, rfl⟩
    have hI0 : MgI w2 w3 o (.slice none 0 0) (.slice none 0 0) [] [] := by
      rw [hw3, ho]
      exact ⟨Blk.new _ _ _, (OwT.start w2).keep (kp_alloc _ _), (OwJ.start w2).keep (kp_alloc _ _), Nat.le_refl _, fun c hc => by simp [Value.ownBlock] at hc, fun c hc => by simp [Value.ownBlock] at hc, fun c hc e => by simp [Value.ownBlock] at e⟩
    have HI0 := Lib.hid hI0; have HW3 := Lib.hid hw3; have HO := Lib.hid ho
    clear hI0 hw3 ho
    go_wp2_with fail
    rw [← HW3.out, ← HO.out]
    go_loopw [23] (fun i wr => ∃ (k : Nat) (u : Value), i = .int .i64 (k : Nat) ∧ k ≤ n ∧ MgI w2 wr o u (.slice none 0 0) ((fs.map (fun f => f.2)).take k) [] ∧ Hid (∀ f ∈ fs.take k, f.1 = 3)) (fun i _ => n - (intOf i).toNat)
    case atStart => exact ⟨0, _, rfl, Nat.zero_le _, HI0.out, Lib.hid (by simp)⟩
    case round =>
      obtain ⟨k, u, rfl, hk, hI, HALL⟩ := hrel
      rename World => wr
      have HI := Lib.hid hI
      obtain ⟨⟨u1, u2, u3, rfl⟩, -⟩ := row_frc hI.ow.owns
      by_cases hlt : k < n
      · obtain ⟨f, hf⟩ : ∃ f, fs[k]? = some f := ⟨_, List.getElem?_eq_getElem (by have := HN.out; omega)⟩
        obtain ⟨g, rfl, hcell⟩ := HCE.out (fun h => by rw [h] at hf; simp at hf)
        obtain ⟨fv, c0, c1, hsl⟩ := hcell k f hf
        have d0 := cell_kept c0 hI.kp
        have d1 := cell_kept c1 hI.kp
        have hslr := hsl.keep hI.kp
        have hto := sl_txok hslr
        have j1 : (k : Int) < (n : Int) := by omega
        have hlen : ((fs.map (fun f => f.2)).take k).length ≤ 1000000 := by rw [List.length_take]; omega
        have HST : Hid (fs.take (k + 1) = fs.take k ++ [f]) := Lib.hid (by rw [List.take_add_one, hf]; rfl)
        have HF := Lib.hid hf; have HLN := Lib.hid hlen; have HTO := Lib.hid hto
        obtain ⟨f1, f2⟩ := f
        simp only at d0 hslr HTO
        obtain ⟨fa, fc, rfl, -, -, -⟩ := hslr.open3
        obtain ⟨fl, hfl⟩ : ∃ fl, fl = f2.length := ⟨_, rfl⟩
        rw [← hfl] at d1 hslr
        have HSR := Lib.hid hslr
        clear hcell c0 c1 hsl hslr hto hf hlen hfl hk
        by_cases hkind : f1 = 3
        · have hq3 : ((f1 : Int) != 3) = false := by simp; omega
          have qs := conv_str (HSR.out.keep (kp_alloc wr (.cells #[.int .i64 (f1 : Nat), .slice fa fl fc] 80)))
          have e4 := (hI.keep (kp_alloc wr (.cells #[.int .i64 (f1 : Nat), .slice fa fl fc] 80))).blk.cell 0 rfl
          obtain ⟨w4, hw4⟩ : ∃ W, W = wr.alloc (.cells #[.int .i64 (f1 : Nat), .slice fa fl fc] 80) := ⟨_, rfl⟩
          have HI5 : Hid (MgI w2 (w4.alloc (.cells #[.string (st f2)] 9)) o (.slice u1 u2 u3) (.slice none 0 0) ((fs.map (fun f => f.2)).take k) []) := Lib.hid ((hI.keep (by rw [hw4]; exact kp_alloc wr _)).keep (kp_alloc _ (.cells #[.string (st f2)] 9)))
          have hs4 : w4.heap.size = wr.heap.size + 1 := by rw [hw4]; simp
          have HNB : Hid (Blk (w4.alloc (.cells #[.string (st f2)] 9)) (wr.heap.size + 1) 9 #[.string (st f2)]) := Lib.hid (by rw [← hs4]; exact Blk.new _ _ _)
          have HW4 := Lib.hid hw4
          have HAL2 : Hid (∀ f ∈ fs.take (k + 1), f.1 = 3) := Lib.hid (by
            rw [HST.out]; intro f hf
            rcases List.mem_append.1 hf with h | h
            · exact HALL.out f h
            · obtain rfl : f = (f1, f2) := by simpa using h
              exact hkind)
          have HMP : Hid ((fs.map (fun f => f.2)).take (k + 1) = (fs.map (fun f => f.2)).take k ++ [f2]) := Lib.hid (by rw [List.take_add_one, List.getElem?_map, HF.out]; rfl)
          clear hI hw4 hs4 hkind
          go_wp2_with (at_builtin; (try rw [← HW4.out]); refine wpList_tx (w := w2) rfl (.tmp 32) (.tmp 36) rfl _ rfl HI5.out.ow (by have := HLN.out; omega) f2 HTO.out (wr.heap.size + 1) rfl HNB.out ?_)
          intro v6 w6 ho6 hg6 ha6
          obtain ⟨⟨x1, x2, x3, rfl⟩, -⟩ := row_frc ho6.owns
          obtain ⟨hb6, hI7⟩ := HI5.out.text ho6 hg6 (by simpa using ha6)
          have g6 := hb6.cell 0 rfl; have g6' := hb6.free 0
          rw [← HMP.out] at hI7
          have HX := Lib.hid hI7
          clear ho6 hg6 ha6 hb6 hI7 e4 qs d0 d1
          go_wp2_with fail
          go_roundw
          case rel => exact ⟨k + 1, _, by go_num, by omega, HX.out, HAL2⟩
          case measure => simp [intOf]; omega
        · have hq3 : ((f1 : Int) != 3) = true := by simp; omega
          have F : Hid (dcE fs E = 6 ∧ dcL fs E = []) := Lib.hid (by
            have h : dcE fs E = 6 := by
              rw [HDE.out, if_neg]
              intro h
              exact hkind (h (f1, f2) (List.mem_of_getElem? HF.out))
            exact ⟨h, dcL_no (by rw [h]; decide)⟩)
          have hb4 := (HB1.out.keep (HKR.out.trans hI.kp)).keep (kp_alloc wr (.cells #[.int .i64 (f1 : Nat), .slice fa fl fc] 80))
          have HB4 := Lib.hid hb4
          have f4 := hb4.free 0; have d4 := hb4.cell 0 rfl
          have HK4 : Hid (Kp w (wr.alloc (.cells #[.int .i64 (f1 : Nat), .slice fa fl fc] 80))) := Lib.hid (((HK.out.trans HKR.out).trans hI.kp).trans (kp_alloc _ _))
          clear hI hb4 hkind
          go_wp2_with fail
          exact FIN.out _ _ _ 6 _ HB4.out HK4.out rfl rfl rfl (by rw [F.out.2]; exact Tw.nil _) (fun c hc => by simp [Value.ownBlock] at hc) F.out.1.symm
      · obtain rfl : k = n := by omega
        have htk : fs.take k = fs := List.take_of_length_le (by have := HN.out; omega)
        have htk2 : (fs.map (fun f => f.2)).take k = fs.map (fun f => f.2) := List.take_of_length_le (by rw [List.length_map]; have := HN.out; omega)
        rw [htk2] at HI
        rw [htk] at HALL
        have HDF : Hid (dcE fs E = err (fs.map (fun f => f.2))) := Lib.hid (by rw [HDE.out, if_pos HALL.out])
        have e0 := HI.out.blk.cell 0 rfl
        have HCK := Lib.hid (rCheckT_any HI.out.ow.tw)
        obtain ⟨R, hR⟩ : ∃ R, R = err (fs.map (fun f => f.2)) := ⟨_, rfl⟩
        rw [← hR] at HCK HDF
        clear htk htk2 hI hlt hk hR
        by_cases hr : R = 0
        · have q2 : ((R : Int) != 0) = false := by simp [hr]
          have HDZ : Hid (dcE fs E = 0) := Lib.hid (HDF.out.trans hr)
          clear hr
          go_wp2_with fail
          refine HCK.out.mono ?_
          rintro e w8 ⟨rfl, hk8⟩
          have HI8 := Lib.hid (HI.out.keep hk8)
          have e8 := HI8.out.blk.cell 0 rfl
          have hb4 := HB1.out.keep (HKR.out.trans HI8.out.kp)
          have HB4 := Lib.hid hb4
          have f4 := hb4.free 0; have d4 := hb4.cell 0 rfl
          have HU : Hid (∀ c, (Value.slice u1 u2 u3).ownBlock = some c → w.heap.size + 1 ≤ c) := Lib.hid (fun c hc => by have := HI8.out.ow.newer c hc; have := HKR.out.size; have := HSZ.out; omega)
          clear hk8 hb4 e0
          go_wp2_with fail
          exact FIN.out _ _ _ 0 _ HB4.out ((HK.out.trans HKR.out).trans HI8.out.kp) rfl rfl rfl (by rw [dcL_ok HDZ.out]; exact HI8.out.ow.tw) HU.out HDZ.out.symm
        · have q2 : ((R : Int) != 0) = true := by simp; omega
          have F : Hid (dcE fs E = R ∧ dcL fs E = []) := Lib.hid ⟨HDF.out, dcL_no (by rw [HDF.out]; exact hr)⟩
          clear hr
          go_wp2_with fail
          refine HCK.out.mono ?_
          rintro e w8 ⟨rfl, hk8⟩
          have HI8 := Lib.hid (HI.out.keep hk8)
          have hb4 := HB1.out.keep (HKR.out.trans HI8.out.kp)
          have HB4 := Lib.hid hb4
          have f4 := hb4.free 0; have d4 := hb4.cell 0 rfl
          clear hk8 hb4 e0
          go_wp2_with fail
          exact FIN.out _ _ _ R _ HB4.out ((HK.out.trans HKR.out).trans HI8.out.kp) rfl rfl rfl (by rw [F.out.2]; exact Tw.nil _) (fun c hc => by simp [Value.ownBlock] at hc) F.out.1.symm
  · have q1 : ((E : Int) != 0) = true := by simp; omega
    have F : Hid (dcE fs E = E ∧ dcL fs E = []) := Lib.hid (by
      have h : dcE fs E = E := by rw [dcE, if_pos he]
      exact ⟨h, dcL_no (by rw [h]; exact he)⟩)
    have hb4 := HB1.out.keep HKR.out
    have HB4 := Lib.hid hb4
    have f4 := hb4.free 0; have d4 := hb4.cell 0 rfl
    clear he hb4
    go_wp2_with fail
    exact FIN.out _ _ _ E _ HB4.out (HK.out.trans HKR.out) rfl rfl rfl (by rw [F.out.2]; exact Tw.nil _) (fun c hc => by simp [Value.ownBlock] at hc) F.out.1.symm
end By
end Go.Proofs.Ytlfoikjbbbhbdaa
