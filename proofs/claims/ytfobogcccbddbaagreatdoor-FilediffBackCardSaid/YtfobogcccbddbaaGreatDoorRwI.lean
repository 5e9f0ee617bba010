/- A file put into a revision, as the reference does it. Conditions: the slice reads as the files that are named, at most a thousand. -/
import Derived.Test.YtfobogcccbddbaaGreatDoorZaf
import Derived.Test.YtfobogcccbddbaaGreatDoorRvO
import Derived.Test.YtfobogcccbddbaaGreatDoorZag
namespace Go.Proofs.YtfobogcccbddbaaGreatDoor
namespace RevN
open WireN LexN
def wiS (f : Fl) (s : Bool × List Fl) (x : Fl) : Bool × List Fl := (s.1 || lss f.1 x.1, (s.2 ++ (if !s.1 && lss f.1 x.1 then [f] else [])) ++ [x])
def wiP (f : Fl) (fs : List Fl) : Bool × List Fl := fs.foldl (wiS f) (false, [])
def wiL (fs : List Fl) (f : Fl) : List Fl := if (wiP f fs).1 = true then (wiP f fs).2 else (wiP f fs).2 ++ [f]
theorem wiP_snoc {f : Fl} {fs : List Fl} {k : Nat} {x : Fl} (h : fs[k]? = some x) : wiP f (fs.take (k + 1)) = wiS f (wiP f (fs.take k)) x := by
  unfold wiP
  rw [List.take_add_one, h, List.foldl_append]
  rfl
theorem wiP_len (f : Fl) (fs : List Fl) : (wiP f fs).2.length ≤ fs.length + (wiP f fs).1.toNat := by
  have h : ∀ (l : List Fl) (s : Bool × List Fl) (m : Nat), s.2.length ≤ m + s.1.toNat → (l.foldl (wiS f) s).2.length ≤ m + l.length + (l.foldl (wiS f) s).1.toNat := by
    intro l
    induction l with
    | nil => intro s m h; exact h
    | cons x l ih =>
      intro s m h
      have h2 := ih (wiS f s x) (m + 1) (by
        obtain ⟨d, out⟩ := s
        unfold wiS
        simp only at h ⊢
        simp only [List.length_append]
        cases d <;> cases lss f.1 x.1 <;> simp at h ⊢ <;> omega)
      simp only [List.foldl_cons, List.length_cons]
      omega
  have := h fs (false, []) 0 (Nat.le_refl _)
  rw [Nat.zero_add] at this
  exact this
end RevN
namespace By
open Go.RowKit WireN LexN RevN
set_option linter.unusedVariables false
set_option linter.unusedSimpArgs false

set_option maxRecDepth 100000 in
set_option maxHeartbeats 16000000 in
theorem with_any {u : Value} {fs : List Fl} {f : Fl} {w : World} (hr : Rw w u fs) (hfl : (Lt f.1 ∧ Lt f.2) ∧ (f.1.length ≤ maxLen ∧ f.2.length ≤ maxLen)) (hn : fs.length ≤ 1000) :
    Calls Tryz.prog 52 #[.agg #[u], .agg #[.string (st f.1), .string (st f.2)]] w fun e w' => ∃ v, e = .returned (.agg #[v]) ∧ Rw w' v (wiL fs f) ∧ (∀ b, v.ownBlock = some b → w.heap.size ≤ b) ∧ Kp w w' := by
  obtain ⟨ao, cap, rfl, hcap, -, -⟩ := hr.open3
  obtain ⟨n, hnn⟩ : ∃ n, n = fs.length := ⟨_, rfl⟩
  rw [← hnn] at hr hcap hn ⊢
  obtain ⟨Q, hQ⟩ : ∃ Q : Ending → World → Prop, Q = fun e w' => ∃ v, e = .returned (.agg #[v]) ∧ Rw w' v (wiL fs f) ∧ (∀ b, v.ownBlock = some b → w.heap.size ≤ b) ∧ Kp w w' := ⟨_, rfl⟩
  rw [← hQ]
  obtain ⟨xb, hxb⟩ : ∃ b, b = w.heap.size := ⟨_, rfl⟩
  obtain ⟨fb, hfb⟩ : ∃ b, b = w.heap.size + 1 := ⟨_, rfl⟩
  obtain ⟨rb, hrb⟩ : ∃ b, b = w.heap.size + 2 := ⟨_, rfl⟩
  obtain ⟨ob, hob⟩ : ∃ b, b = w.heap.size + 3 := ⟨_, rfl⟩
  obtain ⟨S1, hS1⟩ : ∃ S, S = st f.1 := ⟨_, rfl⟩
  obtain ⟨S2, hS2⟩ : ∃ S, S = st f.2 := ⟨_, rfl⟩
  rw [← hS1, ← hS2]
  obtain ⟨Wa, hWa⟩ : ∃ W, W = w.alloc (.cells #[.slice ao n cap] 25) := ⟨_, rfl⟩
  obtain ⟨Wb, hWb⟩ : ∃ W, W = Wa.alloc (.cells #[.string S1, .string S2] 53) := ⟨_, rfl⟩
  obtain ⟨Wc, hWc⟩ : ∃ W, W = Wb.alloc (.cells #[.slice none 0 0] 25) := ⟨_, rfl⟩
  obtain ⟨X0, hX0⟩ : ∃ W, W = Wc.alloc (.cells #[.slice none 0 0] 25) := ⟨_, rfl⟩
  have za : Wa.heap.size = w.heap.size + 1 := by rw [hWa]; simp
  have zb : Wb.heap.size = w.heap.size + 2 := by rw [hWb]; simp; omega
  have zc : Wc.heap.size = w.heap.size + 3 := by rw [hWc]; simp; omega
  have ka : Kp w Wa := by rw [hWa]; exact kp_alloc w _
  have kb : Kp Wa Wb := by rw [hWb]; exact kp_alloc Wa _
  have kc : Kp Wb Wc := by rw [hWc]; exact kp_alloc Wb _
  have kd : Kp Wc X0 := by rw [hX0]; exact kp_alloc Wc _
  have HKX : Hid (Kp w X0) := Lib.hid (Kp.trans ka (Kp.trans kb (Kp.trans kc kd)))
  have XB : Hid (Blk X0 xb 25 #[.slice ao n cap]) := Lib.hid (by
    have h : Blk Wa w.heap.size 25 #[.slice ao n cap] := by rw [hWa]; exact Blk.new _ _ _
    rw [hxb]; exact ((h.keep kb).keep kc).keep kd)
  have FB : Hid (Blk X0 fb 53 #[.string S1, .string S2]) := Lib.hid (by
    have h : Blk Wb Wa.heap.size 53 #[.string S1, .string S2] := by rw [hWb]; exact Blk.new _ _ _
    rw [hfb, ← za]; exact (h.keep kc).keep kd)
  have RB : Hid (Blk X0 rb 25 #[.slice none 0 0]) := Lib.hid (by
    have h : Blk Wc Wb.heap.size 25 #[.slice none 0 0] := by rw [hWc]; exact Blk.new _ _ _
    rw [hrb, ← zb]; exact h.keep kd)
  have OB : Hid (Blk X0 ob 25 #[.slice none 0 0]) := Lib.hid (by rw [hob, ← zc, hX0]; exact Blk.new _ _ _)
  have HX0 : Hid (X0 = (((w.alloc (.cells #[.slice ao n cap] 25)).alloc (.cells #[.string S1, .string S2] 53)).alloc (.cells #[.slice none 0 0] 25)).alloc (.cells #[.slice none 0 0] 25)) := Lib.hid (by rw [hX0, hWc, hWb, hWa])
  have ES1 := Lib.hid hS1; have ES2 := Lib.hid hS2
  have EX := Lib.hid hxb; have EF := Lib.hid hfb; have ER := Lib.hid hrb; have EO := Lib.hid hob
  have HR := Lib.hid hr; have HN := Lib.hid hnn; have HFL := Lib.hid hfl
  have hcp : (n : Int) ≤ (cap : Int) := by omega
  have hni : (n : Int) ≤ 1000 := by omega
  have HNK := Lib.hid hn
  -- a world that differs from X0 in block ob alone, and in new memory
  have FACT : Hid (∀ W, Gr ob X0 W → Blk W xb 25 #[.slice ao n cap] ∧ Blk W fb 53 #[.string S1, .string S2] ∧ Blk W rb 25 #[.slice none 0 0] ∧ Kp w W ∧ Rw W (.slice ao n cap) fs) := Lib.hid (fun W hg => by
    have hk : Kp w W := Gr.kp hg HKX.out (by have := EO.out; omega)
    have h1 := EX.out; have h2 := EF.out; have h3 := ER.out; have h4 := EO.out
    exact ⟨XB.out.by hg (fun e => by injection e; omega), FB.out.by hg (fun e => by injection e; omega), RB.out.by hg (fun e => by injection e; omega), hk, HR.out.keep hk⟩)
  have FIN : Hid (∀ (a : Act) (W X : World) (v : Value) , a.defers = [] → a.tmps.getD 4 undef = .pointer (some ⟨rb, 0, none⟩) → Gr ob X0 X → W = X.setCell ⟨rb, 0, none⟩ v → OwF w X v (wiL fs f) → (∀ b, v.ownBlock = some b → X0.heap.size ≤ b) → bodyPost Tryz.prog Tryz.f52 Q .ret a W) := Lib.hid (by
    intro a W X v h0 h2 hg hW ho hnew
    obtain ⟨-, -, hrb', hk, -⟩ := FACT.out X hg
    have oW : Only rb X W := by rw [hW]; exact (Only.refl rb X).set 0 _
    have hbW : Blk W rb 25 #[v] := by rw [hW]; exact hrb'.set 0 _
    have e0 := hbW.cell 0 rfl
    have h2' : a.tmps[4]?.getD undef = .pointer (some ⟨rb, 0, none⟩) := by simpa using h2
    refine bodyPost_ret (v := .agg #[v]) (by simp [results, Tryz.results52, go_sem, h2', e0]) h0 ?_
    rw [hQ]
    have h3 := ER.out; have h4 := RB.out.lt
    exact ⟨v, rfl, ho.rw.only oW (fun b hb e => by have := hnew b hb; omega), fun b hb => by have := hnew b hb; have := HKX.out.size; omega, Only.kp hk oW (by omega)⟩)
  obtain ⟨x0, x1, x2, x3, x4⟩ := FACT.out X0 (Gr.refl _ _)
  have c0 := x0.cell 0 rfl
  rw [hX0, hWc, hWb, hWa] at c0
  clear hr hfl hn hnn hcap hQ hxb hfb hrb hob hS1 hS2 hWa hWb hWc hX0 za zb zc ka kb kc kd x0 x1 x2 x3 x4
  go_enter Tryz.func52, Tryz.ntmps52
  go_wp2_with fail
  rw [← HX0.out, ← EO.out, ← ER.out, ← EF.out, ← EX.out]
  clear c0
  go_loopw [6, 12] (fun d i wr => ∃ (k : Nat) (vr : Value), i = .int .i64 k ∧ k ≤ n ∧ d = .bool (wiP f (fs.take k)).1 ∧ OwF w wr vr (wiP f (fs.take k)).2 ∧ Blk wr ob 25 #[vr] ∧ (∀ b, vr.ownBlock = some b → X0.heap.size ≤ b) ∧ Gr ob X0 wr) (fun _ i _ => n - (intOf i).toNat)
  case atStart => exact ⟨0, _, rfl, Nat.zero_le _, rfl, (OwF.start w).keep HKX.out, OB.out, fun b hb => by simp [Value.ownBlock] at hb, Gr.refl _ _⟩
  case round =>
    obtain ⟨k, vr, rfl, hk, rfl, hown, hrow, hnew, hgr⟩ := hrel
    rename World => wx
    obtain ⟨D, hD⟩ : ∃ D, D = (wiP f (fs.take k)).1 := ⟨_, rfl⟩
    obtain ⟨gs, hgs⟩ : ∃ gs, gs = (wiP f (fs.take k)).2 := ⟨_, rfl⟩
    rw [← hgs] at hown
    rw [← hD]
    have HLEN : Hid (gs.length ≤ 1001) := Lib.hid (by
      have h := wiP_len f (fs.take k)
      rw [← hgs] at h
      have h2 : (wiP f (fs.take k)).1.toNat ≤ 1 := Bool.toNat_le _
      have h3 : (fs.take k).length ≤ 1000 := by rw [List.length_take]; have := HN.out; have := HNK.out; omega
      omega)
    have HINS : Hid (wiP f (fs.take k) = (D, gs)) := Lib.hid (by rw [hD, hgs])
    have HOWN := Lib.hid hown; have HROW := Lib.hid hrow; have HNEW := Lib.hid hnew; have HGR := Lib.hid hgr
    obtain ⟨⟨oa, ol, oc, hvr⟩, -⟩ := row_form hown.owns
    subst hvr
    clear hown hrow hnew hgr hD hgs
    obtain ⟨bx, bf, br, hkx, hrx⟩ := FACT.out wx HGR.out
    by_cases hkn : k < n
    · obtain ⟨x, hx⟩ : ∃ x, fs[k]? = some x := ⟨_, List.getElem?_eq_getElem (by have := HN.out; omega)⟩
      obtain ⟨b, off, rfl, hc⟩ := hrx.cell (by omega)
      obtain ⟨c0, c1⟩ := hc k x hx
      have HXL : Hid ((Lt x.1 ∧ Lt x.2) ∧ (x.1.length ≤ maxLen ∧ x.2.length ≤ maxLen)) := Lib.hid ⟨hrx.lt x (List.mem_of_getElem? hx), hrx.sm x (List.mem_of_getElem? hx)⟩
      have HSTEP : Hid (wiP f (fs.take (k + 1)) = wiS f (D, gs) x) := Lib.hid (by rw [wiP_snoc hx, HINS.out])
      have hls := less_st HFL.out.1.1 HXL.out.1.1
      obtain ⟨ls, hlss⟩ : ∃ e, e = lss f.1 x.1 := ⟨_, rfl⟩
      rw [← hlss] at hls
      have HS2 : Hid (wiS f (D, gs) x = (D || ls, (gs ++ (if !D && ls then [f] else [])) ++ [x])) := Lib.hid (by
        unfold wiS
        simp only [← hlss])
      rw [← ES1.out] at hls
      obtain ⟨T1, hT1⟩ : ∃ S, S = st x.1 := ⟨_, rfl⟩
      obtain ⟨T2, hT2⟩ : ∃ S, S = st x.2 := ⟨_, rfl⟩
      rw [← hT1] at c0 hls
      rw [← hT2] at c1
      have ET1 := Lib.hid hT1; have ET2 := Lib.hid hT2
      have f0 := bf.cell 0 rfl; have f1 := bf.cell 1 rfl
      have o0 := HROW.out.cell 0 rfl; have of0 := HROW.out.free 0
      obtain ⟨WA, hWA⟩ : ∃ W, W = wx.alloc (.cells #[.string T1, .string T2] 53) := ⟨_, rfl⟩
      have HKA : Hid (Kp wx WA) := Lib.hid (by rw [hWA]; exact kp_alloc wx _)
      have XA : Hid (Blk WA wx.heap.size 53 #[.string T1, .string T2]) := Lib.hid (by rw [hWA]; exact Blk.new _ _ _)
      have HWA := Lib.hid hWA
      clear hc hx hlss hT1 hT2 bx bf br hkx hrx hWA
      have HOA := Lib.hid (HOWN.out.keep HKA.out); have HRA := Lib.hid (HROW.out.keep HKA.out); have HNA := HNEW
      have HGA : Hid (Gr ob X0 WA) := Lib.hid (Gr.trans HGR.out (HKA.out.gr ob))
      have HXA := XA
      have HOBL : Hid (ob < X0.heap.size) := Lib.hid OB.out.lt
      have HXN : Hid (∀ b, (Value.slice oa ol oc).ownBlock = some b → b ≠ wx.heap.size) := Lib.hid (fun b hb e => by have := ((row_form HOWN.out.owns).2 b hb).2; omega)
      clear o0 of0 f0 f1 hk
      cases D <;> cases ls
      · have HST : Hid (wiP f (fs.take (k + 1)) = (false, gs ++ [x])) := Lib.hid (by rw [HSTEP.out, HS2.out]; simp)
        have HXNE : Hid (some wx.heap.size ≠ (Value.slice oa ol oc).ownBlock) := Lib.hid (fun e => HXN.out _ e.symm rfl)
        obtain ⟨-, bf, -, -, -⟩ := FACT.out WA HGA.out
        have o0 := HRA.out.cell 0 rfl; have of0 := HRA.out.free 0
        have f0 := bf.cell 0 rfl; have f1 := bf.cell 1 rfl
        have x0 := HXA.out.cell 0 rfl; have x1 := HXA.out.cell 1 rfl
        have k4 := kp_alloc WA (.cells #[.string T1, .string T2] 53)
        have HBC : Hid (Blk (WA.alloc (.cells #[.string T1, .string T2] 53)) WA.heap.size 53 #[.string (st x.1), .string (st x.2)]) := Lib.hid (by rw [← ET1.out, ← ET2.out]; exact Blk.new _ _ _)
        have HOC := Lib.hid (HOA.out.keep k4); have HRC := Lib.hid (HRA.out.keep k4)
        have HXC := Lib.hid (HXA.out.keep k4)
        have HGL : Hid (wx.heap.size + 1 ≤ wx.heap.size + 1) := Lib.hid (by omega)
        have HGC : Hid (Gr ob X0 (WA.alloc (.cells #[.string T1, .string T2] 53))) := Lib.hid (Gr.trans HGA.out (k4.gr ob))
        have hsz : WA.heap.size = wx.heap.size + 1 := by rw [HWA.out]; simp
        rw [hsz] at HBC
        rw [HWA.out] at o0 of0 f0 f1 x0 x1 HBC HOC HRC HXC HGC
        clear k4 bf hsz
        go_wp2_with (at_builtin; refine wpList_fl (w := w) rfl (.tmp 32) (.tmp 34) rfl _ rfl HOC.out (by have := HLEN.out; omega) x HXL.out (wx.heap.size + 1) rfl HBC.out ?_)
        intro v7 w7 hown7 hg7 hb7
        obtain ⟨⟨oa7, ol7, oc7, hv7⟩, -⟩ := row_form hown7.owns
        subst hv7
        have HN7 : Hid (∀ b, (Value.slice oa7 ol7 oc7).ownBlock = some b → X0.heap.size ≤ b) := Lib.hid (by
          intro b hb
          rcases hb7 with h | h
          · exact HNA.out b (h ▸ hb)
          · rw [h] at hb
            have h1 := Option.some.inj hb
            have h2 := HGC.out.size
            simp at h1 h2
            omega)
        have HXLa : Hid (wx.heap.size + 1 ≤ w7.heap.size) := Lib.hid (by have h2 := HGL.out; have h3 := hg7.size; (try simp at h3); omega)
        have HXN7 : Hid (some wx.heap.size ≠ (Value.slice oa7 ol7 oc7).ownBlock) := Lib.hid (by
          intro e
          rcases hb7 with h | h
          · exact HXNE.out (by rw [← h]; exact e)
          · rw [h] at e
            have h1 := Option.some.inj e
            have h2 := HGL.out
            (try simp at h1)
            omega)
        have HG7 : Hid (Gr ob X0 w7) := Lib.hid (Gr.by HGC.out hg7 (fun r hr => HNA.out r hr))
        have rb7 := HRC.out.by hg7 (fun e => by have := HNA.out ob e.symm; have := HOBL.out; omega)
        have HXB : Hid (wx.heap.size ≠ ob) := Lib.hid (by have := HGR.out.size; have := HOBL.out; omega)
        have xb7 := HXC.out.by hg7 (fun e => absurd e HXNE.out)
        obtain ⟨w8, hn8⟩ : ∃ w8, w8 = w7.setCell ⟨ob, 0, none⟩ (.slice oa7 ol7 oc7) := ⟨_, rfl⟩
        have o8 : Only ob w7 w8 := by rw [hn8]; exact (Only.refl ob w7).set 0 _
        have hr8 : Blk w8 ob 25 #[.slice oa7 ol7 oc7] := by rw [hn8]; exact rb7.set 0 _
        have HO8 := Lib.hid (hown7.only o8 (by have := EO.out; omega) (fun b hb e => by have := HN7.out b hb; have := HOBL.out; omega))
        have HG8 : Hid (Gr ob X0 w8) := Lib.hid (Gr.trans HG7.out (Only.gr o8))
        have HX8 := Lib.hid (xb7.other o8 HXB.out)
        have HR8 := Lib.hid hr8
        have HEQw8 := Lib.hid hn8
        clear HOA HRA HNA HGA HXA HBC HOC HRC HXC HGC HXNE HGL o0 of0 f0 f1 x0 x1
        have HXNE := HXN7
        have HOA := HO8; have HRA := HR8; have HNA := HN7; have HGA := HG8; have HXA := HX8
        have p0 := rb7.cell 0 rfl; have pf0 := rb7.free 0
        clear hown7 hg7 hb7 rb7 xb7 o8 hr8 hn8 HO8 HG8 HX8 HR8 HN7 HG7 HXB
        go_wp2_with fail
        rw [← HEQw8.out]
        go_roundw
        case rel => exact ⟨k + 1, _, by go_num, by omega, by rw [HST.out], by rw [HST.out]; simpa using HOA.out, HRA.out, HNA.out, HGA.out⟩
        case measure => simp [intOf]; omega
      · have HST : Hid (wiP f (fs.take (k + 1)) = (true, gs ++ [f] ++ [x])) := Lib.hid (by rw [HSTEP.out, HS2.out]; simp)
        have HXNE : Hid (some wx.heap.size ≠ (Value.slice oa ol oc).ownBlock) := Lib.hid (fun e => HXN.out _ e.symm rfl)
        obtain ⟨-, bf, -, -, -⟩ := FACT.out WA HGA.out
        have o0 := HRA.out.cell 0 rfl; have of0 := HRA.out.free 0
        have f0 := bf.cell 0 rfl; have f1 := bf.cell 1 rfl
        have x0 := HXA.out.cell 0 rfl; have x1 := HXA.out.cell 1 rfl
        have k4 := kp_alloc WA (.cells #[.string S1, .string S2] 53)
        have HBC : Hid (Blk (WA.alloc (.cells #[.string S1, .string S2] 53)) WA.heap.size 53 #[.string (st f.1), .string (st f.2)]) := Lib.hid (by rw [← ES1.out, ← ES2.out]; exact Blk.new _ _ _)
        have HOC := Lib.hid (HOA.out.keep k4); have HRC := Lib.hid (HRA.out.keep k4)
        have HXC := Lib.hid (HXA.out.keep k4)
        have HGL : Hid (wx.heap.size + 1 ≤ wx.heap.size + 1) := Lib.hid (by omega)
        have HGC : Hid (Gr ob X0 (WA.alloc (.cells #[.string S1, .string S2] 53))) := Lib.hid (Gr.trans HGA.out (k4.gr ob))
        have hsz : WA.heap.size = wx.heap.size + 1 := by rw [HWA.out]; simp
        rw [hsz] at HBC
        rw [HWA.out] at o0 of0 f0 f1 x0 x1 HBC HOC HRC HXC HGC
        clear k4 bf hsz
        go_wp2_with (at_builtin; refine wpList_fl (w := w) rfl (.tmp 26) (.tmp 28) rfl _ rfl HOC.out (by have := HLEN.out; omega) f HFL.out (wx.heap.size + 1) rfl HBC.out ?_)
        intro v5 w5 hown5 hg5 hb5
        obtain ⟨⟨oa5, ol5, oc5, hv5⟩, -⟩ := row_form hown5.owns
        subst hv5
        have HN5 : Hid (∀ b, (Value.slice oa5 ol5 oc5).ownBlock = some b → X0.heap.size ≤ b) := Lib.hid (by
          intro b hb
          rcases hb5 with h | h
          · exact HNA.out b (h ▸ hb)
          · rw [h] at hb
            have h1 := Option.some.inj hb
            have h2 := HGC.out.size
            simp at h1 h2
            omega)
        have HXLa : Hid (wx.heap.size + 1 ≤ w5.heap.size) := Lib.hid (by have h2 := HGL.out; have h3 := hg5.size; (try simp at h3); omega)
        have HXN5 : Hid (some wx.heap.size ≠ (Value.slice oa5 ol5 oc5).ownBlock) := Lib.hid (by
          intro e
          rcases hb5 with h | h
          · exact HXNE.out (by rw [← h]; exact e)
          · rw [h] at e
            have h1 := Option.some.inj e
            have h2 := HGL.out
            (try simp at h1)
            omega)
        have HG5 : Hid (Gr ob X0 w5) := Lib.hid (Gr.by HGC.out hg5 (fun r hr => HNA.out r hr))
        have rb5 := HRC.out.by hg5 (fun e => by have := HNA.out ob e.symm; have := HOBL.out; omega)
        have HXB : Hid (wx.heap.size ≠ ob) := Lib.hid (by have := HGR.out.size; have := HOBL.out; omega)
        have xb5 := HXC.out.by hg5 (fun e => absurd e HXNE.out)
        obtain ⟨w6, hn6⟩ : ∃ w6, w6 = w5.setCell ⟨ob, 0, none⟩ (.slice oa5 ol5 oc5) := ⟨_, rfl⟩
        have o6 : Only ob w5 w6 := by rw [hn6]; exact (Only.refl ob w5).set 0 _
        have hr6 : Blk w6 ob 25 #[.slice oa5 ol5 oc5] := by rw [hn6]; exact rb5.set 0 _
        have HO6 := Lib.hid (hown5.only o6 (by have := EO.out; omega) (fun b hb e => by have := HN5.out b hb; have := HOBL.out; omega))
        have HG6 : Hid (Gr ob X0 w6) := Lib.hid (Gr.trans HG5.out (Only.gr o6))
        have HX6 := Lib.hid (xb5.other o6 HXB.out)
        have HR6 := Lib.hid hr6
        have HEQw6 := Lib.hid hn6
        clear HOA HRA HNA HGA HXA HBC HOC HRC HXC HGC HXNE HGL o0 of0 f0 f1 x0 x1
        have HXNE := HXN5
        have HOA := HO6; have HRA := HR6; have HNA := HN5; have HGA := HG6; have HXA := HX6
        have p0 := rb5.cell 0 rfl; have pf0 := rb5.free 0
        clear hown5 hg5 hb5 rb5 xb5 o6 hr6 hn6 HO6 HG6 HX6 HR6 HN5 HG5 HXB
        obtain ⟨-, bf, -, -, -⟩ := FACT.out w6 HGA.out
        have o0 := HRA.out.cell 0 rfl; have of0 := HRA.out.free 0
        have f0 := bf.cell 0 rfl; have f1 := bf.cell 1 rfl
        have x0 := HXA.out.cell 0 rfl; have x1 := HXA.out.cell 1 rfl
        have k4 := kp_alloc w6 (.cells #[.string T1, .string T2] 53)
        have HBC : Hid (Blk (w6.alloc (.cells #[.string T1, .string T2] 53)) w6.heap.size 53 #[.string (st x.1), .string (st x.2)]) := Lib.hid (by rw [← ET1.out, ← ET2.out]; exact Blk.new _ _ _)
        have HOC := Lib.hid (HOA.out.keep k4); have HRC := Lib.hid (HRA.out.keep k4)
        have HXC := Lib.hid (HXA.out.keep k4)
        have HGL : Hid (wx.heap.size + 1 ≤ w5.heap.size) := Lib.hid (by exact HXLa.out)
        have HGC : Hid (Gr ob X0 (w6.alloc (.cells #[.string T1, .string T2] 53))) := Lib.hid (Gr.trans HGA.out (k4.gr ob))
        have hsz : w6.heap.size = w5.heap.size := by rw [HEQw6.out]; simp
        rw [hsz] at HBC
        rw [HEQw6.out] at o0 of0 f0 f1 x0 x1 HBC HOC HRC HXC HGC
        clear k4 bf hsz
        go_wp2_with (at_builtin; refine wpList_fl (w := w) rfl (.tmp 32) (.tmp 34) rfl _ rfl HOC.out (by have := HLEN.out; simp; omega) x HXL.out (w5.heap.size) rfl HBC.out ?_)
        intro v7 w7 hown7 hg7 hb7
        obtain ⟨⟨oa7, ol7, oc7, hv7⟩, -⟩ := row_form hown7.owns
        subst hv7
        have HN7 : Hid (∀ b, (Value.slice oa7 ol7 oc7).ownBlock = some b → X0.heap.size ≤ b) := Lib.hid (by
          intro b hb
          rcases hb7 with h | h
          · exact HNA.out b (h ▸ hb)
          · rw [h] at hb
            have h1 := Option.some.inj hb
            have h2 := HGC.out.size
            simp at h1 h2
            omega)
        have HXLa : Hid (wx.heap.size + 1 ≤ w7.heap.size) := Lib.hid (by have h2 := HGL.out; have h3 := hg7.size; (try simp at h3); omega)
        have HXN7 : Hid (some wx.heap.size ≠ (Value.slice oa7 ol7 oc7).ownBlock) := Lib.hid (by
          intro e
          rcases hb7 with h | h
          · exact HXNE.out (by rw [← h]; exact e)
          · rw [h] at e
            have h1 := Option.some.inj e
            have h2 := HGL.out
            (try simp at h1)
            omega)
        have HG7 : Hid (Gr ob X0 w7) := Lib.hid (Gr.by HGC.out hg7 (fun r hr => HNA.out r hr))
        have rb7 := HRC.out.by hg7 (fun e => by have := HNA.out ob e.symm; have := HOBL.out; omega)
        have HXB : Hid (wx.heap.size ≠ ob) := Lib.hid (by have := HGR.out.size; have := HOBL.out; omega)
        have xb7 := HXC.out.by hg7 (fun e => absurd e HXNE.out)
        obtain ⟨w8, hn8⟩ : ∃ w8, w8 = w7.setCell ⟨ob, 0, none⟩ (.slice oa7 ol7 oc7) := ⟨_, rfl⟩
        have o8 : Only ob w7 w8 := by rw [hn8]; exact (Only.refl ob w7).set 0 _
        have hr8 : Blk w8 ob 25 #[.slice oa7 ol7 oc7] := by rw [hn8]; exact rb7.set 0 _
        have HO8 := Lib.hid (hown7.only o8 (by have := EO.out; omega) (fun b hb e => by have := HN7.out b hb; have := HOBL.out; omega))
        have HG8 : Hid (Gr ob X0 w8) := Lib.hid (Gr.trans HG7.out (Only.gr o8))
        have HX8 := Lib.hid (xb7.other o8 HXB.out)
        have HR8 := Lib.hid hr8
        have HEQw8 := Lib.hid hn8
        clear HOA HRA HNA HGA HXA HBC HOC HRC HXC HGC HXNE HGL o0 of0 f0 f1 x0 x1
        have HXNE := HXN7
        have HOA := HO8; have HRA := HR8; have HNA := HN7; have HGA := HG8; have HXA := HX8
        have p0 := rb7.cell 0 rfl; have pf0 := rb7.free 0
        clear hown7 hg7 hb7 rb7 xb7 o8 hr8 hn8 HO8 HG8 HX8 HR8 HN7 HG7 HXB
        go_wp2_with fail
        rw [← HEQw8.out]
        go_roundw
        case rel => exact ⟨k + 1, _, by go_num, by omega, by rw [HST.out], by rw [HST.out]; simpa using HOA.out, HRA.out, HNA.out, HGA.out⟩
        case measure => simp [intOf]; omega
      · have HST : Hid (wiP f (fs.take (k + 1)) = (true, gs ++ [x])) := Lib.hid (by rw [HSTEP.out, HS2.out]; simp)
        have HXNE : Hid (some wx.heap.size ≠ (Value.slice oa ol oc).ownBlock) := Lib.hid (fun e => HXN.out _ e.symm rfl)
        obtain ⟨-, bf, -, -, -⟩ := FACT.out WA HGA.out
        have o0 := HRA.out.cell 0 rfl; have of0 := HRA.out.free 0
        have f0 := bf.cell 0 rfl; have f1 := bf.cell 1 rfl
        have x0 := HXA.out.cell 0 rfl; have x1 := HXA.out.cell 1 rfl
        have k4 := kp_alloc WA (.cells #[.string T1, .string T2] 53)
        have HBC : Hid (Blk (WA.alloc (.cells #[.string T1, .string T2] 53)) WA.heap.size 53 #[.string (st x.1), .string (st x.2)]) := Lib.hid (by rw [← ET1.out, ← ET2.out]; exact Blk.new _ _ _)
        have HOC := Lib.hid (HOA.out.keep k4); have HRC := Lib.hid (HRA.out.keep k4)
        have HXC := Lib.hid (HXA.out.keep k4)
        have HGL : Hid (wx.heap.size + 1 ≤ wx.heap.size + 1) := Lib.hid (by omega)
        have HGC : Hid (Gr ob X0 (WA.alloc (.cells #[.string T1, .string T2] 53))) := Lib.hid (Gr.trans HGA.out (k4.gr ob))
        have hsz : WA.heap.size = wx.heap.size + 1 := by rw [HWA.out]; simp
        rw [hsz] at HBC
        rw [HWA.out] at o0 of0 f0 f1 x0 x1 HBC HOC HRC HXC HGC
        clear k4 bf hsz
        go_wp2_with (at_builtin; refine wpList_fl (w := w) rfl (.tmp 32) (.tmp 34) rfl _ rfl HOC.out (by have := HLEN.out; omega) x HXL.out (wx.heap.size + 1) rfl HBC.out ?_)
        intro v7 w7 hown7 hg7 hb7
        obtain ⟨⟨oa7, ol7, oc7, hv7⟩, -⟩ := row_form hown7.owns
        subst hv7
        have HN7 : Hid (∀ b, (Value.slice oa7 ol7 oc7).ownBlock = some b → X0.heap.size ≤ b) := Lib.hid (by
          intro b hb
          rcases hb7 with h | h
          · exact HNA.out b (h ▸ hb)
          · rw [h] at hb
            have h1 := Option.some.inj hb
            have h2 := HGC.out.size
            simp at h1 h2
            omega)
        have HXLa : Hid (wx.heap.size + 1 ≤ w7.heap.size) := Lib.hid (by have h2 := HGL.out; have h3 := hg7.size; (try simp at h3); omega)
        have HXN7 : Hid (some wx.heap.size ≠ (Value.slice oa7 ol7 oc7).ownBlock) := Lib.hid (by
          intro e
          rcases hb7 with h | h
          · exact HXNE.out (by rw [← h]; exact e)
          · rw [h] at e
            have h1 := Option.some.inj e
            have h2 := HGL.out
            (try simp at h1)
            omega)
        have HG7 : Hid (Gr ob X0 w7) := Lib.hid (Gr.by HGC.out hg7 (fun r hr => HNA.out r hr))
        have rb7 := HRC.out.by hg7 (fun e => by have := HNA.out ob e.symm; have := HOBL.out; omega)
        have HXB : Hid (wx.heap.size ≠ ob) := Lib.hid (by have := HGR.out.size; have := HOBL.out; omega)
        have xb7 := HXC.out.by hg7 (fun e => absurd e HXNE.out)
        obtain ⟨w8, hn8⟩ : ∃ w8, w8 = w7.setCell ⟨ob, 0, none⟩ (.slice oa7 ol7 oc7) := ⟨_, rfl⟩
        have o8 : Only ob w7 w8 := by rw [hn8]; exact (Only.refl ob w7).set 0 _
        have hr8 : Blk w8 ob 25 #[.slice oa7 ol7 oc7] := by rw [hn8]; exact rb7.set 0 _
        have HO8 := Lib.hid (hown7.only o8 (by have := EO.out; omega) (fun b hb e => by have := HN7.out b hb; have := HOBL.out; omega))
        have HG8 : Hid (Gr ob X0 w8) := Lib.hid (Gr.trans HG7.out (Only.gr o8))
        have HX8 := Lib.hid (xb7.other o8 HXB.out)
        have HR8 := Lib.hid hr8
        have HEQw8 := Lib.hid hn8
        clear HOA HRA HNA HGA HXA HBC HOC HRC HXC HGC HXNE HGL o0 of0 f0 f1 x0 x1
        have HXNE := HXN7
        have HOA := HO8; have HRA := HR8; have HNA := HN7; have HGA := HG8; have HXA := HX8
        have p0 := rb7.cell 0 rfl; have pf0 := rb7.free 0
        clear hown7 hg7 hb7 rb7 xb7 o8 hr8 hn8 HO8 HG8 HX8 HR8 HN7 HG7 HXB
        go_wp2_with fail
        rw [← HEQw8.out]
        go_roundw
        case rel => exact ⟨k + 1, _, by go_num, by omega, by rw [HST.out], by rw [HST.out]; simpa using HOA.out, HRA.out, HNA.out, HGA.out⟩
        case measure => simp [intOf]; omega
      · have HST : Hid (wiP f (fs.take (k + 1)) = (true, gs ++ [x])) := Lib.hid (by rw [HSTEP.out, HS2.out]; simp)
        have HXNE : Hid (some wx.heap.size ≠ (Value.slice oa ol oc).ownBlock) := Lib.hid (fun e => HXN.out _ e.symm rfl)
        obtain ⟨-, bf, -, -, -⟩ := FACT.out WA HGA.out
        have o0 := HRA.out.cell 0 rfl; have of0 := HRA.out.free 0
        have f0 := bf.cell 0 rfl; have f1 := bf.cell 1 rfl
        have x0 := HXA.out.cell 0 rfl; have x1 := HXA.out.cell 1 rfl
        have k4 := kp_alloc WA (.cells #[.string T1, .string T2] 53)
        have HBC : Hid (Blk (WA.alloc (.cells #[.string T1, .string T2] 53)) WA.heap.size 53 #[.string (st x.1), .string (st x.2)]) := Lib.hid (by rw [← ET1.out, ← ET2.out]; exact Blk.new _ _ _)
        have HOC := Lib.hid (HOA.out.keep k4); have HRC := Lib.hid (HRA.out.keep k4)
        have HXC := Lib.hid (HXA.out.keep k4)
        have HGL : Hid (wx.heap.size + 1 ≤ wx.heap.size + 1) := Lib.hid (by omega)
        have HGC : Hid (Gr ob X0 (WA.alloc (.cells #[.string T1, .string T2] 53))) := Lib.hid (Gr.trans HGA.out (k4.gr ob))
        have hsz : WA.heap.size = wx.heap.size + 1 := by rw [HWA.out]; simp
        rw [hsz] at HBC
        rw [HWA.out] at o0 of0 f0 f1 x0 x1 HBC HOC HRC HXC HGC
        clear k4 bf hsz
        go_wp2_with (at_builtin; refine wpList_fl (w := w) rfl (.tmp 32) (.tmp 34) rfl _ rfl HOC.out (by have := HLEN.out; omega) x HXL.out (wx.heap.size + 1) rfl HBC.out ?_)
        intro v7 w7 hown7 hg7 hb7
        obtain ⟨⟨oa7, ol7, oc7, hv7⟩, -⟩ := row_form hown7.owns
        subst hv7
        have HN7 : Hid (∀ b, (Value.slice oa7 ol7 oc7).ownBlock = some b → X0.heap.size ≤ b) := Lib.hid (by
          intro b hb
          rcases hb7 with h | h
          · exact HNA.out b (h ▸ hb)
          · rw [h] at hb
            have h1 := Option.some.inj hb
            have h2 := HGC.out.size
            simp at h1 h2
            omega)
        have HXLa : Hid (wx.heap.size + 1 ≤ w7.heap.size) := Lib.hid (by have h2 := HGL.out; have h3 := hg7.size; (try simp at h3); omega)
        have HXN7 : Hid (some wx.heap.size ≠ (Value.slice oa7 ol7 oc7).ownBlock) := Lib.hid (by
          intro e
          rcases hb7 with h | h
          · exact HXNE.out (by rw [← h]; exact e)
          · rw [h] at e
            have h1 := Option.some.inj e
            have h2 := HGL.out
            (try simp at h1)
            omega)
        have HG7 : Hid (Gr ob X0 w7) := Lib.hid (Gr.by HGC.out hg7 (fun r hr => HNA.out r hr))
        have rb7 := HRC.out.by hg7 (fun e => by have := HNA.out ob e.symm; have := HOBL.out; omega)
        have HXB : Hid (wx.heap.size ≠ ob) := Lib.hid (by have := HGR.out.size; have := HOBL.out; omega)
        have xb7 := HXC.out.by hg7 (fun e => absurd e HXNE.out)
        obtain ⟨w8, hn8⟩ : ∃ w8, w8 = w7.setCell ⟨ob, 0, none⟩ (.slice oa7 ol7 oc7) := ⟨_, rfl⟩
        have o8 : Only ob w7 w8 := by rw [hn8]; exact (Only.refl ob w7).set 0 _
        have hr8 : Blk w8 ob 25 #[.slice oa7 ol7 oc7] := by rw [hn8]; exact rb7.set 0 _
        have HO8 := Lib.hid (hown7.only o8 (by have := EO.out; omega) (fun b hb e => by have := HN7.out b hb; have := HOBL.out; omega))
        have HG8 : Hid (Gr ob X0 w8) := Lib.hid (Gr.trans HG7.out (Only.gr o8))
        have HX8 := Lib.hid (xb7.other o8 HXB.out)
        have HR8 := Lib.hid hr8
        have HEQw8 := Lib.hid hn8
        clear HOA HRA HNA HGA HXA HBC HOC HRC HXC HGC HXNE HGL o0 of0 f0 f1 x0 x1
        have HXNE := HXN7
        have HOA := HO8; have HRA := HR8; have HNA := HN7; have HGA := HG8; have HXA := HX8
        have p0 := rb7.cell 0 rfl; have pf0 := rb7.free 0
        clear hown7 hg7 hb7 rb7 xb7 o8 hr8 hn8 HO8 HG8 HX8 HR8 HN7 HG7 HXB
        go_wp2_with fail
        rw [← HEQw8.out]
        go_roundw
        case rel => exact ⟨k + 1, _, by go_num, by omega, by rw [HST.out], by rw [HST.out]; simpa using HOA.out, HRA.out, HNA.out, HGA.out⟩
        case measure => simp [intOf]; omega
    · obtain rfl : k = n := by omega
      have HALL : Hid (wiP f fs = (D, gs)) := Lib.hid (by rw [← HINS.out, List.take_of_length_le (by have := HN.out; omega)])
      have HOA := HOWN; have HRA := HROW; have HNA := HNEW; have HGA := HGR
      have HOBL : Hid (ob < X0.heap.size) := Lib.hid OB.out.lt
      clear bx hkx hrx
      cases D with
      | true =>
        have HIN : Hid (wiL fs f = gs) := Lib.hid (by unfold wiL; rw [HALL.out]; rfl)
        have o0 := HRA.out.cell 0 rfl; have of0 := HRA.out.free 0
        have r0 := br.cell 0 rfl; have rf0 := br.free 0
        clear bf br
        go_wp2_with fail
        exact FIN.out _ _ wx _ rfl rfl HGA.out rfl (by rw [HIN.out]; exact HOA.out) HNA.out
      | false =>
        have HIN : Hid (wiL fs f = gs ++ [f]) := Lib.hid (by unfold wiL; rw [HALL.out]; rfl)
        have o0 := HRA.out.cell 0 rfl; have of0 := HRA.out.free 0
        have f0 := bf.cell 0 rfl; have f1 := bf.cell 1 rfl
        have k4 := kp_alloc wx (.cells #[.string S1, .string S2] 53)
        have HBC : Hid (Blk (wx.alloc (.cells #[.string S1, .string S2] 53)) wx.heap.size 53 #[.string (st f.1), .string (st f.2)]) := Lib.hid (by rw [← ES1.out, ← ES2.out]; exact Blk.new _ _ _)
        have HOC := Lib.hid (HOA.out.keep k4); have HRC := Lib.hid (HRA.out.keep k4)
        have HGC : Hid (Gr ob X0 (wx.alloc (.cells #[.string S1, .string S2] 53))) := Lib.hid (Gr.trans HGA.out (k4.gr ob))
        clear k4 bf br
        go_wp2_with (at_builtin; refine wpList_fl (w := w) rfl (.tmp 41) (.tmp 43) rfl _ rfl HOC.out (by have := HLEN.out; omega) f HFL.out wx.heap.size rfl HBC.out ?_)
        intro v5 w5 hown5 hg5 hb5
        obtain ⟨⟨oa5, ol5, oc5, hv5⟩, -⟩ := row_form hown5.owns
        subst hv5
        have HN5 : Hid (∀ b, (Value.slice oa5 ol5 oc5).ownBlock = some b → X0.heap.size ≤ b) := Lib.hid (by
          intro b hb
          rcases hb5 with h | h
          · exact HNA.out b (h ▸ hb)
          · rw [h] at hb
            have h1 := Option.some.inj hb
            have h2 := HGC.out.size
            simp at h1 h2
            omega)
        have HG5 : Hid (Gr ob X0 w5) := Lib.hid (Gr.by HGC.out hg5 (fun r hr => HNA.out r hr))
        have rb5 := HRC.out.by hg5 (fun e => by have := HNA.out ob e.symm; have := HOBL.out; omega)
        have ho5 := hown5
        obtain ⟨w6, hw6⟩ : ∃ w6, w6 = w5.setCell ⟨ob, 0, none⟩ (.slice oa5 ol5 oc5) := ⟨_, rfl⟩
        have o6 : Only ob w5 w6 := by rw [hw6]; exact (Only.refl ob w5).set 0 _
        have hr6 : Blk w6 ob 25 #[.slice oa5 ol5 oc5] := by rw [hw6]; exact rb5.set 0 _
        have HO6 := Lib.hid (ho5.only o6 (by have := EO.out; omega) (fun b hb e => by have := HN5.out b hb; have := HOBL.out; omega))
        have HG6 : Hid (Gr ob X0 w6) := Lib.hid (Gr.trans HG5.out (Only.gr o6))
        obtain ⟨-, -, br6, -, -⟩ := FACT.out w6 HG6.out
        have o0 := rb5.cell 0 rfl; have of0 := rb5.free 0
        have p0 := hr6.cell 0 rfl; have r0 := br6.cell 0 rfl; have rf0 := br6.free 0
        have HW6 := Lib.hid hw6
        rw [hw6] at p0 r0 rf0
        clear hown5 hg5 hb5 rb5 ho5 o6 hr6 br6 hw6 f0 f1
        go_wp2_with fail
        exact FIN.out _ _ w6 _ rfl rfl HG6.out (by rw [HW6.out]) (by rw [HIN.out]; exact HO6.out) HN5.out
end By
end Go.Proofs.YtfobogcccbddbaaGreatDoor
