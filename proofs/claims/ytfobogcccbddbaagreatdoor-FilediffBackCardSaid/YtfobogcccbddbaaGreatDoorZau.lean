/- The files but one, as the maker has them. Conditions: the slice reads as the files that are named, at most a thousand. -/
import Derived.Test.YtfobogcccbddbaaGreatDoorZai
import Derived.Test.YtfobogcccbddbaaGreatDoorZak
import Derived.Test.YtfobogcccbddbaaGreatDoorZah
namespace Go.Proofs.YtfobogcccbddbaaGreatDoor
namespace By
open Go.RowKit WireN LexN RevN
set_option linter.unusedVariables false
set_option linter.unusedSimpArgs false

set_option maxRecDepth 100000 in
set_option maxHeartbeats 16000000 in
theorem remove_any {u : Value} {fs : List Fl} {p : List Nat} {w : World} (hr : Rw w u fs) (hp : Lt p) (hn : fs.length ≤ 1000) :
    Calls Tryz.prog 55 #[.agg #[u], .string (st p)] w fun e w' => ∃ v, e = .returned (.agg #[v]) ∧ Rw w' v (woL p fs) ∧ (∀ b, v.ownBlock = some b → w.heap.size ≤ b) ∧ Kp w w' := by
  obtain ⟨ao, cap, rfl, hcap, -, -⟩ := hr.open3
  obtain ⟨n, hnn⟩ : ∃ n, n = fs.length := ⟨_, rfl⟩
  rw [← hnn] at hr hcap hn ⊢
  obtain ⟨Q, hQ⟩ : ∃ Q : Ending → World → Prop, Q = fun e w' => ∃ v, e = .returned (.agg #[v]) ∧ Rw w' v (woL p fs) ∧ (∀ b, v.ownBlock = some b → w.heap.size ≤ b) ∧ Kp w w' := ⟨_, rfl⟩
  rw [← hQ]
  obtain ⟨xb, hxb⟩ : ∃ b, b = w.heap.size := ⟨_, rfl⟩
  obtain ⟨rb, hrb⟩ : ∃ b, b = w.heap.size + 1 := ⟨_, rfl⟩
  obtain ⟨ob, hob⟩ : ∃ b, b = w.heap.size + 2 := ⟨_, rfl⟩
  obtain ⟨P, hP⟩ : ∃ S, S = st p := ⟨_, rfl⟩
  rw [← hP]
  obtain ⟨Wa, hWa⟩ : ∃ W, W = w.alloc (.cells #[.slice ao n cap] 25) := ⟨_, rfl⟩
  obtain ⟨Wc, hWc⟩ : ∃ W, W = Wa.alloc (.cells #[.slice none 0 0] 25) := ⟨_, rfl⟩
  obtain ⟨X0, hX0⟩ : ∃ W, W = Wc.alloc (.cells #[.slice none 0 0] 25) := ⟨_, rfl⟩
  have za : Wa.heap.size = w.heap.size + 1 := by rw [hWa]; simp
  have zc : Wc.heap.size = w.heap.size + 2 := by rw [hWc]; simp; omega
  have ka : Kp w Wa := by rw [hWa]; exact kp_alloc w _
  have kc : Kp Wa Wc := by rw [hWc]; exact kp_alloc Wa _
  have kd : Kp Wc X0 := by rw [hX0]; exact kp_alloc Wc _
  have HKX : Hid (Kp w X0) := Lib.hid (Kp.trans ka (Kp.trans kc kd))
  have XB : Hid (Blk X0 xb 25 #[.slice ao n cap]) := Lib.hid (by
    have h : Blk Wa w.heap.size 25 #[.slice ao n cap] := by rw [hWa]; exact Blk.new _ _ _
    rw [hxb]; exact (h.keep kc).keep kd)
  have RB : Hid (Blk X0 rb 25 #[.slice none 0 0]) := Lib.hid (by
    have h : Blk Wc Wa.heap.size 25 #[.slice none 0 0] := by rw [hWc]; exact Blk.new _ _ _
    rw [hrb, ← za]; exact h.keep kd)
  have OB : Hid (Blk X0 ob 25 #[.slice none 0 0]) := Lib.hid (by rw [hob, ← zc, hX0]; exact Blk.new _ _ _)
  have HX0 : Hid (X0 = ((w.alloc (.cells #[.slice ao n cap] 25)).alloc (.cells #[.slice none 0 0] 25)).alloc (.cells #[.slice none 0 0] 25)) := Lib.hid (by rw [hX0, hWc, hWa])
  have EP := Lib.hid hP
  have EX := Lib.hid hxb; have ER := Lib.hid hrb; have EO := Lib.hid hob
  have HR := Lib.hid hr; have HN := Lib.hid hnn; have HPL := Lib.hid hp
  have hcp : (n : Int) ≤ (cap : Int) := by omega
  have hni : (n : Int) ≤ 1000 := by omega
  have HNK := Lib.hid hn
  have FACT : Hid (∀ W, Gr ob X0 W → Blk W xb 25 #[.slice ao n cap] ∧ Blk W rb 25 #[.slice none 0 0] ∧ Kp w W ∧ Rw W (.slice ao n cap) fs) := Lib.hid (fun W hg => by
    have hk : Kp w W := Gr.kp hg HKX.out (by have := EO.out; omega)
    have h1 := EX.out; have h3 := ER.out; have h4 := EO.out
    exact ⟨XB.out.by hg (fun e => by injection e; omega), RB.out.by hg (fun e => by injection e; omega), hk, HR.out.keep hk⟩)
  have FIN : Hid (∀ (a : Act) (W X : World) (v : Value) , a.defers = [] → a.tmps.getD 4 undef = .pointer (some ⟨rb, 0, none⟩) → Gr ob X0 X → W = X.setCell ⟨rb, 0, none⟩ v → OwF w X v (woL p fs) → (∀ b, v.ownBlock = some b → X0.heap.size ≤ b) → bodyPost Tryz.prog Tryz.f55 Q .ret a W) := Lib.hid (by
    intro a W X v h0 h2 hg hW ho hnew
    obtain ⟨-, hrb', hk, -⟩ := FACT.out X hg
    have oW : Only rb X W := by rw [hW]; exact (Only.refl rb X).set 0 _
    have hbW : Blk W rb 25 #[v] := by rw [hW]; exact hrb'.set 0 _
    have e0 := hbW.cell 0 rfl
    have h2' : a.tmps[4]?.getD undef = .pointer (some ⟨rb, 0, none⟩) := by simpa using h2
    refine bodyPost_ret (v := .agg #[v]) (by simp [results, Tryz.results55, go_sem, h2', e0]) h0 ?_
    rw [hQ]
    have h3 := ER.out; have h4 := RB.out.lt
    exact ⟨v, rfl, ho.rw.only oW (fun b hb e => by have := hnew b hb; omega), fun b hb => by have := hnew b hb; have := HKX.out.size; omega, Only.kp hk oW (by omega)⟩)
  obtain ⟨x0, x2, x3, x4⟩ := FACT.out X0 (Gr.refl _ _)
  have c0 := x0.cell 0 rfl
  rw [hX0, hWc, hWa] at c0
  clear hr hp hn hnn hcap hQ hxb hrb hob hP hWa hWc hX0 za zc ka kc kd x0 x2 x3 x4
  go_enter Tryz.func55, Tryz.ntmps55
  go_wp2_with fail
  rw [← HX0.out, ← EO.out, ← ER.out, ← EX.out]
  clear c0
  go_loopw [11] (fun i wr => ∃ (k : Nat) (vr : Value), i = .int .i64 k ∧ k ≤ n ∧ OwF w wr vr (woL p (fs.take k)) ∧ Blk wr ob 25 #[vr] ∧ (∀ b, vr.ownBlock = some b → X0.heap.size ≤ b) ∧ Gr ob X0 wr) (fun i _ => n - (intOf i).toNat)
  case atStart => exact ⟨0, _, rfl, Nat.zero_le _, (OwF.start w).keep HKX.out, OB.out, fun b hb => by simp [Value.ownBlock] at hb, Gr.refl _ _⟩
  case round =>
    obtain ⟨k, vr, rfl, hk, hown, hrow, hnew, hgr⟩ := hrel
    rename World => wx
    obtain ⟨gs, hgs⟩ : ∃ gs, gs = woL p (fs.take k) := ⟨_, rfl⟩
    rw [← hgs] at hown
    have HLEN : Hid (gs.length ≤ 1000) := Lib.hid (by
      have h : gs.length ≤ (fs.take k).length := by rw [hgs]; exact List.length_filter_le _ _
      have h3 : (fs.take k).length ≤ 1000 := by rw [List.length_take]; have := HN.out; have := HNK.out; omega
      omega)
    have HINS := Lib.hid hgs
    have HOWN := Lib.hid hown; have HROW := Lib.hid hrow; have HNEW := Lib.hid hnew; have HGR := Lib.hid hgr
    obtain ⟨⟨oa, ol, oc, hvr⟩, -⟩ := row_form hown.owns
    subst hvr
    clear hown hrow hnew hgr hgs
    obtain ⟨bx, br, hkx, hrx⟩ := FACT.out wx HGR.out
    by_cases hkn : k < n
    · obtain ⟨x, hx⟩ : ∃ x, fs[k]? = some x := ⟨_, List.getElem?_eq_getElem (by have := HN.out; omega)⟩
      obtain ⟨b, off, rfl, hc⟩ := hrx.cell (by omega)
      obtain ⟨c0, c1⟩ := hc k x hx
      have HXL : Hid ((Lt x.1 ∧ Lt x.2) ∧ (x.1.length ≤ maxLen ∧ x.2.length ≤ maxLen)) := Lib.hid ⟨hrx.lt x (List.mem_of_getElem? hx), hrx.sm x (List.mem_of_getElem? hx)⟩
      have hq := st_inj' HXL.out.1.1 HPL.out
      obtain ⟨eq, heq⟩ : ∃ e, e = decide (x.1 = p) := ⟨_, rfl⟩
      have HSTEP : Hid (woL p (fs.take (k + 1)) = gs ++ (if eq = true then [] else [x])) := Lib.hid (by rw [woL_snoc hx, ← HINS.out, heq])
      rw [← heq] at hq
      rw [← EP.out] at hq
      obtain ⟨T1, hT1⟩ : ∃ S, S = st x.1 := ⟨_, rfl⟩
      obtain ⟨T2, hT2⟩ : ∃ S, S = st x.2 := ⟨_, rfl⟩
      rw [← hT1] at c0 hq
      rw [← hT2] at c1
      have ET1 := Lib.hid hT1; have ET2 := Lib.hid hT2
      have o0 := HROW.out.cell 0 rfl; have of0 := HROW.out.free 0
      obtain ⟨WA, hWA⟩ : ∃ W, W = wx.alloc (.cells #[.string T1, .string T2] 53) := ⟨_, rfl⟩
      have HKA : Hid (Kp wx WA) := Lib.hid (by rw [hWA]; exact kp_alloc wx _)
      have XA : Hid (Blk WA wx.heap.size 53 #[.string T1, .string T2]) := Lib.hid (by rw [hWA]; exact Blk.new _ _ _)
      have HWA := Lib.hid hWA
      clear hc hx heq hT1 hT2 bx br hkx hrx hWA
      have HOA := Lib.hid (HOWN.out.keep HKA.out); have HRA := Lib.hid (HROW.out.keep HKA.out); have HNA := HNEW
      have HGA : Hid (Gr ob X0 WA) := Lib.hid (Gr.trans HGR.out (HKA.out.gr ob))
      have HXA := XA
      have HOBL : Hid (ob < X0.heap.size) := Lib.hid OB.out.lt
      have HXN : Hid (∀ b, (Value.slice oa ol oc).ownBlock = some b → b ≠ wx.heap.size) := Lib.hid (fun b hb e => by have := ((row_form HOWN.out.owns).2 b hb).2; omega)
      clear o0 of0 hk
      cases eq
      · have HST : Hid (woL p (fs.take (k + 1)) = gs ++ [x]) := Lib.hid (by rw [HSTEP.out]; simp)
        have HXNE : Hid (some wx.heap.size ≠ (Value.slice oa ol oc).ownBlock) := Lib.hid (fun e => HXN.out _ e.symm rfl)
        have o0 := HRA.out.cell 0 rfl; have of0 := HRA.out.free 0
        have x0 := HXA.out.cell 0 rfl; have x1 := HXA.out.cell 1 rfl
        have k4 := kp_alloc WA (.cells #[.string T1, .string T2] 53)
        have HBC : Hid (Blk (WA.alloc (.cells #[.string T1, .string T2] 53)) WA.heap.size 53 #[.string (st x.1), .string (st x.2)]) := Lib.hid (by rw [← ET1.out, ← ET2.out]; exact Blk.new _ _ _)
        have HOC := Lib.hid (HOA.out.keep k4); have HRC := Lib.hid (HRA.out.keep k4)
        have HXC := Lib.hid (HXA.out.keep k4)
        have HGL : Hid (wx.heap.size + 1 ≤ wx.heap.size + 1) := Lib.hid (by omega)
        have HGC : Hid (Gr ob X0 (WA.alloc (.cells #[.string T1, .string T2] 53))) := Lib.hid (Gr.trans HGA.out (k4.gr ob))
        have hsz : WA.heap.size = wx.heap.size + 1 := by rw [HWA.out]; simp
        rw [hsz] at HBC
        rw [HWA.out] at o0 of0 x0 x1 HBC HOC HRC HXC HGC
        clear k4 hsz
        go_wp2_with (at_builtin; refine wpList_fl (w := w) rfl (.tmp 20) (.tmp 22) rfl _ rfl HOC.out (by have := HLEN.out; omega) x HXL.out (wx.heap.size + 1) rfl HBC.out ?_)
        intro v7 w7 hown7 hg7 hb7
        obtain ⟨⟨oa7, ol7, oc7, hv7⟩, -⟩ := row_form hown7.owns
        subst hv7
        have HN7 : Hid (∀ b, (Value.slice oa7 ol7 oc7).ownBlock = some b → X0.heap.size ≤ b) := Lib.hid (by
          intro b hb
          rcases hb7 with h | h
          · exact HNA.out b (h ▸ hb)
          · rw [h] at hb
            have h1 := Option.some.inj hb
            have h2 := HGC.out.size
            simp at h1 h2
            omega)
        have HXLa : Hid (wx.heap.size + 1 ≤ w7.heap.size) := Lib.hid (by have h2 := HGL.out; have h3 := hg7.size; (try simp at h3); omega)
        have HXN7 : Hid (some wx.heap.size ≠ (Value.slice oa7 ol7 oc7).ownBlock) := Lib.hid (by
          intro e
          rcases hb7 with h | h
          · exact HXNE.out (by rw [← h]; exact e)
          · rw [h] at e
            have h1 := Option.some.inj e
            have h2 := HGL.out
            (try simp at h1)
            omega)
        have HG7 : Hid (Gr ob X0 w7) := Lib.hid (Gr.by HGC.out hg7 (fun r hr => HNA.out r hr))
        have rb7 := HRC.out.by hg7 (fun e => by have := HNA.out ob e.symm; have := HOBL.out; omega)
        have HXB : Hid (wx.heap.size ≠ ob) := Lib.hid (by have := HGR.out.size; have := HOBL.out; omega)
        have xb7 := HXC.out.by hg7 (fun e => absurd e HXNE.out)
        obtain ⟨w8, hn8⟩ : ∃ w8, w8 = w7.setCell ⟨ob, 0, none⟩ (.slice oa7 ol7 oc7) := ⟨_, rfl⟩
        have o8 : Only ob w7 w8 := by rw [hn8]; exact (Only.refl ob w7).set 0 _
        have hr8 : Blk w8 ob 25 #[.slice oa7 ol7 oc7] := by rw [hn8]; exact rb7.set 0 _
        have HO8 := Lib.hid (hown7.only o8 (by have := EO.out; omega) (fun b hb e => by have := HN7.out b hb; have := HOBL.out; omega))
        have HG8 : Hid (Gr ob X0 w8) := Lib.hid (Gr.trans HG7.out (Only.gr o8))
        have HX8 := Lib.hid (xb7.other o8 HXB.out)
        have HR8 := Lib.hid hr8
        have HEQw8 := Lib.hid hn8
        clear HOA HRA HNA HGA HXA HBC HOC HRC HXC HGC HXNE HGL o0 of0 x0 x1
        have HXNE := HXN7
        have HOA := HO8; have HRA := HR8; have HNA := HN7; have HGA := HG8; have HXA := HX8
        have p0 := rb7.cell 0 rfl; have pf0 := rb7.free 0
        clear hown7 hg7 hb7 rb7 xb7 o8 hr8 hn8 HO8 HG8 HX8 HR8 HN7 HG7 HXB
        go_wp2_with fail
        rw [← HEQw8.out]
        go_roundw
        case rel => exact ⟨k + 1, _, by go_num, by omega, by rw [HST.out]; exact HOA.out, HRA.out, HNA.out, HGA.out⟩
        case measure => simp [intOf]; omega
      · have HST : Hid (woL p (fs.take (k + 1)) = gs) := Lib.hid (by rw [HSTEP.out]; simp)
        have HXNE : Hid (some wx.heap.size ≠ (Value.slice oa ol oc).ownBlock) := Lib.hid (fun e => HXN.out _ e.symm rfl)
        have o0 := HRA.out.cell 0 rfl; have of0 := HRA.out.free 0
        have x0 := HXA.out.cell 0 rfl; have x1 := HXA.out.cell 1 rfl
        rw [HWA.out] at o0 of0 x0 x1
        go_wp2_with fail
        rw [← HWA.out]
        go_roundw
        case rel => exact ⟨k + 1, _, by go_num, by omega, by rw [HST.out]; exact HOA.out, HRA.out, HNA.out, HGA.out⟩
        case measure => simp [intOf]; omega
    · obtain rfl : k = n := by omega
      have HALL : Hid (woL p fs = gs) := Lib.hid (by rw [HINS.out, List.take_of_length_le (by have := HN.out; omega)])
      have o0 := HROW.out.cell 0 rfl; have of0 := HROW.out.free 0
      have r0 := br.cell 0 rfl; have rf0 := br.free 0
      clear bx hkx hrx br
      go_wp2_with fail
      exact FIN.out _ _ wx _ rfl rfl HGR.out rfl (by rw [HALL.out]; exact HOWN.out) HNEW.out
end By
end Go.Proofs.YtfobogcccbddbaaGreatDoor

/- What an edit of the maker makes of files, plain; one digit, a path with a digit. No condition. -/
namespace Go.Proofs.YtfobogcccbddbaaGreatDoor
namespace RevN
open WireN LexN
/-- Files that were drawn and edited at most k times. -/
structure Eds (k : Nat) (fs : List Fl) : Prop where
  chk : chkL [] fs = 0
  len : fs.length ≤ 7 + k
  sm : ∀ f ∈ fs, f.2.length ≤ 5200 + 1100 * k
theorem mem_ins2 {f x : Fl} : ∀ {fs : List Fl}, x ∈ ins2 f fs → x = f ∨ x ∈ fs
  | [], h => by
    simp [ins2] at h
    exact .inl h
  | y :: fs, h => by
    unfold ins2 at h
    split at h
    · rcases List.mem_cons.1 h with h | h
      · exact .inl h
      · exact .inr (List.mem_filter.1 h).1
    · rcases List.mem_cons.1 h with h | h
      · exact .inr (by rw [h]; exact List.mem_cons_self)
      · rcases mem_ins2 h with h | h
        · exact .inl h
        · exact .inr (List.mem_cons_of_mem _ h)
/-- A file that an edit may put: its path is well-formed, its bytes are few. -/
def EdF (k : Nat) (f : Fl) : Prop := (pathB f.1 = true ∧ f.1 ≠ []) ∧ f.2.length ≤ 5200 + 1100 * (k + 1)
theorem Eds.ins {k : Nat} {fs : List Fl} {f : Fl} (h : Eds k fs) (hk : k ≤ 6) (hf : EdF k f) : Eds (k + 1) (insL fs f) := by
  obtain ⟨⟨h1, h2⟩, h3⟩ := hf
  have h16 : f.2.length ≤ 16384 := Nat.le_trans h3 (by omega)
  refine ⟨?_, ?_, ?_⟩
  · rw [insL_eq]
    exact chkL_ins h1 h16 fs [] (lss_of_ne h2) h.chk
  · have := By.insL_len fs f
    have := h.len
    omega
  · intro x hx
    rw [insL_eq] at hx
    rcases mem_ins2 hx with rfl | hx
    · exact h3
    · have := h.sm x hx; omega
theorem chkL_filt : ∀ (l' : List Fl) (q r : List Nat) (P : Fl → Bool), chkL q l' = 0 → (r = q ∨ lss r q = true) → chkL r (l'.filter P) = 0
  | [], _, _, _, _, _ => rfl
  | x :: l', q, r, P, h, hr => by
    obtain ⟨h1, h2⟩ := chkL_tail h
    have hqx : lss q x.1 = true := chkL_gt h x List.mem_cons_self
    obtain ⟨q1, -, -, q4⟩ := fileE_ok h2
    have hrx : lss r x.1 = true := by
      rcases hr with rfl | hr
      · exact hqx
      · exact lss_trans hr hqx
    rw [List.filter_cons]
    split
    · exact chkL_cons (fileE_zero q1 hrx q4) (chkL_filt l' x.1 x.1 P h1 (.inl rfl))
    · exact chkL_filt l' x.1 r P h1 (.inr hrx)
theorem Eds.wo {k : Nat} {fs : List Fl} (h : Eds k fs) (p : List Nat) : Eds k (woL p fs) := by
  refine ⟨chkL_filt fs [] [] _ h.chk (.inl rfl), ?_, fun f hf => h.sm f (List.mem_filter.1 hf).1⟩
  have : (woL p fs).length ≤ fs.length := List.length_filter_le _ _
  have := h.len
  omega
theorem Eds.up {k : Nat} {fs : List Fl} (h : Eds k fs) : Eds (k + 1) fs := ⟨h.chk, by have := h.len; omega, fun f hf => by have := h.sm f hf; omega⟩
theorem foldl_mem {x : Fl} : ∀ (ops s : List Fl), x ∈ ops.foldl insL s → x ∈ ops ∨ x ∈ s
  | [], s, h => .inr h
  | f :: ops, s, h => by
    rw [List.foldl_cons] at h
    rcases foldl_mem ops _ h with h | h
    · exact .inl (List.mem_cons_of_mem _ h)
    · rw [insL_eq] at h
      rcases mem_ins2 h with rfl | h
      · exact .inl List.mem_cons_self
      · exact .inr h
end RevN
namespace By
open Go.RowKit WireN LexN RevN
set_option linter.unusedVariables false
set_option linter.unusedSimpArgs false
theorem srcs_path : ∀ s ∈ ([⟨#[97, 46, 115, 114, 99]⟩, ⟨#[98, 46, 115, 114, 99]⟩, ⟨#[100, 47, 99, 46, 115, 114, 99]⟩, ⟨#[120, 46, 115, 114, 99]⟩] : List ByteArray), (pathB (bs s) = true ∧ bs s ≠ []) ∧ s.size ≤ 8 := by decide +kernel
theorem dats_path : ∀ s ∈ ([⟨#[97, 46, 100, 97, 116]⟩, ⟨#[100, 47, 98, 46, 100, 97, 116]⟩, ⟨#[99]⟩] : List ByteArray), (pathB (bs s) = true ∧ bs s ≠ []) ∧ s.size ≤ 8 := by decide +kernel
theorem Put.eds {fs : List Fl} (h : Put 7 fs) : Eds 0 fs := by
  refine ⟨?_, by have := h.len; omega, ?_⟩
  · have := h.chk (by omega)
    unfold RevN.chk at this
    rw [if_neg (by have := h.len; omega)] at this
    exact this
  · obtain ⟨o, h1, h2, rfl⟩ := h
    intro f hf
    rcases foldl_mem o [] hf with hf | hf
    · have := (h2 f hf).2.2; omega
    · simp at hf
set_option maxRecDepth 100000 in
set_option maxHeartbeats 1000000 in
theorem Digit_z (n : Nat) (h : n < 10) (w : World) : Calls Tryz.prog 56 #[.int .i64 (n : Nat)] w fun e w' => e = .returned (.string (st [48 + n])) ∧ w = w' := by
  obtain ⟨S, hS⟩ : ∃ S, S = st [48 + n] := ⟨_, rfl⟩
  have hsub : sub [48, 49, 50, 51, 52, 53, 54, 55, 56, 57] n (n + 1) = [48 + n] := by
    obtain rfl | rfl | rfl | rfl | rfl | rfl | rfl | rfl | rfl | rfl : n = 0 ∨ n = 1 ∨ n = 2 ∨ n = 3 ∨ n = 4 ∨ n = 5 ∨ n = 6 ∨ n = 7 ∨ n = 8 ∨ n = 9 := by omega
    all_goals rfl
  have hcut : ∀ w, (Instr.slice 9 (.string ⟨#[48, 49, 50, 51, 52, 53, 54, 55, 56, 57]⟩) (some (.int .i64 (n : Int))) (some (.int .i64 ((n : Int) + 1))) none).run Tryz.prog w = .ok (.string S) w := fun w => by
    rw [hS, ← hsub]
    exact cut (l := [48, 49, 50, 51, 52, 53, 54, 55, 56, 57]) (i := n) (j := n + 1) (by omega) (by simp; omega) w
  have hi : (n : Int) < 10 := by omega
  rw [← hS]
  clear hS h hsub
  go_enter Tryz.func56, Tryz.ntmps56
  go_wp2_with fail
  go_ret
  exact ⟨rfl, rfl⟩
/-- A moved file's path. -/
theorem zpath {n : Nat} (h : n < 3) : ∃ D S1 S2 : ByteArray, (∀ w, Calls Tryz.prog 56 #[.int .i64 (n : Nat)] w fun e w' => e = .returned (.string D) ∧ w = w') ∧
    (∀ w, (Op.stringOp .add ⟨#[122]⟩ D).run Tryz.prog w = .ok (.string S1) w) ∧ (∀ w, (Op.stringOp .add S1 ⟨#[46, 115, 114, 99]⟩).run Tryz.prog w = .ok (.string S2) w) ∧ (pathB (bs S2) = true ∧ bs S2 ≠ []) ∧ S2.size ≤ 30 := by
  refine ⟨st [48 + n], ⟨#[122]⟩ ++ st [48 + n], (⟨#[122]⟩ ++ st [48 + n]) ++ ⟨#[46, 115, 114, 99]⟩, Digit_z n (by omega), fun w => run_string_add_sum w _ _ ?_, fun w => run_string_add_sum w _ _ ?_, ?_⟩
  · rw [st_size]; show 1 + 1 ≤ _; omega
  · rw [ByteArray.size_append, st_size]; show 1 + 1 + 4 ≤ _; omega
  · obtain rfl | rfl | rfl : n = 0 ∨ n = 1 ∨ n = 2 := by omega
    all_goals decide +kernel
end By
end Go.Proofs.YtfobogcccbddbaaGreatDoor
