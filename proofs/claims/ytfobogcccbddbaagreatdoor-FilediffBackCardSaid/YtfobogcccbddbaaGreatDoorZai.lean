/- The files but one, as the reference has them. Conditions: the slice reads as the files that are named, at most a thousand. -/
import Derived.Test.YtfobogcccbddbaaGreatDoorZaf
import Derived.Test.YtfobogcccbddbaaGreatDoorRvO
import Derived.Test.YtfobogcccbddbaaGreatDoorZag
import Derived.Test.YtfobogcccbddbaaGreatDoorZah
import Derived.Test.YtfobogcccbddbaaGreatDoorRwI
namespace Go.Proofs.YtfobogcccbddbaaGreatDoor
namespace RevN
open WireN LexN
def woL (p : List Nat) (fs : List Fl) : List Fl := fs.filter (fun f => !decide (f.1 = p))
theorem woL_snoc {p : List Nat} {fs : List Fl} {k : Nat} {x : Fl} (h : fs[k]? = some x) : woL p (fs.take (k + 1)) = woL p (fs.take k) ++ (if decide (x.1 = p) = true then [] else [x]) := by
  unfold woL
  rw [List.take_add_one, h, List.filter_append]
  by_cases hx : x.1 = p <;> simp [hx]
end RevN
namespace By
open Go.RowKit WireN LexN RevN
set_option linter.unusedVariables false
set_option linter.unusedSimpArgs false

set_option maxRecDepth 100000 in
set_option maxHeartbeats 16000000 in
theorem without_any {u : Value} {fs : List Fl} {p : List Nat} {w : World} (hr : Rw w u fs) (hp : Lt p) (hn : fs.length ≤ 1000) :
    Calls Tryz.prog 53 #[.agg #[u], .string (st p)] w fun e w' => ∃ v, e = .returned (.agg #[v]) ∧ Rw w' v (woL p fs) ∧ (∀ b, v.ownBlock = some b → w.heap.size ≤ b) ∧ Kp w w' := by
  obtain ⟨ao, cap, rfl, hcap, -, -⟩ := hr.open3
  obtain ⟨n, hnn⟩ : ∃ n, n = fs.length := ⟨_, rfl⟩
  rw [← hnn] at hr hcap hn ⊢
  obtain ⟨Q, hQ⟩ : ∃ Q : Ending → World → Prop, Q = fun e w' => ∃ v, e = .returned (.agg #[v]) ∧ Rw w' v (woL p fs) ∧ (∀ b, v.ownBlock = some b → w.heap.size ≤ b) ∧ Kp w w' := ⟨_, rfl⟩
  rw [← hQ]
  obtain ⟨xb, hxb⟩ : ∃ b, b = w.heap.size := ⟨_, rfl⟩
  obtain ⟨rb, hrb⟩ : ∃ b, b = w.heap.size + 1 := ⟨_, rfl⟩
  obtain ⟨ob, hob⟩ : ∃ b, b = w.heap.size + 2 := ⟨_, rfl⟩
  obtain ⟨P, hP⟩ : ∃ S, S = st p := ⟨_, rfl⟩
  rw [← hP]
  obtain ⟨Wa, hWa⟩ : ∃ W, W = w.alloc (.cells #[.slice ao n cap] 25) := ⟨_, rfl⟩
  obtain ⟨Wc, hWc⟩ : ∃ W, W = Wa.alloc (.cells #[.slice none 0 0] 25) := ⟨_, rfl⟩
  obtain ⟨X0, hX0⟩ : ∃ W, W = Wc.alloc (.cells #[.slice none 0 0] 25) := ⟨_, rfl⟩
  have za : Wa.heap.size = w.heap.size + 1 := by rw [hWa]; simp
  have zc : Wc.heap.size = w.heap.size + 2 := by rw [hWc]; simp; omega
  have ka : Kp w Wa := by rw [hWa]; exact kp_alloc w _
  have kc : Kp Wa Wc := by rw [hWc]; exact kp_alloc Wa _
  have kd : Kp Wc X0 := by rw [hX0]; exact kp_alloc Wc _
  have HKX : Hid (Kp w X0) := Lib.hid (Kp.trans ka (Kp.trans kc kd))
  have XB : Hid (Blk X0 xb 25 #[.slice ao n cap]) := Lib.hid (by
    have h : Blk Wa w.heap.size 25 #[.slice ao n cap] := by rw [hWa]; exact Blk.new _ _ _
    rw [hxb]; exact (h.keep kc).keep kd)
  have RB : Hid (Blk X0 rb 25 #[.slice none 0 0]) := Lib.hid (by
    have h : Blk Wc Wa.heap.size 25 #[.slice none 0 0] := by rw [hWc]; exact Blk.new _ _ _
    rw [hrb, ← za]; exact h.keep kd)
  have OB : Hid (Blk X0 ob 25 #[.slice none 0 0]) := Lib.hid (by rw [hob, ← zc, hX0]; exact Blk.new _ _ _)
  have HX0 : Hid (X0 = ((w.alloc (.cells #[.slice ao n cap] 25)).alloc (.cells #[.slice none 0 0] 25)).alloc (.cells #[.slice none 0 0] 25)) := Lib.hid (by rw [hX0, hWc, hWa])
  have EP := Lib.hid hP
  have EX := Lib.hid hxb; have ER := Lib.hid hrb; have EO := Lib.hid hob
  have HR := Lib.hid hr; have HN := Lib.hid hnn; have HPL := Lib.hid hp
  have hcp : (n : Int) ≤ (cap : Int) := by omega
  have hni : (n : Int) ≤ 1000 := by omega
  have HNK := Lib.hid hn
  have FACT : Hid (∀ W, Gr ob X0 W → Blk W xb 25 #[.slice ao n cap] ∧ Blk W rb 25 #[.slice none 0 0] ∧ Kp w W ∧ Rw W (.slice ao n cap) fs) := Lib.hid (fun W hg => by
    have hk : Kp w W := Gr.kp hg HKX.out (by have := EO.out; omega)
    have h1 := EX.out; have h3 := ER.out; have h4 := EO.out
    exact ⟨XB.out.by hg (fun e => by injection e; omega), RB.out.by hg (fun e => by injection e; omega), hk, HR.out.keep hk⟩)
  have FIN : Hid (∀ (a : Act) (W X : World) (v : Value) , a.defers = [] → a.tmps.getD 4 undef = .pointer (some ⟨rb, 0, none⟩) → Gr ob X0 X → W = X.setCell ⟨rb, 0, none⟩ v → OwF w X v (woL p fs) → (∀ b, v.ownBlock = some b → X0.heap.size ≤ b) → bodyPost Tryz.prog Tryz.f53 Q .ret a W) := Lib.hid (by
    intro a W X v h0 h2 hg hW ho hnew
    obtain ⟨-, hrb', hk, -⟩ := FACT.out X hg
    have oW : Only rb X W := by rw [hW]; exact (Only.refl rb X).set 0 _
    have hbW : Blk W rb 25 #[v] := by rw [hW]; exact hrb'.set 0 _
    have e0 := hbW.cell 0 rfl
    have h2' : a.tmps[4]?.getD undef = .pointer (some ⟨rb, 0, none⟩) := by simpa using h2
    refine bodyPost_ret (v := .agg #[v]) (by simp [results, Tryz.results53, go_sem, h2', e0]) h0 ?_
    rw [hQ]
    have h3 := ER.out; have h4 := RB.out.lt
    exact ⟨v, rfl, ho.rw.only oW (fun b hb e => by have := hnew b hb; omega), fun b hb => by have := hnew b hb; have := HKX.out.size; omega, Only.kp hk oW (by omega)⟩)
  obtain ⟨x0, x2, x3, x4⟩ := FACT.out X0 (Gr.refl _ _)
  have c0 := x0.cell 0 rfl
  rw [hX0, hWc, hWa] at c0
  clear hr hp hn hnn hcap hQ hxb hrb hob hP hWa hWc hX0 za zc ka kc kd x0 x2 x3 x4
  go_enter Tryz.func53, Tryz.ntmps53
  go_wp2_with fail
  rw [← HX0.out, ← EO.out, ← ER.out, ← EX.out]
  clear c0
  go_loopw [11] (fun i wr => ∃ (k : Nat) (vr : Value), i = .int .i64 k ∧ k ≤ n ∧ OwF w wr vr (woL p (fs.take k)) ∧ Blk wr ob 25 #[vr] ∧ (∀ b, vr.ownBlock = some b → X0.heap.size ≤ b) ∧ Gr ob X0 wr) (fun i _ => n - (intOf i).toNat)
  case atStart => exact ⟨0, _, rfl, Nat.zero_le _, (OwF.start w).keep HKX.out, OB.out, fun b hb => by simp [Value.ownBlock] at hb, Gr.refl _ _⟩
  case round =>
    obtain ⟨k, vr, rfl, hk, hown, hrow, hnew, hgr⟩ := hrel
    rename World => wx
    obtain ⟨gs, hgs⟩ : ∃ gs, gs = woL p (fs.take k) := ⟨_, rfl⟩
    rw [← hgs] at hown
    have HLEN : Hid (gs.length ≤ 1000) := Lib.hid (by
      have h : gs.length ≤ (fs.take k).length := by rw [hgs]; exact List.length_filter_le _ _
      have h3 : (fs.take k).length ≤ 1000 := by rw [List.length_take]; have := HN.out; have := HNK.out; omega
      omega)
    have HINS := Lib.hid hgs
    have HOWN := Lib.hid hown; have HROW := Lib.hid hrow; have HNEW := Lib.hid hnew; have HGR := Lib.hid hgr
    obtain ⟨⟨oa, ol, oc, hvr⟩, -⟩ := row_form hown.owns
    subst hvr
    clear hown hrow hnew hgr hgs
    obtain ⟨bx, br, hkx, hrx⟩ := FACT.out wx HGR.out
    by_cases hkn : k < n
    · obtain ⟨x, hx⟩ : ∃ x, fs[k]? = some x := ⟨_, List.getElem?_eq_getElem (by have := HN.out; omega)⟩
      obtain ⟨b, off, rfl, hc⟩ := hrx.cell (by omega)
      obtain ⟨c0, c1⟩ := hc k x hx
      have HXL : Hid ((Lt x.1 ∧ Lt x.2) ∧ (x.1.length ≤ maxLen ∧ x.2.length ≤ maxLen)) := Lib.hid ⟨hrx.lt x (List.mem_of_getElem? hx), hrx.sm x (List.mem_of_getElem? hx)⟩
      have hq := st_inj' HXL.out.1.1 HPL.out
      obtain ⟨eq, heq⟩ : ∃ e, e = decide (x.1 = p) := ⟨_, rfl⟩
      have HSTEP : Hid (woL p (fs.take (k + 1)) = gs ++ (if eq = true then [] else [x])) := Lib.hid (by rw [woL_snoc hx, ← HINS.out, heq])
      rw [← heq] at hq
      rw [← EP.out] at hq
      obtain ⟨T1, hT1⟩ : ∃ S, S = st x.1 := ⟨_, rfl⟩
      obtain ⟨T2, hT2⟩ : ∃ S, S = st x.2 := ⟨_, rfl⟩
      rw [← hT1] at c0 hq
      rw [← hT2] at c1
      have ET1 := Lib.hid hT1; have ET2 := Lib.hid hT2
      have o0 := HROW.out.cell 0 rfl; have of0 := HROW.out.free 0
      obtain ⟨WA, hWA⟩ : ∃ W, W = wx.alloc (.cells #[.string T1, .string T2] 53) := ⟨_, rfl⟩
      have HKA : Hid (Kp wx WA) := Lib.hid (by rw [hWA]; exact kp_alloc wx _)
      have XA : Hid (Blk WA wx.heap.size 53 #[.string T1, .string T2]) := Lib.hid (by rw [hWA]; exact Blk.new _ _ _)
      have HWA := Lib.hid hWA
      clear hc hx heq hT1 hT2 bx br hkx hrx hWA
      have HOA := Lib.hid (HOWN.out.keep HKA.out); have HRA := Lib.hid (HROW.out.keep HKA.out); have HNA := HNEW
      have HGA : Hid (Gr ob X0 WA) := Lib.hid (Gr.trans HGR.out (HKA.out.gr ob))
      have HXA := XA
      have HOBL : Hid (ob < X0.heap.size) := Lib.hid OB.out.lt
      have HXN : Hid (∀ b, (Value.slice oa ol oc).ownBlock = some b → b ≠ wx.heap.size) := Lib.hid (fun b hb e => by have := ((row_form HOWN.out.owns).2 b hb).2; omega)
      clear o0 of0 hk
      cases eq
      · have HST : Hid (woL p (fs.take (k + 1)) = gs ++ [x]) := Lib.hid (by rw [HSTEP.out]; simp)
        have HXNE : Hid (some wx.heap.size ≠ (Value.slice oa ol oc).ownBlock) := Lib.hid (fun e => HXN.out _ e.symm rfl)
        have o0 := HRA.out.cell 0 rfl; have of0 := HRA.out.free 0
        have x0 := HXA.out.cell 0 rfl; have x1 := HXA.out.cell 1 rfl
        have k4 := kp_alloc WA (.cells #[.string T1, .string T2] 53)
        have HBC : Hid (Blk (WA.alloc (.cells #[.string T1, .string T2] 53)) WA.heap.size 53 #[.string (st x.1), .string (st x.2)]) := Lib.hid (by rw [← ET1.out, ← ET2.out]; exact Blk.new _ _ _)
        have HOC := Lib.hid (HOA.out.keep k4); have HRC := Lib.hid (HRA.out.keep k4)
        have HXC := Lib.hid (HXA.out.keep k4)
        have HGL : Hid (wx.heap.size + 1 ≤ wx.heap.size + 1) := Lib.hid (by omega)
        have HGC : Hid (Gr ob X0 (WA.alloc (.cells #[.string T1, .string T2] 53))) := Lib.hid (Gr.trans HGA.out (k4.gr ob))
        have hsz : WA.heap.size = wx.heap.size + 1 := by rw [HWA.out]; simp
        rw [hsz] at HBC
        rw [HWA.out] at o0 of0 x0 x1 HBC HOC HRC HXC HGC
        clear k4 hsz
        go_wp2_with (at_builtin; refine wpList_fl (w := w) rfl (.tmp 20) (.tmp 22) rfl _ rfl HOC.out (by have := HLEN.out; omega) x HXL.out (wx.heap.size + 1) rfl HBC.out ?_)
        intro v7 w7 hown7 hg7 hb7
        obtain ⟨⟨oa7, ol7, oc7, hv7⟩, -⟩ := row_form hown7.owns
        subst hv7
        have HN7 : Hid (∀ b, (Value.slice oa7 ol7 oc7).ownBlock = some b → X0.heap.size ≤ b) := Lib.hid (by
          intro b hb
          rcases hb7 with h | h
          · exact HNA.out b (h ▸ hb)
          · rw [h] at hb
            have h1 := Option.some.inj hb
            have h2 := HGC.out.size
            simp at h1 h2
            omega)
        have HXLa : Hid (wx.heap.size + 1 ≤ w7.heap.size) := Lib.hid (by have h2 := HGL.out; have h3 := hg7.size; (try simp at h3); omega)
        have HXN7 : Hid (some wx.heap.size ≠ (Value.slice oa7 ol7 oc7).ownBlock) := Lib.hid (by
          intro e
          rcases hb7 with h | h
          · exact HXNE.out (by rw [← h]; exact e)
          · rw [h] at e
            have h1 := Option.some.inj e
            have h2 := HGL.out
            (try simp at h1)
            omega)
        have HG7 : Hid (Gr ob X0 w7) := Lib.hid (Gr.by HGC.out hg7 (fun r hr => HNA.out r hr))
        have rb7 := HRC.out.by hg7 (fun e => by have := HNA.out ob e.symm; have := HOBL.out; omega)
        have HXB : Hid (wx.heap.size ≠ ob) := Lib.hid (by have := HGR.out.size; have := HOBL.out; omega)
        have xb7 := HXC.out.by hg7 (fun e => absurd e HXNE.out)
        obtain ⟨w8, hn8⟩ : ∃ w8, w8 = w7.setCell ⟨ob, 0, none⟩ (.slice oa7 ol7 oc7) := ⟨_, rfl⟩
        have o8 : Only ob w7 w8 := by rw [hn8]; exact (Only.refl ob w7).set 0 _
        have hr8 : Blk w8 ob 25 #[.slice oa7 ol7 oc7] := by rw [hn8]; exact rb7.set 0 _
        have HO8 := Lib.hid (hown7.only o8 (by have := EO.out; omega) (fun b hb e => by have := HN7.out b hb; have := HOBL.out; omega))
        have HG8 : Hid (Gr ob X0 w8) := Lib.hid (Gr.trans HG7.out (Only.gr o8))
        have HX8 := Lib.hid (xb7.other o8 HXB.out)
        have HR8 := Lib.hid hr8
        have HEQw8 := Lib.hid hn8
        clear HOA HRA HNA HGA HXA HBC HOC HRC HXC HGC HXNE HGL o0 of0 x0 x1
        have HXNE := HXN7
        have HOA := HO8; have HRA := HR8; have HNA := HN7; have HGA := HG8; have HXA := HX8
        have p0 := rb7.cell 0 rfl; have pf0 := rb7.free 0
        clear hown7 hg7 hb7 rb7 xb7 o8 hr8 hn8 HO8 HG8 HX8 HR8 HN7 HG7 HXB
        go_wp2_with fail
        rw [← HEQw8.out]
        go_roundw
        case rel => exact ⟨k + 1, _, by go_num, by omega, by rw [HST.out]; exact HOA.out, HRA.out, HNA.out, HGA.out⟩
        case measure => simp [intOf]; omega
      · have HST : Hid (woL p (fs.take (k + 1)) = gs) := Lib.hid (by rw [HSTEP.out]; simp)
        have HXNE : Hid (some wx.heap.size ≠ (Value.slice oa ol oc).ownBlock) := Lib.hid (fun e => HXN.out _ e.symm rfl)
        have o0 := HRA.out.cell 0 rfl; have of0 := HRA.out.free 0
        have x0 := HXA.out.cell 0 rfl; have x1 := HXA.out.cell 1 rfl
        rw [HWA.out] at o0 of0 x0 x1
        go_wp2_with fail
        rw [← HWA.out]
        go_roundw
        case rel => exact ⟨k + 1, _, by go_num, by omega, by rw [HST.out]; exact HOA.out, HRA.out, HNA.out, HGA.out⟩
        case measure => simp [intOf]; omega
    · obtain rfl : k = n := by omega
      have HALL : Hid (woL p fs = gs) := Lib.hid (by rw [HINS.out, List.take_of_length_le (by have := HN.out; omega)])
      have o0 := HROW.out.cell 0 rfl; have of0 := HROW.out.free 0
      have r0 := br.cell 0 rfl; have rf0 := br.free 0
      clear bx hkx hrx br
      go_wp2_with fail
      exact FIN.out _ _ wx _ rfl rfl HGR.out rfl (by rw [HALL.out]; exact HOWN.out) HNEW.out
end By
end Go.Proofs.YtfobogcccbddbaaGreatDoor

/- The reference's lists of files against places among sorted files. Plain mathematics. No condition. -/
namespace Go.Proofs.YtfobogcccbddbaaGreatDoor
namespace RevN
open WireN LexN
set_option linter.unusedVariables false
set_option linter.unusedSimpArgs false
theorem woL_id {p : List Nat} {fs : List Fl} (h : ∀ f ∈ fs, f.1 ≠ p) : woL p fs = fs := by
  unfold woL
  exact List.filter_eq_self.2 (fun f hf => by simp [h f hf])
theorem woL_mid {p : List Nat} {A B : List Fl} {f : Fl} (he : f.1 = p) (ha : ∀ a ∈ A, lss a.1 p = true) (hb : ∀ b ∈ B, lss p b.1 = true) : woL p (A ++ f :: B) = A ++ B := by
  have h1 := woL_id (p := p) (fs := A) (fun a h => lss_ne (ha a h))
  have h2 := woL_id (p := p) (fs := B) (fun b h e => lss_ne (hb b h) e.symm)
  unfold woL at h1 h2 ⊢
  rw [List.filter_append, List.filter_cons, h1, h2]
  simp [he]
def wi2 (x : Fl) : List Fl → List Fl
  | [] => [x]
  | f :: fs => if lss x.1 f.1 = true then x :: f :: fs else f :: wi2 x fs
theorem wiP_true (x : Fl) : ∀ (fs out : List Fl), fs.foldl (wiS x) (true, out) = (true, out ++ fs)
  | [], out => by simp
  | f :: fs, out => by
    rw [List.foldl_cons]
    have h : wiS x (true, out) f = (true, out ++ [f]) := by simp [wiS]
    rw [h, wiP_true x fs]
    simp
theorem wiP_false (x : Fl) : ∀ (fs out : List Fl), (if (fs.foldl (wiS x) (false, out)).1 = true then (fs.foldl (wiS x) (false, out)).2 else (fs.foldl (wiS x) (false, out)).2 ++ [x]) = out ++ wi2 x fs
  | [], out => by simp [wi2]
  | f :: fs, out => by
    rw [List.foldl_cons]
    cases hl : lss x.1 f.1 with
    | true =>
      have h : wiS x (false, out) f = (true, out ++ [x] ++ [f]) := by simp [wiS, hl]
      rw [h, wiP_true]
      unfold wi2
      rw [if_pos hl]
      simp
    | false =>
      have h : wiS x (false, out) f = (false, out ++ [f]) := by simp [wiS, hl]
      rw [h, wiP_false x fs]
      unfold wi2
      rw [if_neg (by rw [hl]; simp)]
      cases fs <;> simp [wi2]
theorem wi2_mid (x : Fl) : ∀ (A B : List Fl), (∀ a ∈ A, lss a.1 x.1 = true) → (∀ b ∈ B, lss x.1 b.1 = true) → wi2 x (A ++ B) = A ++ x :: B
  | [], [], _, _ => rfl
  | [], b :: B, _, hb => by
    have := hb b (List.mem_cons_self ..)
    simp [wi2, this]
  | a :: A, B, ha, hb => by
    have h1 := lss_asymm (ha a (List.mem_cons_self ..))
    have h2 := wi2_mid x A B (fun y hy => ha y (List.mem_cons_of_mem _ hy)) hb
    simp [wi2, h1, h2]
theorem wiL_mid {x : Fl} {A B : List Fl} (ha : ∀ a ∈ A, lss a.1 x.1 = true) (hb : ∀ b ∈ B, lss x.1 b.1 = true) : wiL (A ++ B) x = A ++ x :: B := by
  have h := wiP_false x (A ++ B) []
  rw [List.nil_append, wi2_mid x A B ha hb] at h
  exact h
theorem put_mid {A B : List Fl} {f : Fl} (b : List Nat) (ha : ∀ a ∈ A, lss a.1 f.1 = true) : putL (A ++ f :: B) (f.1, b) = A ++ (f.1, b) :: B := by
  unfold putL
  rw [has_mid ha, pos_split A (f :: B) f.1 ha (fun x hx => by simp at hx; subst hx; exact lss_self _)]
  simp
theorem rput_eq {fs : List Fl} (h : chk fs = 0) (p b : List Nat) : wiL (woL p fs) (p, b) = putL fs (p, b) := by
  obtain ⟨A, C, rfl, ha, hc⟩ := cut_at (chk_ok h).2 p
  rcases hc with ⟨f, B, rfl, rfl, hb⟩ | hc
  · rw [woL_mid rfl ha hb, put_mid b ha]
    exact wiL_mid (x := (f.1, b)) ha hb
  · rw [woL_id (fun x hx => by
      rcases List.mem_append.1 hx with hx | hx
      · exact lss_ne (ha x hx)
      · exact fun e => lss_ne (hc x hx) e.symm), put_not ha (fun x hx => hc x (List.mem_of_mem_head? hx))]
    exact wiL_mid (x := (p, b)) ha hc
theorem rrem_eq {fs : List Fl} (h : chk fs = 0) {p : List Nat} (hp : hasP fs p = true) : woL p fs = remL fs p := by
  obtain ⟨A, C, rfl, ha, hc⟩ := cut_at (chk_ok h).2 p
  rcases hc with ⟨f, B, rfl, rfl, hb⟩ | hc
  · rw [woL_mid rfl ha hb, rem_mid ha]
  · rw [has_not ha (fun x hx => hc x (List.mem_of_mem_head? hx))] at hp
    cases hp
theorem rmov_eq {fs : List Fl} (h : chk fs = 0) {p q : List Nat} (hq : pathB q = true) (h1 : hasP fs p = true) (h2 : hasP fs q = false) : movF fs p q = (0, wiL (woL p fs) (q, bytesAt fs p)) := by
  have hok := chk_ok h
  have hw := rrem_eq h h1
  have h2' : ∀ f ∈ fs, f.1 ≠ q := fun f hf e => by
    rw [(has_iff h q).2 ⟨f, hf, e⟩] at h2
    cases h2
  have hm : movF fs p q = putF (remL fs p) q (bytesAt fs p) := by
    unfold movF
    rw [if_neg (by rw [h]; simp), if_neg (by rw [hq]; simp), if_neg (by rw [h1]; simp), if_neg (by rw [h2]; simp)]
  rw [hm, hw]
  obtain ⟨A, C, rfl, ha, hc⟩ := cut_at hok.2 p
  rcases hc with ⟨f, B, rfl, rfl, hb⟩ | hc
  · obtain ⟨-, -, h3, h4, h5, h6⟩ := chkL_split hok.2
    rw [rem_mid ha, bytes_mid ha]
    have hl := hok.1
    have hc2 : chk (A ++ B) = 0 := by
      unfold chk
      rw [if_neg (by simp at hl ⊢; omega)]
      exact h3
    have hno : ∀ x ∈ A ++ B, x.1 ≠ q := fun x hx => h2' x (by rcases List.mem_append.1 hx with hx | hx <;> simp [hx])
    have he := rput_eq hc2 q f.2
    rw [woL_id hno] at he
    have hpl : (putL (A ++ B) (q, f.2)).length ≤ 64 := by
      rw [← he]
      obtain ⟨A', C', e, ha', hc'⟩ := cut_at h3 q
      rw [e]
      rcases hc' with ⟨g, B', rfl, rfl, hb'⟩ | hc'
      · exact absurd rfl (hno g (by rw [e]; simp))
      · rw [wiL_mid (x := (q, f.2)) ha' hc']
        have hl2 := congrArg List.length e
        simp at hl hl2 ⊢
        omega
    unfold putF
    rw [if_neg (by rw [hc2]; simp), if_neg (by rw [hq]; simp), if_neg (by omega), he]
  · rw [has_not ha (fun x hx => hc x (List.mem_of_mem_head? hx))] at h1
    cases h1
end RevN
end Go.Proofs.YtfobogcccbddbaaGreatDoor

/- The reference's Find, IsSource, Put, Remove and Move. Condition: the slices read as the files that are named. -/
namespace Go.Proofs.YtfobogcccbddbaaGreatDoor
namespace By
open Go.RowKit WireN LexN RevN
set_option linter.unusedVariables false
set_option linter.unusedSimpArgs false

theorem find_snd {fs : List Fl} (h : chk fs = 0) (p : List Nat) : (findF fs p).2 = hasP fs p := by
  unfold findF
  rw [if_neg (by rw [h]; simp)]
  cases hasP fs p <;> simp
theorem find_fst {fs : List Fl} (h : chk fs = 0) {p : List Nat} (hp : hasP fs p = true) : (findF fs p).1 = bytesAt fs p := by
  unfold findF
  rw [if_neg (by rw [h]; simp), if_neg (by rw [hp]; simp)]
set_option maxRecDepth 100000 in
set_option maxHeartbeats 4000000 in
theorem rFind_any {u : Value} {fs : List Fl} {p : List Nat} {w : World} (hr : Rw w u fs) (hp : Lt p) :
    Calls Tryz.prog 34 #[.agg #[u], .string (st p)] w fun e w' => e = .returned (.tuple #[.string (st (findF fs p).1), .bool (findF fs p).2]) ∧ Kp w w' := by
  obtain ⟨ao, cap, rfl, hcap, hmx, hno⟩ := hr.open3
  obtain ⟨n, hn⟩ : ∃ n, n = fs.length := ⟨_, rfl⟩
  rw [← hn] at hr hcap ⊢
  obtain ⟨W0, hW0⟩ : ∃ W, W = w.alloc (.cells #[.slice ao n cap] 25) := ⟨_, rfl⟩
  obtain ⟨xb, hxb⟩ : ∃ xb, xb = w.heap.size := ⟨_, rfl⟩
  have HK0 : Hid (Kp w W0) := Lib.hid (by rw [hW0]; exact kp_alloc w _)
  have XB0 : Hid (Blk W0 xb 25 #[.slice ao n cap]) := Lib.hid (by rw [hW0, hxb]; exact Blk.new w _ _)
  have HR0 := Lib.hid (hr.keep HK0.out)
  have HC := Lib.hid (rCheck_any HR0.out)
  have HW0 := Lib.hid hW0; have HXB := Lib.hid hxb
  have HN := Lib.hid hn; have HP := Lib.hid hp
  have hcp : (n : Int) ≤ (cap : Int) := by omega
  have x0 := XB0.out.cell 0 rfl
  rw [hW0] at x0
  obtain ⟨R, hR⟩ : ∃ R, R = findF fs p := ⟨_, rfl⟩
  rw [← hR]
  have HRR := Lib.hid hR
  obtain ⟨er, her⟩ : ∃ er, er = chk fs := ⟨_, rfl⟩
  rw [← her] at HC
  have HER := Lib.hid her
  obtain ⟨P, hP⟩ : ∃ P, P = st p := ⟨_, rfl⟩
  rw [← hP]
  have HPP := Lib.hid hP
  clear hr hp hn hcap hmx hno hxb hW0 her hR hP
  go_enter Tryz.func34, Tryz.ntmps34
  go_wp2_with fail
  rw [← HW0.out, ← HXB.out]
  clear x0
  refine HC.out.mono ?_
  rintro e w1 ⟨rfl, hk1⟩
  have HK1 := Lib.hid hk1
  have x0 := (XB0.out.keep hk1).cell 0 rfl
  clear hk1
  by_cases he : er = 0
  · subst he
    have HOK : Hid (chk fs = 0) := Lib.hid HER.out.symm
    have hn64 : n ≤ 64 := by rw [HN.out]; exact (chk_ok HOK.out).1
    have hni : (n : Int) ≤ 64 := by omega
    clear hn64
    go_wp2_with fail
    go_loopw [14] (fun i wr => ∃ k : Nat, i = .int .i64 k ∧ k ≤ n ∧ (∀ (j : Nat) (f : Fl), j < k → fs[j]? = some f → f.1 ≠ p) ∧ Kp W0 wr) (fun i _ => n - (intOf i).toNat)
    case atStart => exact ⟨0, rfl, Nat.zero_le _, fun j f hj => by omega, HK1.out⟩
    case round =>
      obtain ⟨k, rfl, hk, hno, hkp⟩ := hrel
      rename World => wx
      have HNO := Lib.hid hno; have HKP := Lib.hid hkp
      clear hno hkp
      by_cases hkn : k < n
      · obtain ⟨f, hf⟩ : ∃ f, fs[k]? = some f := ⟨_, List.getElem?_eq_getElem (by have := HN.out; omega)⟩
        obtain ⟨b, off, hao, hc⟩ := (HR0.out.keep HKP.out).cell (by omega)
        obtain ⟨c0, c1⟩ := hc k f hf
        subst hao
        have hq := st_inj' (HR0.out.lt f (List.mem_of_getElem? hf)).1 HP.out
        rw [← HPP.out] at hq
        obtain ⟨eq, heq⟩ : ∃ e, e = decide (f.1 = p) := ⟨_, rfl⟩
        rw [← heq] at hq
        obtain ⟨T1, hT1⟩ : ∃ S, S = st f.1 := ⟨_, rfl⟩
        obtain ⟨T2, hT2⟩ : ∃ S, S = st f.2 := ⟨_, rfl⟩
        rw [← hT1] at c0 hq
        rw [← hT2] at c1
        have hki : (k : Int) < (n : Int) := by omega
        have HF := Lib.hid hf; have HEQ := Lib.hid heq; have HT2 := Lib.hid hT2
        obtain ⟨WA, hWA⟩ : ∃ W, W = wx.alloc (.cells #[.string T1, .string T2] 53) := ⟨_, rfl⟩
        have HKA : Hid (Kp W0 WA) := Lib.hid (by rw [hWA]; exact Kp.trans HKP.out (kp_alloc wx _))
        have HWA := Lib.hid hWA
        have XA : Blk WA wx.heap.size 53 #[.string T1, .string T2] := by rw [hWA]; exact Blk.new _ _ _
        have a0 := XA.cell 0 rfl; have a1 := XA.cell 1 rfl
        rw [hWA] at a0 a1
        clear hf heq hT1 hT2 hc hWA XA
        cases eq with
        | true =>
          obtain rfl : R = (f.2, true) := by rw [HRR.out]; exact find_at HOK.out HF.out (of_decide_eq_true HEQ.out.symm)
          go_wp2_with fail
          rw [← HWA.out]
          go_ret2
          exact ⟨by rw [HT2.out]; rfl, Kp.trans HK0.out HKA.out⟩
        | false =>
          go_wp2_with fail
          rw [← HWA.out]
          go_roundw
          case rel =>
            refine ⟨k + 1, by go_num, by omega, fun j g hj hg => ?_, HKA.out⟩
            by_cases hjk : j = k
            · subst hjk
              rw [HF.out] at hg
              obtain rfl := Option.some.inj hg
              exact of_decide_eq_false HEQ.out.symm
            · exact HNO.out j g (by omega) hg
          case measure => simp [intOf]; omega
      · obtain rfl : R = ([], false) := by
          rw [HRR.out]
          exact find_not HOK.out (fun j g hg => HNO.out j g (by have := (List.getElem?_eq_some_iff.1 hg).1; have := HN.out; omega) hg)
        have hki : (n : Int) ≤ (k : Int) := by omega
        go_wp2_with fail
        go_ret2
        exact ⟨rfl, Kp.trans HK0.out HKP.out⟩
  · have hx1 : ((er : Int) == 0) = false := beq_eq_false_iff_ne.2 (by omega)
    have hx2 : ((er : Int) != 0) = true := by rw [bne_iff_ne]; omega
    obtain rfl : R = ([], false) := by rw [HRR.out]; unfold findF; rw [if_pos (by rw [← HER.out]; exact he)]
    clear he
    go_wp2_with fail
    go_ret2
    exact ⟨rfl, Kp.trans HK0.out HK1.out⟩
set_option maxRecDepth 100000 in
set_option maxHeartbeats 8000000 in
theorem rMove_any {u : Value} {fs : List Fl} {p q : List Nat} {w : World} (hr : Rw w u fs) (hp : Lt p) (hq : Lt q) :
    Calls Tryz.prog 21 #[.agg #[u], .string (st p), .string (st q)] w (RevR w (movF fs p q)) := by
  obtain ⟨ao, cap, rfl, hcap, hmx, hno⟩ := hr.open3
  obtain ⟨n, hn⟩ : ∃ n, n = fs.length := ⟨_, rfl⟩
  rw [← hn] at hr hcap ⊢
  obtain ⟨Q, hQ⟩ : ∃ Q, Q = RevR w (movF fs p q) := ⟨_, rfl⟩
  rw [← hQ]
  obtain ⟨xb, hxb⟩ : ∃ xb, xb = w.heap.size := ⟨_, rfl⟩
  obtain ⟨rb, hrb⟩ : ∃ rb, rb = w.heap.size + 1 := ⟨_, rfl⟩
  obtain ⟨Wa, hWa⟩ : ∃ W, W = w.alloc (.cells #[.slice ao n cap] 25) := ⟨_, rfl⟩
  obtain ⟨W0, hW0⟩ : ∃ W, W = Wa.alloc (.cells #[.slice none 0 0] 25) := ⟨_, rfl⟩
  have hz : Wa.heap.size = w.heap.size + 1 := by rw [hWa]; simp
  have k1 : Kp w Wa := by rw [hWa]; exact kp_alloc w _
  have k2 : Kp Wa W0 := by rw [hW0]; exact kp_alloc Wa _
  have HK0 : Hid (Kp w W0) := Lib.hid (Kp.trans k1 k2)
  have XB0 : Hid (Blk W0 xb 25 #[.slice ao n cap]) := Lib.hid (by
    have : Blk Wa w.heap.size 25 #[.slice ao n cap] := by rw [hWa]; exact Blk.new _ _ _
    rw [hxb]
    exact this.keep k2)
  have RB0 : Hid (Blk W0 rb 25 #[.slice none 0 0]) := Lib.hid (by rw [hW0, hrb, ← hz]; exact Blk.new _ _ _)
  have HW0 : Hid (W0 = (w.alloc (.cells #[.slice ao n cap] 25)).alloc (.cells #[.slice none 0 0] 25)) := Lib.hid (by rw [hW0, hWa])
  have HXB := Lib.hid hxb; have HRB := Lib.hid hrb
  have GR : Hid (w.heap.size ≤ rb) := Lib.hid (by omega)
  have HR0 := Lib.hid (hr.keep HK0.out)
  have HC := Lib.hid (rCheck_any HR0.out)
  have FIN : Hid (∀ (a : Act) (W X : World) (v : Value) (er : Nat) (gs : List Fl), a.defers = [] → a.tmps.getD 6 undef = .pointer (some ⟨rb, 0, none⟩) → a.tmps.getD 7 undef = .int .i64 (er : Nat) → Kp W0 X → W = X.setCell ⟨rb, 0, none⟩ v →
      movF fs p q = (er, gs) → (∀ W', Only rb X W' → Rw W' v gs) → (∀ b, v.ownBlock = some b → w.heap.size ≤ b) → bodyPost Tryz.prog Tryz.f21 Q .ret a W) := Lib.hid (by
    intro a W X v er gs h0 h2 h3 hk hW hd hv hnw
    have oW : Only rb X W := by rw [hW]; exact (Only.refl rb X).set 0 _
    have hbW : Blk W rb 25 #[v] := by rw [hW]; exact (RB0.out.keep hk).set 0 _
    have e0 := hbW.cell 0 rfl
    have h2' : a.tmps[6]?.getD undef = .pointer (some ⟨rb, 0, none⟩) := by simpa using h2
    have h3' : a.tmps[7]?.getD undef = .int .i64 (er : Nat) := by simpa using h3
    refine bodyPost_ret (v := .tuple #[.agg #[v], .int .i64 (er : Nat)]) (by simp [results, Tryz.results21, go_sem, h2', h3', e0]) h0 ?_
    rw [hQ]
    exact ⟨v, by rw [hd], by rw [hd]; exact hv W oW, hnw, Only.kp (Kp.trans HK0.out hk) oW GR.out⟩)
  have NIL : Hid (∀ (X W' : World), Only rb X W' → Rw W' (.slice none 0 0) []) := Lib.hid (fun _ W' _ => Rw.nil W')
  have HN := Lib.hid hn
  have hcp : (n : Int) ≤ (cap : Int) := by omega
  have x0 := XB0.out.cell 0 rfl
  rw [hW0, hWa] at x0
  obtain ⟨er, her⟩ : ∃ er, er = chk fs := ⟨_, rfl⟩
  rw [← her] at HC
  have HER := Lib.hid her
  have HP := Lib.hid hp; have HQL := Lib.hid hq
  clear hr hn hcap hmx hno hQ hxb hrb hWa hW0 hz k1 k2 her hp hq
  go_enter Tryz.func21, Tryz.ntmps21
  go_wp2_with fail
  rw [← HW0.out, ← HRB.out, ← HXB.out]
  clear x0
  refine HC.out.mono ?_
  rintro e w1 ⟨rfl, hk1⟩
  have HK1 := Lib.hid hk1
  have xb1 := XB0.out.keep hk1
  have x0 := xb1.cell 0 rfl
  have rb1 := RB0.out.keep hk1
  have r0 := rb1.cell 0 rfl; have f0 := rb1.free 0
  clear hk1 xb1 rb1
  by_cases he : er = 0
  · subst he
    have HOK : Hid (chk fs = 0) := Lib.hid HER.out.symm
    have HL64 : Hid (fs.length ≤ 64) := Lib.hid (chk_ok HOK.out).1
    have HPC := Lib.hid (rPathA HQL.out w1)
    have HD0 : Hid (movF fs p q = if pathB q = false then (6, []) else if hasP fs p = false then (18, []) else if hasP fs q = true then (19, []) else putF (remL fs p) q (bytesAt fs p)) := Lib.hid (by unfold movF; rw [if_neg (by rw [HOK.out]; simp)])
    obtain ⟨pbl, hpbl⟩ : ∃ x, x = pathB q := ⟨_, rfl⟩
    rw [← hpbl] at HPC HD0
    have HPB := Lib.hid hpbl
    obtain ⟨hs, hhs⟩ : ∃ h, h = hasP fs p := ⟨_, rfl⟩
    obtain ⟨hs2, hhs2⟩ : ∃ h, h = hasP fs q := ⟨_, rfl⟩
    rw [← hhs, ← hhs2] at HD0
    have HHS := Lib.hid hhs; have HHS2 := Lib.hid hhs2
    obtain ⟨FB, hFB⟩ : ∃ x, x = st (findF fs p).1 := ⟨_, rfl⟩
    obtain ⟨FB2, hFB2⟩ : ∃ x, x = st (findF fs q).1 := ⟨_, rfl⟩
    obtain ⟨P, hP⟩ : ∃ P, P = st p := ⟨_, rfl⟩
    obtain ⟨QS, hQS⟩ : ∃ P, P = st q := ⟨_, rfl⟩
    have CF : Hid (∀ W, Kp W0 W → Calls Tryz.prog 34 #[.agg #[.slice ao n cap], .string P] W fun e w' => e = .returned (.tuple #[.string FB, .bool hs]) ∧ Kp W w') := Lib.hid (fun W hk => by
      have h := rFind_any (HR0.out.keep hk) HP.out
      rw [find_snd HOK.out, ← hhs, ← hFB, ← hP] at h
      exact h)
    have CF2 : Hid (∀ W, Kp W0 W → Calls Tryz.prog 34 #[.agg #[.slice ao n cap], .string QS] W fun e w' => e = .returned (.tuple #[.string FB2, .bool hs2]) ∧ Kp W w') := Lib.hid (fun W hk => by
      have h := rFind_any (HR0.out.keep hk) HQL.out
      rw [find_snd HOK.out, ← hhs2, ← hFB2, ← hQS] at h
      exact h)
    have CWO : Hid (∀ W, Kp W0 W → Calls Tryz.prog 53 #[.agg #[.slice ao n cap], .string P] W fun e w' => ∃ v, e = .returned (.agg #[v]) ∧ Rw w' v (woL p fs) ∧ (∀ b, v.ownBlock = some b → W.heap.size ≤ b) ∧ Kp W w') := Lib.hid (fun W hk => by
      have h := without_any (HR0.out.keep hk) HP.out (by have := HL64.out; omega)
      rw [← hP] at h
      exact h)
    have CWI : Hid (pathB q = true → hasP fs p = true → ∀ (W : World) (v : Value), Rw W v (woL p fs) → Calls Tryz.prog 52 #[.agg #[v], .agg #[.string QS, .string FB]] W fun e w' => ∃ v, e = .returned (.agg #[v]) ∧ Rw w' v (wiL (woL p fs) (q, bytesAt fs p)) ∧ (∀ b, v.ownBlock = some b → W.heap.size ≤ b) ∧ Kp W w') := Lib.hid (fun hpp hh W v hv => by
      obtain ⟨f, hf, hfp⟩ := hasP_some hh
      have hby : bytesAt fs p = f.2 := by unfold bytesAt; rw [hf]; rfl
      have hmem := List.mem_of_getElem? hf
      have hlt := HR0.out.lt f hmem
      have hl2 := (chkL_mem (chk_ok HOK.out).2 f hmem).2
      have h := with_any (f := (q, bytesAt fs p)) hv ⟨⟨HQL.out, by rw [hby]; exact hlt.2⟩, by have := path_len hpp; show q.length ≤ maxLen; unfold maxLen; omega, by show (bytesAt fs p).length ≤ maxLen; rw [hby]; unfold maxLen; omega⟩ (by
        have h1 : (woL p fs).length ≤ fs.length := List.length_filter_le _ _
        have := HL64.out
        omega)
      rw [← hQS] at h
      rw [hFB, find_fst HOK.out hh]
      exact h)
    rw [← hP, ← hQS]
    rw [← hQS] at HPC
    clear hpbl hhs hhs2 hP hQS hFB hFB2
    go_wp2_with fail
    refine HPC.out.mono ?_
    rintro e w' ⟨rfl, rfl⟩
    cases pbl with
    | false =>
      have HD : Hid (movF fs p q = (6, [])) := Lib.hid (by rw [HD0.out]; simp)
      go_wp2_with fail
      exact FIN.out _ _ w1 _ 6 [] rfl rfl rfl HK1.out rfl HD.out (NIL.out w1) (fun b hb => by simp [Value.ownBlock] at hb)
    | true =>
      have HD1 : Hid (movF fs p q = if hs = false then (18, []) else if hs2 = true then (19, []) else putF (remL fs p) q (bytesAt fs p)) := Lib.hid (by rw [HD0.out]; simp)
      go_wp2_with fail
      refine (CF.out w1 HK1.out).mono ?_
      rintro e w2 ⟨rfl, hk2⟩
      have HK2 := Lib.hid (Kp.trans HK1.out hk2)
      have x0 := (XB0.out.keep HK2.out).cell 0 rfl
      have rb2 := RB0.out.keep HK2.out
      have r0 := rb2.cell 0 rfl; have f0 := rb2.free 0
      clear hk2 rb2
      cases hs with
      | false =>
        have HD : Hid (movF fs p q = (18, [])) := Lib.hid (by rw [HD1.out]; simp)
        go_wp2_with fail
        exact FIN.out _ _ w2 _ 18 [] rfl rfl rfl HK2.out rfl HD.out (NIL.out w2) (fun b hb => by simp [Value.ownBlock] at hb)
      | true =>
        go_wp2_with fail
        refine (CF2.out w2 HK2.out).mono ?_
        rintro e w3 ⟨rfl, hk3⟩
        have HK3 := Lib.hid (Kp.trans HK2.out hk3)
        have x0 := (XB0.out.keep HK3.out).cell 0 rfl
        have rb3 := RB0.out.keep HK3.out
        have r0 := rb3.cell 0 rfl; have f0 := rb3.free 0
        clear hk3 rb3
        cases hs2 with
        | true =>
          have HD : Hid (movF fs p q = (19, [])) := Lib.hid (by rw [HD1.out]; simp)
          go_wp2_with fail
          exact FIN.out _ _ w3 _ 19 [] rfl rfl rfl HK3.out rfl HD.out (NIL.out w3) (fun b hb => by simp [Value.ownBlock] at hb)
        | false =>
          have HD : Hid (movF fs p q = (0, wiL (woL p fs) (q, bytesAt fs p))) := Lib.hid (rmov_eq HOK.out HPB.out.symm HHS.out.symm HHS2.out.symm)
          go_wp2_with fail
          refine (CWO.out w3 HK3.out).mono ?_
          rintro e w5 ⟨v5, rfl, hr5, hn5, hk5⟩
          have HK5 := Lib.hid (Kp.trans HK3.out hk5); have HR5 := Lib.hid hr5
          obtain ⟨a5, l5, c5, hv5⟩ := hr5.form
          subst hv5
          clear hr5 hn5 hk5 x0 r0 f0
          go_wp2_with fail
          refine (CWI.out HPB.out.symm HHS.out.symm w5 _ HR5.out).mono ?_
          rintro e w4 ⟨v4, rfl, hr4, hn4, hk4⟩
          have HK4 := Lib.hid (Kp.trans HK5.out hk4)
          obtain ⟨a4, l4, c4, hv4⟩ := hr4.form
          subst hv4
          have HR4 := Lib.hid hr4
          have HNW : Hid (∀ b, (Value.slice a4 l4 c4).ownBlock = some b → rb < b ∧ w.heap.size ≤ b) := Lib.hid (fun b hb => by have h1 := hn4 b hb; have h2 := (RB0.out.keep HK5.out).lt; have h3 := HK0.out.size; have h4 := HK5.out.size; omega)
          have rb4 := RB0.out.keep HK4.out
          have r0 := rb4.cell 0 rfl; have f0 := rb4.free 0
          clear hr4 hn4 hk4 rb4
          go_wp2_with fail
          exact FIN.out _ _ w4 _ 0 _ rfl rfl rfl HK4.out rfl HD.out (fun W' ho => HR4.out.only ho (fun b hb e => by have := (HNW.out b hb).1; omega)) (fun b hb => (HNW.out b hb).2)
  · have hx1 : ((er : Int) == 0) = false := beq_eq_false_iff_ne.2 (by omega)
    have hx2 : ((er : Int) != 0) = true := by rw [bne_iff_ne]; omega
    have HD : Hid (movF fs p q = (er, [])) := Lib.hid (by unfold movF; rw [if_pos (by rw [← HER.out]; exact he), ← HER.out])
    clear he
    go_wp2_with fail
    exact FIN.out _ _ w1 _ er [] rfl rfl rfl HK1.out rfl HD.out (NIL.out w1) (fun b hb => by simp [Value.ownBlock] at hb)
end By
end Go.Proofs.YtfobogcccbddbaaGreatDoor
