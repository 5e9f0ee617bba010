/- The bytes of a data file, drawn from the tape. Condition: the tape has five draws left. -/
import Derived.Test.YtfobogcccbddbaaGreatDoorMkS
import Derived.Test.YtfobogcccbddbaaGreatDoorMkI
import Derived.Test.YtfobogcccbddbaaGreatDoorRvX
namespace Go.Proofs.YtfobogcccbddbaaGreatDoor
namespace By
open Go.RowKit WireN LexN
set_option linter.unusedVariables false
set_option linter.unusedSimpArgs false

set_option maxRecDepth 100000 in
set_option maxHeartbeats 1000000 in
theorem data_q {w0 w : World} {g n : Nat} (ht : Tq w0 w g (n + 5)) : Calls Tryz.prog 51 #[.pointer (some ⟨g, 0, none⟩)] w (StrR w0 g n 3 w) := by
  have HC := Lib.hid (Next_q (n := n + 4) ht 4 (by omega) (by omega))
  clear ht
  go_enter Tryz.func51, Tryz.ntmps51
  go_wp2_with fail
  refine HC.out.mono ?_
  rintro e w1 ⟨⟨r, hr, rfl⟩, hq, hg⟩
  obtain ⟨a, h1, h2⟩ := hq
  have HT := Lib.hid (TText_any h2 r (by omega) ⟨#[97, 98, 0, 255, 48]⟩ (by decide) (by decide))
  have HG := Lib.hid hg; have H1 := Lib.hid h1; have HR := Lib.hid hr
  clear h2 hg h1
  go_wp2_with fail
  refine HT.out.mono ?_
  rintro e w2 ⟨⟨xs, hx, hl, rfl⟩, hq, hg⟩
  have HQ := Lib.hid hq; have HG2 := Lib.hid hg; have HX := Lib.hid hx
  clear hq hg hl hx
  go_wp2_with fail
  go_ret
  exact ⟨⟨_, rfl, by rw [st_size, HX.out]; have := HR.out; omega⟩, ⟨a + r, by have := H1.out; have := HR.out; omega, HQ.out⟩, Gr.trans HG.out HG2.out⟩
end By
end Go.Proofs.YtfobogcccbddbaaGreatDoor

/- A revision of some files, drawn from the tape. Condition: the tape has so many draws left. -/
namespace Go.Proofs.YtfobogcccbddbaaGreatDoor
namespace By
open Go.RowKit WireN LexN RevN
set_option linter.unusedVariables false
set_option linter.unusedSimpArgs false

theorem Rw.gr {w w' : World} {v : Value} {fs : List Fl} {g : Nat} (h : Rw w v fs) (hg : Gr g w w') (hne : ∀ b, v.ownBlock = some b → b ≠ g) : Rw w' v fs := by
  obtain ⟨⟨ao, cap, rfl, h1, h2, h3, h4⟩, h5, h6⟩ := h
  refine ⟨⟨ao, cap, rfl, h1, h2, ?_, h4⟩, h5, h6⟩
  rcases h3 with rfl | ⟨b, off, rfl, h3⟩
  · exact .inl rfl
  · exact .inr ⟨b, off, rfl, fun j f hf => ⟨cell_gr hg (h3 j f hf).1 (hne b rfl), cell_gr hg (h3 j f hf).2 (hne b rfl)⟩⟩
/-- The paths of the files, in their order. -/
def mkPaths : List (List Nat) := [[97, 46, 115, 114, 99], [98, 46, 115, 114, 99], [100, 47, 99, 46, 115, 114, 99], [120, 46, 115, 114, 99], [97, 46, 100, 97, 116], [100, 47, 98, 46, 100, 97, 116], [99]]
/-- Files that are put one after another, of the paths that are named. -/
def Put (k : Nat) (fs : List Fl) : Prop := ∃ ops : List Fl, ops.length ≤ k ∧ (∀ f ∈ ops, f.1 ∈ mkPaths ∧ Lt f.2 ∧ f.2.length ≤ 5200) ∧ fs = ops.foldl insL []
theorem Put.nil : Put 0 [] := ⟨[], Nat.le_refl _, fun f h => by simp at h, rfl⟩
theorem Put.less {k m : Nat} {fs : List Fl} (h : Put k fs) (hm : k ≤ m) : Put m fs := by
  obtain ⟨o, h1, h2⟩ := h
  exact ⟨o, by omega, h2⟩
theorem Put.one {k : Nat} {fs : List Fl} (h : Put k fs) {f : Fl} (h1 : f.1 ∈ mkPaths) (h2 : Lt f.2) (h3 : f.2.length ≤ 5200) : Put (k + 1) (insL fs f) := by
  obtain ⟨o, h4, h5, rfl⟩ := h
  refine ⟨o ++ [f], by simp; omega, ?_, by rw [List.foldl_append]; rfl⟩
  intro x hx
  rcases List.mem_append.1 hx with hx | hx
  · exact h5 x hx
  · rw [List.mem_singleton] at hx; subst hx; exact ⟨h1, h2, h3⟩
theorem insL_len (fs : List Fl) (f : Fl) : (insL fs f).length ≤ fs.length + 1 := by
  have h := insP_len f fs
  unfold insL
  cases hd : (insP f fs).1 with
  | true => rw [hd] at h; simpa using h
  | false => rw [hd] at h; simp at h ⊢; omega
theorem Put.len {k : Nat} {fs : List Fl} (h : Put k fs) : fs.length ≤ k := by
  obtain ⟨o, h4, h5, rfl⟩ := h
  have hh : ∀ (l : List Fl) (s : List Fl), (l.foldl insL s).length ≤ s.length + l.length := by
    intro l
    induction l with
    | nil => intro s; simp
    | cons x l ih => intro s; have := ih (insL s x); have := insL_len s x; simp only [List.foldl_cons, List.length_cons]; omega
  have := hh o []
  simp at this
  omega

/-- What holds while the revision is made. -/
structure RvI (w0 w W : World) (g n k : Nat) (v : Value) (fs : List Fl) : Prop where
  rb : Blk W w.heap.size 25 #[.slice none 0 0]
  ob : Blk W (w.heap.size + 1) 25 #[v]
  rw : Rw W v fs
  fr : ∀ b, v.ownBlock = some b → w.heap.size + 2 ≤ b
  tq : Tq w0 W g n
  gr : Gr g w W
  put : Put k fs
  sz : w.heap.size + 2 ≤ W.heap.size
  gl : g < w.heap.size
  gb : w0.heap.size ≤ w.heap.size
theorem Blk.gr {w w' : World} {g b : Nat} {t : TypeId} {cs : Array Value} (h : Blk w b t cs) (hg : Gr g w w') (hne : b ≠ g) : Blk w' b t cs := (hg.block b h.lt (fun e => hne (by injection e))).trans h
theorem RvI.draw {w0 w W W' : World} {g n k m : Nat} {v : Value} {fs : List Fl} (h : RvI w0 w W g n k v fs) (hg : Gr g W W') (ht : Tq w0 W' g m) : RvI w0 w W' g m k v fs := by
  have := h.gl
  refine ⟨h.rb.gr hg (by omega), h.ob.gr hg (by omega), h.rw.gr hg (fun b hb => by have := h.fr b hb; omega), h.fr, ht, Gr.trans h.gr hg, h.put, ?_, h.gl, h.gb⟩
  have := hg.size; have := h.sz; omega
theorem RvI.less {w0 w W : World} {g n k m l : Nat} {v : Value} {fs : List Fl} (h : RvI w0 w W g n k v fs) (h1 : m ≤ n) (h2 : k ≤ l) : RvI w0 w W g m l v fs := ⟨h.rb, h.ob, h.rw, h.fr, h.tq.less h1, h.gr, h.put.less h2, h.sz, h.gl, h.gb⟩
theorem RvI.keep {w0 w W W' : World} {g n k : Nat} {v : Value} {fs : List Fl} (h : RvI w0 w W g n k v fs) (hk : Kp W W') : RvI w0 w W' g n k v fs := h.draw (hk.gr g) (h.tq.keep hk)
theorem RvI.ins {w0 w W W' : World} {g n k : Nat} {v v' : Value} {fs gs : List Fl} (h : RvI w0 w W g n k v fs) (hk : Kp W W') (hr : Rw W' v' gs) (hf : ∀ b, v'.ownBlock = some b → W.heap.size ≤ b) (hp : Put (k + 1) gs) : RvI w0 w (W'.setCell ⟨w.heap.size + 1, 0, none⟩ v') g n (k + 1) v' gs := by
  have h1 := h.gl; have h2 := h.sz; have h3 := h.gb
  have hb := h.keep hk
  have ho : Only (w.heap.size + 1) W' (W'.setCell ⟨w.heap.size + 1, 0, none⟩ v') := (Only.refl _ W').set 0 _
  refine ⟨hb.rb.other ho (by omega), hb.ob.set 0 _, hr.only ho (fun b hb => by have := hf b hb; omega), fun b hb => by have := hf b hb; omega, hb.tq.only ho (by omega) (by omega), Gr.by hb.gr (Only.gr ho) (fun r hr => by injection hr; omega), hp, ?_, h1, h3⟩
  have := hk.size; simp; omega
theorem RvI.start {w0 w : World} {g n : Nat} (h : Tq w0 w g n) : RvI w0 w ((w.alloc (.cells #[.slice none 0 0] 25)).alloc (.cells #[.slice none 0 0] 25)) g n 0 (.slice none 0 0) [] := by
  obtain ⟨Wa, hWa⟩ : ∃ W, W = w.alloc (.cells #[.slice none 0 0] 25) := ⟨_, rfl⟩
  have za : Wa.heap.size = w.heap.size + 1 := by rw [hWa]; simp
  have ka : Kp w Wa := by rw [hWa]; exact kp_alloc w _
  have kb : Kp Wa (Wa.alloc (.cells #[.slice none 0 0] 25)) := kp_alloc Wa _
  have h1 : Blk Wa w.heap.size 25 #[.slice none 0 0] := by rw [hWa]; exact Blk.new _ _ _
  have h2 : Blk (Wa.alloc (.cells #[.slice none 0 0] 25)) (w.heap.size + 1) 25 #[.slice none 0 0] := by rw [← za]; exact Blk.new _ _ _
  rw [← hWa]
  exact ⟨h1.keep kb, h2, Rw.nil _, fun b hb => by simp [Value.ownBlock] at hb, h.keep (Kp.trans ka kb), (Kp.trans ka kb).gr g, Put.nil, by simp; omega, h.lt, h.base.size⟩

theorem Blk.str {w : World} {b i : Nat} {t : TypeId} {ss : List ByteArray} (h : Blk w b t (ss.map Value.string).toArray) {s : ByteArray} (hs : ss[i]? = some s) : w.cell? ⟨b, i, none⟩ = some (.string s) := h.cell i (by simp [hs])
set_option maxRecDepth 100000 in
set_option maxHeartbeats 400000 in
theorem srcs_q (w : World) : Calls Tryz.prog 47 #[] w fun e w' => ∃ b, e = .returned (.slice (some ⟨b, 0, none⟩) 4 4) ∧ w.heap.size ≤ b ∧ Blk w' b 9 (([⟨#[97, 46, 115, 114, 99]⟩, ⟨#[98, 46, 115, 114, 99]⟩, ⟨#[100, 47, 99, 46, 115, 114, 99]⟩, ⟨#[120, 46, 115, 114, 99]⟩] : List ByteArray).map Value.string).toArray ∧ Kp w w' := by
  have HB : Hid (Blk (w.alloc (.cells #[.string ⟨#[97, 46, 115, 114, 99]⟩, .string ⟨#[98, 46, 115, 114, 99]⟩, .string ⟨#[100, 47, 99, 46, 115, 114, 99]⟩, .string ⟨#[120, 46, 115, 114, 99]⟩] 9)) w.heap.size 9 (([⟨#[97, 46, 115, 114, 99]⟩, ⟨#[98, 46, 115, 114, 99]⟩, ⟨#[100, 47, 99, 46, 115, 114, 99]⟩, ⟨#[120, 46, 115, 114, 99]⟩] : List ByteArray).map Value.string).toArray) := Lib.hid (Blk.new _ _ _)
  have HK := Lib.hid (kp_alloc w (.cells #[.string ⟨#[97, 46, 115, 114, 99]⟩, .string ⟨#[98, 46, 115, 114, 99]⟩, .string ⟨#[100, 47, 99, 46, 115, 114, 99]⟩, .string ⟨#[120, 46, 115, 114, 99]⟩] 9))
  go_enter Tryz.func47, Tryz.ntmps47
  go_wp2_with fail
  go_ret
  exact ⟨_, rfl, Nat.le_refl _, HB.out, HK.out⟩
theorem Rw.form {w : World} {v : Value} {fs : List Fl} (h : Rw w v fs) : ∃ a l c, v = .slice a l c := by
  obtain ⟨a, c, e, -⟩ := h.ex
  exact ⟨a, _, c, e⟩
theorem insert_st {u : Value} {fs : List Fl} {p s : ByteArray} {w : World} (hr : Rw w u fs) (hp : p.size ≤ 30) (hs : s.size ≤ 13500) (hn : fs.length ≤ 1000) :
    Calls Tryz.prog 48 #[.agg #[u], .agg #[.string p, .string s]] w fun e w' => ∃ v, e = .returned (.agg #[v]) ∧ Rw w' v (insL fs (bs p, bs s)) ∧ (∀ b, v.ownBlock = some b → w.heap.size ≤ b) ∧ Kp w w' := by
  have h := insert_any (f := (bs p, bs s)) hr ⟨⟨bs_lt p, bs_lt s⟩, by rw [bs_len]; unfold maxLen; omega, by rw [bs_len]; unfold maxLen; omega⟩ hn
  rw [st_bs, st_bs] at h
  exact h

set_option maxRecDepth 100000 in
set_option maxHeartbeats 16000000 in
theorem Revision_o {w0 w : World} {g n : Nat} (ht : Tq w0 w g (n + 5300)) : Calls Tryz.prog 20 #[.pointer (some ⟨g, 0, none⟩)] w fun e w' => (∃ v fs, e = .returned (.agg #[v]) ∧ Rw w' v fs ∧ Put 7 fs ∧ ∀ b, v.ownBlock = some b → w.heap.size ≤ b) ∧ Tq w0 w' g n ∧ Gr g w w' := by
  obtain ⟨Q, hQ⟩ : ∃ Q : Ending → World → Prop, Q = fun e w' => (∃ v fs, e = .returned (.agg #[v]) ∧ Rw w' v fs ∧ Put 7 fs ∧ ∀ b, v.ownBlock = some b → w.heap.size ≤ b) ∧ Tq w0 w' g n ∧ Gr g w w' := ⟨_, rfl⟩
  rw [← hQ]
  have HI0 := Lib.hid (RvI.start ht)
  have HGW := Lib.hid ht.lt
  obtain ⟨rb, hrb⟩ : ∃ b, b = w.heap.size := ⟨_, rfl⟩
  obtain ⟨ob, hob⟩ : ∃ b, b = w.heap.size + 1 := ⟨_, rfl⟩
  obtain ⟨X0, hX0⟩ : ∃ W, W = (w.alloc (.cells #[.slice none 0 0] 25)).alloc (.cells #[.slice none 0 0] 25) := ⟨_, rfl⟩
  rw [← hX0] at HI0
  have HX0 := Lib.hid hX0; have ER := Lib.hid hrb; have EO := Lib.hid hob
  have HSR := Lib.hid (srcs_q X0)
  have FIN : Hid (∀ (a : Act) (W X : World) (v : Value) (fs : List Fl), a.defers = [] → a.tmps.getD 2 undef = .pointer (some ⟨rb, 0, none⟩) → RvI w0 w X g n 7 v fs → W = X.setCell ⟨rb, 0, none⟩ v → bodyPost Tryz.prog Tryz.f20 Q .ret a W) := Lib.hid (by
    intro a W X v fs h0 h2 hi hW
    rw [ER.out] at h2 hW
    have oW : Only w.heap.size X W := by rw [hW]; exact (Only.refl _ X).set 0 _
    have hbW : Blk W w.heap.size 25 #[v] := by rw [hW]; exact hi.rb.set 0 _
    have e0 := hbW.cell 0 rfl
    have h2' : a.tmps[2]?.getD undef = .pointer (some ⟨w.heap.size, 0, none⟩) := by simpa using h2
    refine bodyPost_ret (v := .agg #[v]) (by simp [results, Tryz.results20, go_sem, h2', e0]) h0 ?_
    rw [hQ]
    have h3 := hi.gl; have h4 := hi.gb
    exact ⟨⟨v, fs, rfl, hi.rw.only oW (fun b hb e => by have := hi.fr b hb; omega), hi.put, fun b hb => by have := hi.fr b hb; omega⟩, hi.tq.only oW (by omega) (by omega), Gr.by hi.gr (Only.gr oW) (fun r hr => by injection hr; omega)⟩)
  clear ht hQ hrb hob hX0
  go_enter Tryz.func20, Tryz.ntmps20
  go_wp2_with fail
  rw [← HX0.out, ← EO.out, ← ER.out]
  refine HSR.out.mono ?_
  rintro e w1 ⟨b1, rfl, hb1, hp, hk⟩
  obtain ⟨ss1, hss1⟩ : ∃ l : List ByteArray, l = [⟨#[97, 46, 115, 114, 99]⟩, ⟨#[98, 46, 115, 114, 99]⟩, ⟨#[100, 47, 99, 46, 115, 114, 99]⟩, ⟨#[120, 46, 115, 114, 99]⟩] := ⟨_, rfl⟩
  rw [← hss1] at hp
  have HP := Lib.hid hp; have HI1 := Lib.hid (HI0.out.keep hk); have HSS := Lib.hid hss1
  have HNG : Hid (b1 ≠ g ∧ b1 ≠ ob) := Lib.hid (by have h1 := HGW.out; have h2 := EO.out; have h3 := HI0.out.sz; exact ⟨by omega, by omega⟩)
  have HPK : Hid (∀ W, Gr g w W → Calls Tryz.prog 50 #[] W fun e w' => ∃ v, e = .returned v ∧ Ps g w' v [⟨#[112]⟩, ⟨#[113]⟩, ⟨#[115]⟩] ∧ Kp W w') := Lib.hid (fun W hg => Packages_q g W (Nat.lt_of_lt_of_le HGW.out hg.size))
  clear hp hk hss1 hb1
  go_wp2_with fail
  go_loopw [5, 10] (fun p i wr => ∃ (k : Nat) (v : Value) (fs : List Fl), i = .int .i64 k ∧ k ≤ 4 ∧ RvI w0 w wr g (n + 20 + (4 - k) * 1310) k v fs ∧ Blk wr b1 9 (ss1.map Value.string).toArray) (fun _ i _ => 4 - (intOf i).toNat)
  case atStart => exact ⟨0, _, _, rfl, by omega, HI1.out.less (by omega) (Nat.le_refl _), HP.out⟩
  case round =>
    obtain ⟨k, v, fs, rfl, hk, hi, hps⟩ := hrel
    rename World => wr
    have HI := Lib.hid hi; have HPS := Lib.hid hps
    clear hi hps
    by_cases hk4 : k < 4
    · obtain ⟨p, hp⟩ : ∃ p, ss1[k]? = some p := ⟨_, List.getElem?_eq_getElem (by have := HSS.out; rw [this]; simpa using hk4)⟩
      have HPM : Hid (bs p ∈ mkPaths ∧ p.size ≤ 30) := Lib.hid (by
        have h : ∀ s ∈ ([⟨#[97, 46, 115, 114, 99]⟩, ⟨#[98, 46, 115, 114, 99]⟩, ⟨#[100, 47, 99, 46, 115, 114, 99]⟩, ⟨#[120, 46, 115, 114, 99]⟩] : List ByteArray), bs s ∈ mkPaths ∧ s.size ≤ 30 := by decide
        exact h p (by rw [← HSS.out]; exact List.mem_of_getElem? hp))
      have c0 := HPS.out.str hp
      obtain ⟨N, hN⟩ : ∃ N, N = n + 20 + (4 - (k + 1)) * 1310 := ⟨_, rfl⟩
      have HI2 : Hid (RvI w0 w wr g (N + 1310) k v fs) := Lib.hid (HI.out.less (by omega) (Nat.le_refl _))
      have HCH := Lib.hid (Chance_q (n := N + 1309) HI2.out.tq 3 4 (by omega) (by omega))
      have HN := Lib.hid hN
      clear hp hN HI
      go_wp2_with fail
      refine HCH.out.mono ?_
      rintro e wm ⟨⟨b, rfl⟩, hq, hg⟩
      have HIM := Lib.hid (HI2.out.draw hg hq)
      have HPM2 := Lib.hid (HPS.out.gr hg HNG.out.1)
      clear hq hg c0
      cases b with
      | false =>
        go_wp2_with fail
        go_roundw
        case rel => exact ⟨k + 1, v, fs, by go_num, by omega, HIM.out.less (by have := HN.out; omega) (by omega), HPM2.out⟩
        case measure => simp [intOf]; omega
      | true =>
        have o0 := HIM.out.ob.cell 0 rfl
        rw [← EO.out] at o0
        go_wp2_with fail
        go_region_with
          (first
            | (go_at_call 48; refine (insert_st (p := p) (fs := fs) (by first | exact hiC.rw | exact (hiC.keep (kp_drew _)).rw) HPM.out.2 (by omega) (by have := hiC.put.len; omega)).mono ?_; rintro e wD ⟨v', rfl, hrD, hfD, hkD⟩; obtain ⟨aD, lD, cD, hvD⟩ := hrD.form; subst hvD; have hkC : Kp wC wD := (by first | exact hkD | exact Kp.trans (kp_drew _) hkD); have oD := (hiC.keep hkC).ob.cell 0 rfl; have ofD := (hiC.keep hkC).ob.free 0; rw [← EO.out] at oD ofD)
            | (go_at_call 49; refine (Source_s (w0 := w0) (n := N + 2) (by first | exact hiB.tq | exact (hiB.keep (kp_drew _)).tq) (by omega)).mono ?_; rintro e wC ⟨⟨s2, rfl, hs2⟩, hqC, hgC⟩; have hgC2 : Gr g wB wC := (by first | exact hgC | exact Gr.trans ((kp_drew _).gr g) hgC); have hiC := hiB.draw hgC2 hqC; have oC := hiC.ob.cell 0 rfl; rw [← EO.out] at oC)
            | (go_at_call 37; refine (One_q (w0 := w0) (n := N + 1308) (ss := [⟨#[112]⟩, ⟨#[113]⟩, ⟨#[115]⟩]) (by first | exact hiA.tq | exact (hiA.keep (kp_drew _)).tq) (by first | exact hpA | exact hpA.gr ((kp_drew _).gr g))).mono ?_; rintro e wB ⟨⟨s, rfl, hs, -⟩, hqB, hgB⟩; have hgB2 : Gr g wA wB := (by first | exact hgB | exact Gr.trans ((kp_drew _).gr g) hgB); have hiB := hiA.draw hgB2 (hqB.less (m := N + 2 + 1300) (by omega)); have oB := hiB.ob.cell 0 rfl; rw [← EO.out] at oB)
            | (go_at_call 50; refine (HPK.out _ (by first | exact HIM.out.gr | exact (HIM.out.keep (kp_drew _)).gr | exact ((HIM.out.keep (kp_drew _)).keep (kp_drew _)).gr)).mono ?_; rintro e wA ⟨vA, rfl, hpA, hkA⟩; obtain ⟨aoA, capA, hvA, -, -⟩ := hpA.ex; subst hvA; have hiA : RvI w0 w wA g (N + 1308 + 1) k v fs := (by first | exact HIM.out.keep hkA | exact (HIM.out.keep (kp_drew _)).keep hkA | exact ((HIM.out.keep (kp_drew _)).keep (kp_drew _)).keep hkA); have oA := hiA.ob.cell 0 rfl; rw [← EO.out] at oA)
            | fail "no arm")
        all_goals
          have hgM : Gr g wm wA := (by first | exact hkA.gr g | exact (Kp.trans (kp_drew _) hkA).gr g | exact (Kp.trans (kp_drew _) (Kp.trans (kp_drew _) hkA)).gr g)
          have HPD : Hid (Blk (wD.setCell ⟨ob, 0, none⟩ (.slice aD lD cD)) b1 9 (ss1.map Value.string).toArray) := Lib.hid ((HPM2.out.gr (Gr.trans hgM (Gr.trans hgB2 (Gr.trans hgC2 (hkC.gr g)))) HNG.out.1).other ((Only.refl ob wD).set 0 _) HNG.out.2)
          have HID := Lib.hid (hiC.ins hkC hrD (fun b hb => by have h1 := hfD b hb; (try simp at h1); exact h1) (hiC.put.one (f := (bs p, bs s2)) HPM.out.1 (bs_lt s2) (by rw [bs_len]; exact hs2)))
          rw [← EO.out] at HID
          clear hpA hkA hiA oA hqB hgB hgB2 hiB oB hs hqC hgC hgC2 hiC oC hs2 hrD hfD hkD hkC oD ofD hgM
          go_wp2_with fail
          go_roundw
          case rel => exact ⟨k + 1, _, _, by go_num, by omega, HID.out.less (by have := HN.out; omega) (Nat.le_refl _), HPD.out⟩
          case measure => simp [intOf]; omega
    · obtain rfl : k = 4 := by omega
      go_wp2_with fail
      obtain ⟨ss2, hss2⟩ : ∃ l : List ByteArray, l = [⟨#[97, 46, 100, 97, 116]⟩, ⟨#[100, 47, 98, 46, 100, 97, 116]⟩, ⟨#[99]⟩] := ⟨_, rfl⟩
      have HSS2 := Lib.hid hss2
      obtain ⟨b2, hb2⟩ : ∃ b, b = wr.heap.size := ⟨_, rfl⟩
      obtain ⟨X2, hX2⟩ : ∃ W, W = wr.alloc (.cells #[.string ⟨#[97, 46, 100, 97, 116]⟩, .string ⟨#[100, 47, 98, 46, 100, 97, 116]⟩, .string ⟨#[99]⟩] 9) := ⟨_, rfl⟩
      have hk2 : Kp wr X2 := by rw [hX2]; exact kp_alloc wr _
      have HPB : Hid (Blk X2 b2 9 (ss2.map Value.string).toArray) := Lib.hid (by rw [hX2, hb2, hss2]; exact Blk.new _ _ _)
      have HIB : Hid (RvI w0 w X2 g (n + 18) 4 v fs) := Lib.hid ((HI.out.keep hk2).less (by omega) (Nat.le_refl _))
      have HNB : Hid (b2 ≠ g ∧ b2 ≠ ob) := Lib.hid (by have h1 := HGW.out; have h2 := EO.out; have h3 := HI.out.sz; exact ⟨by omega, by omega⟩)
      rw [← hX2, ← hb2, show ((4 : Nat) : Int) = 4 from rfl]
      clear hss2 hb2 hX2 hk2 HI HPS HP HI1 HSS HNG HPK HSR HI0 HX0
      go_loopw [7, 28] (fun p i wr => ∃ (k : Nat) (v : Value) (fs : List Fl), i = .int .i64 k ∧ k ≤ 3 ∧ RvI w0 w wr g (n + (3 - k) * 6) (4 + k) v fs ∧ Blk wr b2 9 (ss2.map Value.string).toArray) (fun _ i _ => 3 - (intOf i).toNat)
      case atStart => exact ⟨0, _, _, rfl, by omega, HIB.out, HPB.out⟩
      case round =>
        clear HIB HPB
        obtain ⟨k, v, fs, rfl, hk, hi, hps⟩ := hrel
        rename World => wr3
        have HI := Lib.hid hi; have HPS := Lib.hid hps
        clear hi hps
        by_cases hk3 : k < 3
        · obtain ⟨p, hp⟩ : ∃ p, ss2[k]? = some p := ⟨_, List.getElem?_eq_getElem (by have := HSS2.out; rw [this]; simpa using hk3)⟩
          have HPM : Hid (bs p ∈ mkPaths ∧ p.size ≤ 30) := Lib.hid (by
            have h : ∀ s ∈ ([⟨#[97, 46, 100, 97, 116]⟩, ⟨#[100, 47, 98, 46, 100, 97, 116]⟩, ⟨#[99]⟩] : List ByteArray), bs s ∈ mkPaths ∧ s.size ≤ 30 := by decide
            exact h p (by rw [← HSS2.out]; exact List.mem_of_getElem? hp))
          have c0 := HPS.out.str hp
          obtain ⟨N, hN⟩ : ∃ N, N = n + (3 - (k + 1)) * 6 := ⟨_, rfl⟩
          have HI2 : Hid (RvI w0 w wr3 g (N + 6) (4 + k) v fs) := Lib.hid (HI.out.less (by omega) (Nat.le_refl _))
          have HCH := Lib.hid (Chance_q (n := N + 5) HI2.out.tq 1 3 (by omega) (by omega))
          have HN := Lib.hid hN
          clear hp hN HI
          go_wp2_with fail
          refine HCH.out.mono ?_
          rintro e wm ⟨⟨b, rfl⟩, hq, hg⟩
          have HIM := Lib.hid (HI2.out.draw hg hq)
          have HPM2 := Lib.hid (HPS.out.gr hg HNB.out.1)
          clear hq hg c0
          cases b with
          | false =>
            go_wp2_with fail
            go_roundw
            case rel => exact ⟨k + 1, v, fs, by go_num, by omega, HIM.out.less (by have := HN.out; omega) (by omega), HPM2.out⟩
            case measure => simp [intOf]; omega
          | true =>
            have o0 := HIM.out.ob.cell 0 rfl
            rw [← EO.out] at o0
            go_wp2_with fail
            go_region_with
              (first
                | (go_at_call 48; refine (insert_st (p := p) (fs := fs) (by first | exact hiC.rw | exact (hiC.keep (kp_drew _)).rw) HPM.out.2 (Nat.le_trans hs2 (by omega)) (by have := hiC.put.len; omega)).mono ?_; rintro e wD ⟨v', rfl, hrD, hfD, hkD⟩; obtain ⟨aD, lD, cD, hvD⟩ := hrD.form; subst hvD; have hkC : Kp wC wD := (by first | exact hkD | exact Kp.trans (kp_drew _) hkD); have oD := (hiC.keep hkC).ob.cell 0 rfl; have ofD := (hiC.keep hkC).ob.free 0; rw [← EO.out] at oD ofD)
                | (go_at_call 51; refine (data_q (w0 := w0) (n := N) (by first | exact HIM.out.tq | exact (HIM.out.keep (kp_drew _)).tq | exact ((HIM.out.keep (kp_drew _)).keep (kp_drew _)).tq)).mono ?_; rintro e wC ⟨⟨s2, rfl, hs2⟩, hqC, hgC⟩; have hgC2 : Gr g wm wC := (by first | exact hgC | exact Gr.trans ((kp_drew _).gr g) hgC | exact Gr.trans ((kp_drew _).gr g) (Gr.trans ((kp_drew _).gr g) hgC)); have hiC := HIM.out.draw hgC2 hqC; have oC := hiC.ob.cell 0 rfl; rw [← EO.out] at oC)
                | fail "no arm")
            all_goals
              have HPD : Hid (Blk (wD.setCell ⟨ob, 0, none⟩ (.slice aD lD cD)) b2 9 (ss2.map Value.string).toArray) := Lib.hid ((HPM2.out.gr (Gr.trans hgC2 (hkC.gr g)) HNB.out.1).other ((Only.refl ob wD).set 0 _) HNB.out.2)
              have HID := Lib.hid (hiC.ins hkC hrD (fun b hb => by have h1 := hfD b hb; (try simp at h1); exact h1) (hiC.put.one (f := (bs p, bs s2)) HPM.out.1 (bs_lt s2) (by rw [bs_len]; omega)))
              rw [← EO.out] at HID
              clear hqC hgC hgC2 hiC oC hs2 hrD hfD hkD hkC oD ofD
              go_wp2_with fail
              go_roundw
              case rel => exact ⟨k + 1, _, _, by go_num, by omega, HID.out.less (by have := HN.out; omega) (by omega), HPD.out⟩
              case measure => simp [intOf]; omega
        · obtain rfl : k = 3 := by omega
          obtain ⟨av, lv, cv, hv⟩ := HI.out.rw.form
          subst hv
          have o0 := HI.out.ob.cell 0 rfl
          have r0 := HI.out.rb.cell 0 rfl; have rf0 := HI.out.rb.free 0
          rw [← EO.out] at o0
          rw [← ER.out] at r0 rf0
          go_wp2_with fail
          exact FIN.out _ _ wr3 _ fs rfl rfl (HI.out.less (by omega) (by omega)) rfl
theorem Revision_q {w0 w : World} {g n : Nat} (ht : Tq w0 w g (n + 5300)) : Calls Tryz.prog 20 #[.pointer (some ⟨g, 0, none⟩)] w fun e w' => (∃ v fs, e = .returned (.agg #[v]) ∧ Rw w' v fs ∧ Put 7 fs) ∧ Tq w0 w' g n ∧ Gr g w w' :=
  (Revision_o ht).mono fun _ _ ⟨⟨v, fs, h1, h2, h3, _⟩, h4⟩ => ⟨⟨v, fs, h1, h2, h3⟩, h4⟩
end By
end Go.Proofs.YtfobogcccbddbaaGreatDoor

/- A revision that the maker draws is well-formed. No condition. -/
namespace Go.Proofs.YtfobogcccbddbaaGreatDoor
namespace RevN
open WireN LexN
/-- The insertion, by recursion. -/
def ins2 (f : Fl) : List Fl → List Fl
  | [] => [f]
  | x :: fs => if leq f.1 x.1 = true then f :: (x :: fs).filter (fun y => !decide (y.1 = f.1)) else x :: ins2 f fs
theorem insP_true (f : Fl) : ∀ (fs out : List Fl), fs.foldl (insS f) (true, out) = (true, out ++ fs.filter (fun y => !decide (y.1 = f.1)))
  | [], out => by simp
  | x :: fs, out => by
    rw [List.foldl_cons]
    have h : insS f (true, out) x = (true, out ++ (if x.1 = f.1 then [] else [x])) := by simp [insS]
    rw [h, insP_true f fs, List.filter_cons]
    by_cases hx : x.1 = f.1 <;> simp [hx]
theorem insP_false (f : Fl) : ∀ (fs out : List Fl), (if (fs.foldl (insS f) (false, out)).1 = true then (fs.foldl (insS f) (false, out)).2 else (fs.foldl (insS f) (false, out)).2 ++ [f]) = out ++ ins2 f fs
  | [], out => by simp [ins2]
  | x :: fs, out => by
    rw [List.foldl_cons]
    cases hl : leq f.1 x.1 with
    | true =>
      have h : insS f (false, out) x = (true, (out ++ [f]) ++ (if x.1 = f.1 then [] else [x])) := by simp [insS, hl]
      rw [h, insP_true]
      unfold ins2
      rw [if_pos hl, List.filter_cons]
      by_cases hx : x.1 = f.1 <;> simp [hx]
    | false =>
      have hx : x.1 ≠ f.1 := fun e => by rw [e] at hl; simp [leq] at hl
      have h : insS f (false, out) x = (false, out ++ [x]) := by simp [insS, hl, hx]
      rw [h, insP_false f fs]
      unfold ins2
      rw [if_neg (by rw [hl]; simp)]
      cases fs <;> simp [ins2]
theorem insL_eq (f : Fl) (fs : List Fl) : insL fs f = ins2 f fs := by
  have h := insP_false f fs []
  rw [List.nil_append] at h
  exact h
theorem chkL_ins {f : Fl} (h1 : pathB f.1 = true) (h3 : f.2.length ≤ 16384) : ∀ (fs : List Fl) (p : List Nat), lss p f.1 = true → chkL p fs = 0 → chkL p (ins2 f fs) = 0
  | [], p, h2, h => chkL_cons (fileE_zero h1 h2 h3) rfl
  | x :: fs, p, h2, h => by
    obtain ⟨ht, hx⟩ := chkL_tail h
    have hgt := chkL_gt ht
    unfold ins2
    split
    · rename_i hl
      refine chkL_cons (fileE_zero h1 h2 h3) ?_
      rw [List.filter_cons]
      by_cases he : x.1 = f.1
      · rw [if_neg (by simp [he]), List.filter_eq_self.2 (fun y hy => by have h := lss_ne (hgt y hy); rw [he] at h; simp [Ne.symm h]), ← he]
        exact ht
      · have hlt : lss f.1 x.1 = true := by
          unfold leq at hl
          simpa [Ne.symm he] using hl
        rw [if_pos (by simp [he]), List.filter_eq_self.2 (fun y hy => by have h := lss_ne (lss_trans hlt (hgt y hy)); simp [Ne.symm h])]
        obtain ⟨q1, -, -, q4⟩ := fileE_ok hx
        exact chkL_cons (fileE_zero q1 hlt q4) ht
    · rename_i hl
      have hl2 : lss f.1 x.1 = false ∧ f.1 ≠ x.1 := by
        unfold leq at hl
        simpa using hl
      exact chkL_cons hx (chkL_ins h1 h3 fs x.1 (lss_total hl2.1 hl2.2) ht)
theorem chk_fold : ∀ (ops s : List Fl), (∀ f ∈ ops, pathB f.1 = true ∧ f.1 ≠ [] ∧ f.2.length ≤ 16384) → chkL [] s = 0 → chkL [] (ops.foldl insL s) = 0
  | [], s, _, h => h
  | f :: ops, s, ho, h => by
    rw [List.foldl_cons]
    obtain ⟨h1, h2, h3⟩ := ho f (List.mem_cons_self ..)
    refine chk_fold ops _ (fun g hg => ho g (List.mem_cons_of_mem _ hg)) ?_
    rw [insL_eq]
    exact chkL_ins h1 h3 s [] (lss_of_ne h2) h
end RevN
namespace By
open WireN LexN RevN
theorem Put.chk {k : Nat} {fs : List Fl} (h : Put k fs) (hk : k ≤ 64) : chk fs = 0 := by
  have hl := h.len
  obtain ⟨o, h1, h2, rfl⟩ := h
  unfold RevN.chk
  rw [if_neg (by omega)]
  refine chk_fold o [] (fun f hf => ?_) rfl
  obtain ⟨q1, q2, q3⟩ := h2 f hf
  have hp : ∀ q ∈ mkPaths, pathB q = true ∧ q ≠ [] := by decide +kernel
  exact ⟨(hp _ q1).1, (hp _ q1).2, by omega⟩
end By
end Go.Proofs.YtfobogcccbddbaaGreatDoor

/- Moving a file behind all others and back, putting and removing: what they make of a revision. Plain mathematics. No condition. -/
namespace Go.Proofs.YtfobogcccbddbaaGreatDoor
namespace RevN
open WireN LexN
set_option linter.unusedVariables false
set_option linter.unusedSimpArgs false
/-- The path behind all that the maker draws: zz/new. -/
def zzN : List Nat := [122, 122, 47, 110, 101, 119]
theorem zz_path : pathB zzN = true := by decide +kernel
theorem zz_lt : Lt zzN := by unfold zzN; intro i; match i with | 0 => decide | 1 => decide | 2 => decide | 3 => decide | 4 => decide | 5 => decide | n + 6 => simp
/-- A well-formed list of few files, all ahead of zz/new. -/
structure Few (fs : List Fl) : Prop where
  ok : chkL [] fs = 0
  len : fs.length ≤ 20
  zz : ∀ f ∈ fs, lss f.1 zzN = true
theorem Few.chk {fs : List Fl} (h : Few fs) : chk fs = 0 := by
  unfold RevN.chk
  rw [if_neg (by have := h.len; omega)]
  exact h.ok
theorem Few.put_zz {fs : List Fl} (h : Few fs) (b : List Nat) : putL fs (zzN, b) = fs ++ [(zzN, b)] := by
  have := put_not (A := fs) (C := []) (p := zzN) (b := b) h.zz (fun x hx => by simp at hx)
  simpa using this
theorem Few.has_zz {fs : List Fl} (h : Few fs) : hasP fs zzN = false := by
  have := has_not (A := fs) (C := []) (p := zzN) h.zz (fun x hx => by simp at hx)
  simpa using this
theorem Few.putF_zz {fs : List Fl} (h : Few fs) {b : List Nat} (hb : b.length ≤ 16384) : putF fs zzN b = (0, fs ++ [(zzN, b)]) := by
  unfold putF
  rw [if_neg (by rw [h.chk]; simp), if_neg (by rw [zz_path]; simp), h.put_zz, if_neg (by have := h.len; simp; omega)]
theorem Few.chk_zz {fs : List Fl} (h : Few fs) {b : List Nat} (hb : b.length ≤ 16384) : RevN.chk (fs ++ [(zzN, b)]) = 0 := by
  unfold RevN.chk
  rw [if_neg (by have := h.len; simp; omega)]
  exact chkL_snoc h.ok h.zz (lss_of_ne (path_ne zz_path)) zz_path hb
theorem Few.remF_zz {fs : List Fl} (h : Few fs) {b : List Nat} (hb : b.length ≤ 16384) : remF (fs ++ [(zzN, b)]) zzN = (0, fs) := by
  have h1 := has_mid (A := fs) (B := []) (f := (zzN, b)) h.zz
  have h2 := rem_mid (A := fs) (B := []) (f := (zzN, b)) h.zz
  unfold remF
  rw [if_neg (by rw [h.chk_zz hb]; simp), if_neg (by rw [h1]; simp), h2]
  simp
theorem Few.rem {A B : List Fl} {f : Fl} (h : Few (A ++ f :: B)) : Few (A ++ B) := by
  obtain ⟨h1, h2, h3, -⟩ := chkL_split h.ok
  refine ⟨h3, by have := h.len; simp at this ⊢; omega, fun x hx => h.zz x ?_⟩
  rcases List.mem_append.1 hx with hx | hx <;> simp [hx]
theorem Few.remF_mid {A B : List Fl} {f : Fl} (h : Few (A ++ f :: B)) : remF (A ++ f :: B) f.1 = (0, A ++ B) := by
  obtain ⟨h1, h2, -⟩ := chkL_split h.ok
  unfold remF
  rw [if_neg (by rw [h.chk]; simp), if_neg (by rw [has_mid h1]; simp), rem_mid h1]
/-- Moving there. -/
theorem Few.mov {A B : List Fl} {f : Fl} (h : Few (A ++ f :: B)) : movF (A ++ f :: B) f.1 zzN = (0, A ++ B ++ [(zzN, f.2)]) := by
  obtain ⟨h1, h2, h3, h4, h5, h6⟩ := chkL_split h.ok
  unfold movF
  rw [if_neg (by rw [h.chk]; simp), if_neg (by rw [zz_path]; simp), if_neg (by rw [has_mid h1]; simp), if_neg (by rw [h.has_zz]; simp), rem_mid h1, bytes_mid h1]
  exact h.rem.putF_zz h5
/-- And back. -/
theorem Few.back {A B : List Fl} {f : Fl} (h : Few (A ++ f :: B)) : movF (A ++ B ++ [(zzN, f.2)]) zzN f.1 = (0, A ++ f :: B) := by
  obtain ⟨h1, h2, h3, h4, h5, h6⟩ := chkL_split h.ok
  have hr := h.rem
  have hzf := h.zz f (by simp)
  have e1 : hasP (A ++ B ++ [(zzN, f.2)]) f.1 = false := by
    rw [List.append_assoc]
    refine has_not h1 (fun x hx => ?_)
    cases B with
    | nil => simp at hx; subst hx; exact hzf
    | cons b B => simp at hx; subst hx; exact h2 _ (by simp)
  have e2 := has_mid (A := A ++ B) (B := []) (f := (zzN, f.2)) hr.zz
  have e3 := rem_mid (A := A ++ B) (B := []) (f := (zzN, f.2)) hr.zz
  have e4 := bytes_mid (A := A ++ B) (B := []) (f := (zzN, f.2)) hr.zz
  have e5 : putL (A ++ B) (f.1, f.2) = A ++ (f.1, f.2) :: B := put_not h1 (fun x hx => h2 x (List.mem_of_mem_head? hx))
  unfold movF
  rw [if_neg (by rw [hr.chk_zz h5]; simp), if_neg (by rw [h4]; simp), if_neg (by rw [e2]; simp), if_neg (by rw [e1]; simp), e3, e4, List.append_nil]
  unfold putF
  rw [if_neg (by rw [hr.chk]; simp), if_neg (by rw [h4]; simp), e5, if_neg (by have := h.len; simp at this ⊢; omega)]
/-- Removing a file where one is put behind all. -/
theorem Few.remF_both {A B : List Fl} {f : Fl} (h : Few (A ++ f :: B)) {b : List Nat} (hb : b.length ≤ 16384) : remF (A ++ f :: B ++ [(zzN, b)]) f.1 = (0, A ++ B ++ [(zzN, b)]) := by
  obtain ⟨h1, h2, h3, h4, h5, h6⟩ := chkL_split h.ok
  have e1 := has_mid (A := A) (B := B ++ [(zzN, b)]) (f := f) h1
  have e2 := rem_mid (A := A) (B := B ++ [(zzN, b)]) (f := f) h1
  have e3 : A ++ f :: B ++ [(zzN, b)] = A ++ f :: (B ++ [(zzN, b)]) := by simp
  have e4 := h.chk_zz hb
  unfold remF
  rw [if_neg (by rw [e4]; simp), e3, if_neg (by rw [e1]; simp), e2, List.append_assoc]
/-- What the maker puts has one of its paths. -/
theorem ins2_mem {f : Fl} : ∀ {fs : List Fl} {x : Fl}, x ∈ ins2 f fs → x = f ∨ x ∈ fs
  | [], x, h => by simp [ins2] at h; exact .inl h
  | y :: fs, x, h => by
    unfold ins2 at h
    split at h
    · rcases List.mem_cons.1 h with rfl | h
      · exact .inl rfl
      · exact .inr (List.mem_filter.1 h).1
    · rcases List.mem_cons.1 h with rfl | h
      · exact .inr (by simp)
      · rcases ins2_mem h with rfl | h
        · exact .inl rfl
        · exact .inr (by simp [h])
theorem fold_mem : ∀ (ops s : List Fl) (x : Fl), x ∈ ops.foldl insL s → x ∈ ops ∨ x ∈ s
  | [], s, x, h => .inr h
  | f :: ops, s, x, h => by
    rw [List.foldl_cons] at h
    rcases fold_mem ops _ x h with h | h
    · exact .inl (by simp [h])
    · rw [insL_eq] at h
      rcases ins2_mem h with rfl | h
      · exact .inl (by simp)
      · exact .inr h
end RevN
namespace By
open WireN LexN RevN
theorem Put.mem {k : Nat} {fs : List Fl} (h : Put k fs) : ∀ f ∈ fs, f.1 ∈ mkPaths ∧ Lt f.2 ∧ f.2.length ≤ 5200 := by
  obtain ⟨o, h1, h2, rfl⟩ := h
  intro f hf
  rcases fold_mem o [] f hf with hf | hf
  · exact h2 f hf
  · simp at hf
theorem Put.few {k : Nat} {fs : List Fl} (h : Put k fs) (hk : k ≤ 20) : Few fs := by
  refine ⟨(chk_ok (h.chk (by omega))).2, by have := h.len; omega, fun f hf => ?_⟩
  have hp : ∀ q ∈ mkPaths, lss q zzN = true := by decide +kernel
  exact hp _ (h.mem f hf).1
end By
end Go.Proofs.YtfobogcccbddbaaGreatDoor
