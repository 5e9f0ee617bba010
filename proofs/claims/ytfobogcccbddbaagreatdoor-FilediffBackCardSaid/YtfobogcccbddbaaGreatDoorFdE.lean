/- An edit of the maker. Conditions: the tape has so many draws left; the slice reads as the files that are named, apart from the tape's block; few edits were made before. -/
import Derived.Test.YtfobogcccbddbaaGreatDoorZau
namespace Go.Proofs.YtfobogcccbddbaaGreatDoor
namespace By
open Go.RowKit WireN LexN RevN
set_option linter.unusedVariables false
set_option linter.unusedSimpArgs false

theorem remove_st {u : Value} {fs : List Fl} {p : ByteArray} {w : World} (hr : Rw w u fs) (hn : fs.length ≤ 1000) :
    Calls Tryz.prog 55 #[.agg #[u], .string p] w fun e w' => ∃ v, e = .returned (.agg #[v]) ∧ Rw w' v (woL (bs p) fs) ∧ (∀ b, v.ownBlock = some b → w.heap.size ≤ b) ∧ Kp w w' := by
  have h := remove_any (p := bs p) hr (bs_lt p) hn
  rw [st_bs] at h
  exact h
/-- What holds while the edit is made. -/
structure EdI (w0 w W : World) (g n : Nat) (v : Value) (fs : List Fl) : Prop where
  rb : Blk W w.heap.size 25 #[v]
  ob : Blk W (w.heap.size + 1) 25 #[.slice none 0 0]
  rw : Rw W v fs
  fr : ∀ b, v.ownBlock = some b → b ≠ g
  tq : Tq w0 W g n
  gr : Gr g w W
  gl : g < w.heap.size
  gb : w0.heap.size ≤ w.heap.size
  sz : w.heap.size + 2 ≤ W.heap.size
theorem EdI.draw {w0 w W W' : World} {g n m : Nat} {v : Value} {fs : List Fl} (h : EdI w0 w W g n v fs) (hg : Gr g W W') (ht : Tq w0 W' g m) : EdI w0 w W' g m v fs := by
  have := h.gl; have := hg.size; have := h.sz
  exact ⟨h.rb.gr hg (by omega), h.ob.gr hg (by omega), h.rw.gr hg h.fr, h.fr, ht, Gr.trans h.gr hg, h.gl, h.gb, by omega⟩
theorem EdI.less {w0 w W : World} {g n m : Nat} {v : Value} {fs : List Fl} (h : EdI w0 w W g n v fs) (h1 : m ≤ n) : EdI w0 w W g m v fs := ⟨h.rb, h.ob, h.rw, h.fr, h.tq.less h1, h.gr, h.gl, h.gb, h.sz⟩
theorem EdI.keep {w0 w W W' : World} {g n : Nat} {v : Value} {fs : List Fl} (h : EdI w0 w W g n v fs) (hk : Kp W W') : EdI w0 w W' g n v fs := h.draw (hk.gr g) (h.tq.keep hk)
theorem EdI.cells {w0 w W : World} {g n : Nat} {v : Value} {fs : List Fl} (h : EdI w0 w W g n v fs) : W.cell? ⟨w.heap.size, 0, none⟩ = some v := h.rb.cell 0 rfl
theorem EdI.start {w0 w : World} {g n : Nat} {v : Value} {fs : List Fl} (h : Tq w0 w g n) (hr : Rw w v fs) (hne : ∀ b, v.ownBlock = some b → b ≠ g) : EdI w0 w ((w.alloc (.cells #[v] 25)).alloc (.cells #[.slice none 0 0] 25)) g n v fs := by
  obtain ⟨Wa, hWa⟩ : ∃ W, W = w.alloc (.cells #[v] 25) := ⟨_, rfl⟩
  have za : Wa.heap.size = w.heap.size + 1 := by rw [hWa]; simp
  have ka : Kp w Wa := by rw [hWa]; exact kp_alloc w _
  have kb : Kp Wa (Wa.alloc (.cells #[.slice none 0 0] 25)) := kp_alloc Wa _
  have h1 : Blk Wa w.heap.size 25 #[v] := by rw [hWa]; exact Blk.new _ _ _
  have h2 : Blk (Wa.alloc (.cells #[.slice none 0 0] 25)) (w.heap.size + 1) 25 #[.slice none 0 0] := by rw [← za]; exact Blk.new _ _ _
  rw [← hWa]
  exact ⟨h1.keep kb, h2, (hr.keep ka).keep kb, hne, h.keep (Kp.trans ka kb), (Kp.trans ka kb).gr g, h.lt, h.base.size, by simp; omega⟩

/-- What follows is walked once, whatever the order was. -/
theorem join0 {c : Code} {a : Act} {w : World} {Q : Exit → Act → World → Prop} (R : Act → World → Prop) (h : c.wp Tryz.prog (fun e a' w' => match e with | .normal => R a' w' | _ => False) a w) (hr : ∀ a' w', R a' w' → Q .normal a' w') : c.wp Tryz.prog Q a w :=
  wp_mono h fun e a' w' hh => by
    cases e with
    | normal => exact hr a' w' hh
    | _ => exact hh.elim
set_option maxRecDepth 100000 in
set_option maxHeartbeats 16000000 in
theorem Edit_q {w0 w : World} {g n kk : Nat} {u : Value} {fs : List Fl} (ht : Tq w0 w g (n + 1303 + 1 + 1)) (hr : Rw w u fs) (hne : ∀ b, u.ownBlock = some b → b ≠ g) (he : Eds kk fs) (hkk : kk ≤ 6) :
    Calls Tryz.prog 23 #[.pointer (some ⟨g, 0, none⟩), .agg #[u]] w fun e w' => (∃ v gs, e = .returned (.agg #[v]) ∧ Rw w' v gs ∧ Eds (kk + 1) gs ∧ ∀ b, v.ownBlock = some b → w.heap.size ≤ b) ∧ Tq w0 w' g n ∧ Gr g w w' := by
  obtain ⟨ao, cap, hu, hcap, -, -⟩ := hr.open3
  obtain ⟨nf, hnf⟩ : ∃ n, n = fs.length := ⟨_, rfl⟩
  rw [← hnf] at hu hcap
  obtain ⟨Q, hQ⟩ : ∃ Q : Ending → World → Prop, Q = fun e w' => (∃ v gs, e = .returned (.agg #[v]) ∧ Rw w' v gs ∧ Eds (kk + 1) gs ∧ ∀ b, v.ownBlock = some b → w.heap.size ≤ b) ∧ Tq w0 w' g n ∧ Gr g w w' := ⟨_, rfl⟩
  rw [← hQ]
  subst hu
  obtain ⟨v0, hv0⟩ : ∃ v, v = Value.slice ao nf cap := ⟨_, rfl⟩
  have HLEN : Hid (fs.length ≤ 1000) := Lib.hid (by have := he.len; omega)
  have hni : (nf : Int) ≤ 1000 := by have := he.len; omega
  have hcp : (nf : Int) ≤ (cap : Int) := by omega
  have HE := Lib.hid he; have HKK := Lib.hid hkk
  obtain ⟨rb, hrb⟩ : ∃ b, b = w.heap.size := ⟨_, rfl⟩
  obtain ⟨ob, hob⟩ : ∃ b, b = w.heap.size + 1 := ⟨_, rfl⟩
  have HI0 := Lib.hid (EdI.start ht hr hne)
  obtain ⟨X0, hX0⟩ : ∃ W, W = (w.alloc (.cells #[.slice ao nf cap] 25)).alloc (.cells #[.slice none 0 0] 25) := ⟨_, rfl⟩
  rw [← hX0, ← hv0] at HI0
  have HX0 := Lib.hid hX0; have ER := Lib.hid hrb; have EO := Lib.hid hob; have HV := Lib.hid hv0; have HN := Lib.hid hnf
  have HSR := Lib.hid (srcs_q X0)
  have HPK : Hid (∀ W, Gr g w W → Calls Tryz.prog 50 #[] W fun e w' => ∃ v, e = .returned v ∧ Ps g w' v [⟨#[112]⟩, ⟨#[113]⟩, ⟨#[115]⟩] ∧ Kp W w') := Lib.hid (fun W hg => Packages_q g W (Nat.lt_of_lt_of_le ht.lt hg.size))
  have HRW : Hid (∀ W, Rw W v0 fs → 0 < nf → ∃ b off, ao = some ⟨b, off, none⟩ ∧ ∀ (j : Nat) (f : Fl), fs[j]? = some f → W.cell? ⟨b, off + j * 2, none⟩ = some (.string (st f.1)) ∧ W.cell? ⟨b, off + j * 2 + 1, none⟩ = some (.string (st f.2))) := Lib.hid (fun W h h0 => by
    rw [hv0, hnf] at h
    exact h.cell (by omega))
  have FIN : Hid (∀ (a : Act) (W X : World) (v : Value) (gs : List Fl), a.defers = [] → a.tmps.getD 4 undef = .pointer (some ⟨ob, 0, none⟩) → EdI w0 w X g n v0 fs → Rw X v gs → (∀ b, v.ownBlock = some b → w.heap.size + 2 ≤ b) → Eds (kk + 1) gs → W = X.setCell ⟨ob, 0, none⟩ v → bodyPost Tryz.prog Tryz.f23 Q .ret a W) := Lib.hid (by
    intro a W X v gs h0 h2 hi hrv hnew hsz hW
    rw [EO.out] at h2 hW
    have oW : Only (w.heap.size + 1) X W := by rw [hW]; exact (Only.refl _ X).set 0 _
    have hbW : Blk W (w.heap.size + 1) 25 #[v] := by rw [hW]; exact hi.ob.set 0 _
    have e0 := hbW.cell 0 rfl
    have h2' : a.tmps[4]?.getD undef = .pointer (some ⟨w.heap.size + 1, 0, none⟩) := by simpa using h2
    refine bodyPost_ret (v := .agg #[v]) (by simp [results, Tryz.results23, go_sem, h2', e0]) h0 ?_
    rw [hQ]
    have h3 := hi.gl; have h4 := hi.gb
    exact ⟨⟨v, gs, rfl, hrv.only oW (fun b hb e => by have := hnew b hb; omega), hsz, fun b hb => by have := hnew b hb; omega⟩, hi.tq.only oW (by omega) (by omega), Gr.by hi.gr (Only.gr oW) (fun r hr => by injection hr; omega)⟩)
  clear ht hr hne he hkk hQ hrb hob hX0 hnf hv0
  go_enter Tryz.func23, Tryz.ntmps23
  go_wp2_with fail
  rw [← HX0.out, ← EO.out, ← ER.out]
  refine HSR.out.mono ?_
  rintro e w1 ⟨b1, rfl, hb1, hp1, hk1⟩
  have hiA := HI0.out.keep hk1
  have HPS : Hid (Ps g w1 (.slice (some ⟨b1, 0, none⟩) 4 4) [⟨#[97, 46, 115, 114, 99]⟩, ⟨#[98, 46, 115, 114, 99]⟩, ⟨#[100, 47, 99, 46, 115, 114, 99]⟩, ⟨#[120, 46, 115, 114, 99]⟩]) := Lib.hid (Ps.blk (t := 9) hp1 (by have := HI0.out.gl; have := HI0.out.sz; omega) (by decide) (by decide))
  have HONE := Lib.hid (One_q (n := n + 1303 + 1) hiA.tq HPS.out)
  have HIA := Lib.hid hiA
  clear hp1 hk1 hb1 hiA
  go_wp2_with fail
  refine HONE.out.mono ?_
  rintro e w2 ⟨⟨p, rfl, hps, hpm⟩, hq2, hg2⟩
  have HP : Hid ((pathB (bs p) = true ∧ bs p ≠ []) ∧ p.size ≤ 30 ∧ p.size ≤ 8) := Lib.hid (by
    have h := srcs_path p (hpm (by simp))
    exact ⟨h.1, by omega, by omega⟩)
  have HIB := Lib.hid (HIA.out.draw hg2 hq2)
  have HNX := Lib.hid (Next_q (n := n + 1303) hq2 9 (by omega) (by omega))
  clear hps hpm hq2 hg2 HONE HPS HIA
  go_wp2_with fail
  refine HNX.out.mono ?_
  rintro e wZ ⟨⟨r, hr9, rfl⟩, hq3, hg3⟩
  have HI := Lib.hid (HIB.out.draw hg3 hq3)
  clear hq3 hg3 HNX HIB HSR HI0 HX0

  rename_i K2 aK2 K1 aK1 K0 aK0
  have END0 : ∀ (u7 u9 u11 u18 u19 u20 u29 u30 u36 u37 u47 u48 u49 u50 u51 u52 u53 u54 u55 u56 u57 u58 u59 u60 u61 u62 u63 u64 u65 u66 u67 u68 u69 u70 u71 u72 u73 u74 u75 u76 u77 u78 u79 u80 u81 u82 u83 u84 u85 u86 u87 u88 u89 u90 u91 u92 u93 u94 u95 u96 u97 u98 u99 u100 u101 u102 u103 u104 u105 u106 u107 u108 u109 u110 u111 u112 u113 u114 u115 u116 u117 u118 u119 : Value) (wZ : World), EdI w0 w wZ g (n + 1303) v0 fs → K2 { tmps := #[.pointer (some ⟨g, 0, none⟩), .agg #[.slice ao nf cap], undef, .pointer (some ⟨rb, 0, none⟩), .pointer (some ⟨ob, 0, none⟩), .string p, undef, u7, undef, u9, undef, u11, undef, undef, .pointer (some ⟨g, 0, none⟩), .slice (some ⟨b1, 0, none⟩) 4 4, .string p, .pointer (some ⟨g, 0, none⟩), u18, u19, u20, undef, undef, undef, undef, undef, undef, undef, undef, u29, u30, undef, undef, undef, undef, undef, u36, u37, undef, undef, undef, undef, undef, undef, undef, undef, undef, u47, u48, u49, u50, u51, u52, u53, u54, u55, u56, u57, u58, u59, u60, u61, u62, u63, u64, u65, u66, u67, u68, u69, u70, u71, u72, u73, u74, u75, u76, u77, u78, u79, u80, u81, u82, u83, u84, u85, u86, u87, u88, u89, u90, u91, u92, u93, u94, u95, u96, u97, u98, u99, u100, u101, u102, u103, u104, u105, u106, u107, u108, u109, u110, u111, u112, u113, u114, u115, u116, u117, u118, u119, undef, undef, undef, undef, undef, undef, undef, undef, undef, undef, undef, undef, undef, undef, undef, undef, undef, undef, undef, undef, undef, undef, undef, undef, undef, undef, undef, undef, undef, undef], defers := [] } wZ := by
    intro u7 u9 u11 u18 u19 u20 u29 u30 u36 u37 u47 u48 u49 u50 u51 u52 u53 u54 u55 u56 u57 u58 u59 u60 u61 u62 u63 u64 u65 u66 u67 u68 u69 u70 u71 u72 u73 u74 u75 u76 u77 u78 u79 u80 u81 u82 u83 u84 u85 u86 u87 u88 u89 u90 u91 u92 u93 u94 u95 u96 u97 u98 u99 u100 u101 u102 u103 u104 u105 u106 u107 u108 u109 u110 u111 u112 u113 u114 u115 u116 u117 u118 u119 wZ hI
    have HI := Lib.hid hI
    clear hI aK1 aK0 hr9
    refine aK2 _ _ ?_
    clear aK2
    have HI0 := Lib.hid (EdI.cells HI.out)
    have x0 := HI0.out; rw [← ER.out] at x0
    rw [HV.out] at x0
    go_wp2_with fail
    clear x0 HI0
    go_loopw [123] (fun i wr => ∃ (j : Nat), i = .int .i64 j ∧ j ≤ nf ∧ EdI w0 w wr g (n + 1303) v0 fs) (fun i _ => nf - (intOf i).toNat)
    case atStart => exact ⟨0, rfl, Nat.zero_le _, HI.out.less (by omega)⟩
    case round =>
      obtain ⟨j, rfl, hj, hi⟩ := hrel
      rename World => wx
      have HX := Lib.hid hi
      clear hi
      by_cases hjn : j < nf
      · obtain ⟨x, hx⟩ : ∃ x, fs[j]? = some x := ⟨_, List.getElem?_eq_getElem (by have := HN.out; omega)⟩
        obtain ⟨b, off, hao, hc⟩ := HRW.out wx HX.out.rw (by omega)
        subst hao
        obtain ⟨c0, c1⟩ := hc j x hx
        obtain ⟨T1, hT1⟩ : ∃ S, S = st x.1 := ⟨_, rfl⟩
        obtain ⟨T2, hT2⟩ : ∃ S, S = st x.2 := ⟨_, rfl⟩
        rw [← hT1] at c0
        rw [← hT2] at c1
        have HT2 : Hid (T2.size ≤ 5200 + 1100 * kk) := Lib.hid (by rw [hT2, st_size]; exact HE.out.sm x (List.mem_of_getElem? hx))
        obtain ⟨eq, heq⟩ : ∃ e, e = (T1.toList == p.toList) := ⟨_, rfl⟩
        have hq := heq.symm
        obtain ⟨wZ, hWA⟩ : ∃ W, W = wx.alloc (.cells #[.string T1, .string T2] 53) := ⟨_, rfl⟩
        have HI2 : Hid (EdI w0 w wZ g (n + 1303) v0 fs) := Lib.hid (by rw [hWA]; exact HX.out.keep (kp_alloc _ _))
        obtain ⟨fb, hfb⟩ : ∃ b, b = wx.heap.size := ⟨_, rfl⟩
        have FB : Hid (Blk wZ fb 53 #[.string T1, .string T2]) := Lib.hid (by rw [hWA, hfb]; exact Blk.new _ _ _)
        have FNE : Hid (fb ≠ g) := Lib.hid (by have := HX.out.gl; have := HX.out.sz; omega)
        have HWA := Lib.hid hWA; have HFB := Lib.hid hfb
        have f0 := FB.out.cell 0 rfl; have f1 := FB.out.cell 1 rfl
        rw [HWA.out, HFB.out] at f0 f1
        clear hc hx hT1 hT2 heq hWA hfb HI HX
        have HI := HI2
        cases eq
        · go_wp2_with fail
          rw [← HWA.out]
          go_roundw
          case rel => exact ⟨j + 1, by go_num, by omega, HI.out⟩
          case measure => simp [intOf]; omega
        ·
          have rz := HI.out.rb.cell 0 rfl
          rw [← ER.out, HWA.out] at rz
          go_wp2_with fail
          rw [← HWA.out, ← HFB.out]
          clear f0 f1 rz c0 c1
          have hiZ := HI.out
          have fbZ := FB.out; have f1Z := fbZ.cell 1 rfl
          have xZ := hiZ.rb.cell 0 rfl; rw [← ER.out] at xZ
          have hiZl : EdI w0 w wZ g (n + 2 + 250) v0 fs := hiZ.less (by omega)
          refine join0 (fun a' w' => a'.defers = [] ∧ a'.tmps.getD 4 undef = .pointer (some ⟨ob, 0, none⟩) ∧ ∃ X v gs, EdI w0 w X g n v0 fs ∧ Rw X v gs ∧ (∀ b, v.ownBlock = some b → w.heap.size + 2 ≤ b) ∧ Eds (kk + 1) gs ∧ w' = X.setCell ⟨ob, 0, none⟩ v) ?_ ?_
          · go_region_with
              (first
                | (go_at_call 48; refine (insert_st (p := p) (s := S3) (fs := fs) (by first | exact hiB.rw | exact (hiB.keep (kp_drew _)).rw | exact ((hiB.keep (kp_drew _)).keep (kp_drew _)).rw | exact (((hiB.keep (kp_drew _)).keep (kp_drew _)).keep (kp_drew _)).rw) HP.out.2.1 (by have := HKK.out; omega) HLEN.out).mono ?_; rintro e wD ⟨v', rfl, hrD, hfD, hkD⟩; obtain ⟨aD, lD, cD, hvD⟩ := hrD.form; subst hvD; have hkC : Kp wB wD := (by first | exact hkD | exact (Kp.trans (kp_drew _) hkD) | exact (Kp.trans (kp_drew _) (Kp.trans (kp_drew _) hkD)) | exact (Kp.trans (kp_drew _) (Kp.trans (kp_drew _) (Kp.trans (kp_drew _) hkD)))); have hiD := hiB.keep hkC; have oD := hiD.ob.cell 0 rfl; have ofD := hiD.ob.free 0; rw [← EO.out] at oD ofD)
                | (go_at_call 57; refine (Decl_q (w0 := w0) (n := n + 2) (by first | exact hiZl.tq | exact (hiZl.keep (kp_drew _)).tq | exact ((hiZl.keep (kp_drew _)).keep (kp_drew _)).tq | exact (((hiZl.keep (kp_drew _)).keep (kp_drew _)).keep (kp_drew _)).tq)).mono ?_; rintro e wB ⟨⟨s2, rfl, hs2⟩, hqB, hgB⟩; have hGB : Gr g wZ wB := (by first | exact hgB | exact (Gr.trans ((kp_drew _).gr g) hgB) | exact (Gr.trans ((kp_drew _).gr g) (Gr.trans ((kp_drew _).gr g) hgB)) | exact (Gr.trans ((kp_drew _).gr g) (Gr.trans ((kp_drew _).gr g) (Gr.trans ((kp_drew _).gr g) hgB)))); have hiB := hiZ.draw hGB hqB; have xB := hiB.rb.cell 0 rfl; rw [← ER.out] at xB; have fbB := fbZ.gr hGB FNE.out; have f1B := fbB.cell 1 rfl; obtain ⟨S3, hS3, hA3⟩ := addB T2 s2 HT2.out hs2 (by have := HKK.out; omega))
                | fail "no arm")
            all_goals exact ⟨rfl, rfl, _, _, _, hiD.less (by omega), hrD, (fun b hb => by have h1 := hfD b hb; (try simp at h1); have h2 := hiB.sz; omega), (HE.out.ins HKK.out (f := (bs p, bs S3)) ⟨HP.out.1, by show (bs S3).length ≤ _; rw [bs_len]; omega⟩), rfl⟩
          · intro a' w' hR
            obtain ⟨r1, r2, X, v, gs, r3, r4, r5, r6, r7⟩ := hR
            have HR := Lib.hid (FIN.out a' w' X v gs r1 r2 r3 r4 r5 r6 r7)
            clear r1 r2 r3 r4 r5 r6 r7
            go_wp2_with fail
            exact HR.out
      · have ej : nf = j := by omega
        subst ej
        have HI := HX
        have hiZ : EdI w0 w wx g (n + 1302 + 1) v0 fs := HI.out.less (by omega)
        have xZ := hiZ.rb.cell 0 rfl; rw [← ER.out] at xZ
        go_wp2_with fail
        refine join0 (fun a' w' => a'.defers = [] ∧ a'.tmps.getD 4 undef = .pointer (some ⟨ob, 0, none⟩) ∧ ∃ X v gs, EdI w0 w X g n v0 fs ∧ Rw X v gs ∧ (∀ b, v.ownBlock = some b → w.heap.size + 2 ≤ b) ∧ Eds (kk + 1) gs ∧ w' = X.setCell ⟨ob, 0, none⟩ v) ?_ ?_
        · go_region_with
            (first
              | (go_at_call 48; refine (insert_st (p := p) (s := s2) (fs := fs) (by first | exact hiC.rw | exact (hiC.keep (kp_drew _)).rw | exact ((hiC.keep (kp_drew _)).keep (kp_drew _)).rw | exact (((hiC.keep (kp_drew _)).keep (kp_drew _)).keep (kp_drew _)).rw) HP.out.2.1 (by omega) HLEN.out).mono ?_; rintro e wD ⟨v', rfl, hrD, hfD, hkD⟩; obtain ⟨aD, lD, cD, hvD⟩ := hrD.form; subst hvD; have hkC : Kp wC wD := (by first | exact hkD | exact (Kp.trans (kp_drew _) hkD) | exact (Kp.trans (kp_drew _) (Kp.trans (kp_drew _) hkD)) | exact (Kp.trans (kp_drew _) (Kp.trans (kp_drew _) (Kp.trans (kp_drew _) hkD)))); have hiD := hiC.keep hkC; have oD := hiD.ob.cell 0 rfl; have ofD := hiD.ob.free 0; rw [← EO.out] at oD ofD)
              | (go_at_call 49; refine (Source_s (w0 := w0) (n := n + 2) (by first | exact hiB.tq | exact (hiB.keep (kp_drew _)).tq | exact ((hiB.keep (kp_drew _)).keep (kp_drew _)).tq | exact (((hiB.keep (kp_drew _)).keep (kp_drew _)).keep (kp_drew _)).tq) (by omega)).mono ?_; rintro e wC ⟨⟨s2, rfl, hs2⟩, hqC, hgC⟩; have hGC : Gr g wB wC := (by first | exact hgC | exact (Gr.trans ((kp_drew _).gr g) hgC) | exact (Gr.trans ((kp_drew _).gr g) (Gr.trans ((kp_drew _).gr g) hgC)) | exact (Gr.trans ((kp_drew _).gr g) (Gr.trans ((kp_drew _).gr g) (Gr.trans ((kp_drew _).gr g) hgC)))); have hiC := hiB.draw hGC hqC; have xC := hiC.rb.cell 0 rfl; rw [← ER.out] at xC)
              | (go_at_call 37; refine (One_q (w0 := w0) (n := n + 2 + 1300) (ss := [⟨#[112]⟩, ⟨#[113]⟩, ⟨#[115]⟩]) (by first | exact hiA.tq | exact (hiA.keep (kp_drew _)).tq | exact ((hiA.keep (kp_drew _)).keep (kp_drew _)).tq | exact (((hiA.keep (kp_drew _)).keep (kp_drew _)).keep (kp_drew _)).tq) (by first | exact hpA | exact hpA.gr ((kp_drew _).gr g) | exact (hpA.gr ((kp_drew _).gr g)).gr ((kp_drew _).gr g))).mono ?_; rintro e wB ⟨⟨sB, rfl, hsB, hmB⟩, hqB, hgB⟩; have hGB : Gr g wA wB := (by first | exact hgB | exact (Gr.trans ((kp_drew _).gr g) hgB) | exact (Gr.trans ((kp_drew _).gr g) (Gr.trans ((kp_drew _).gr g) hgB)) | exact (Gr.trans ((kp_drew _).gr g) (Gr.trans ((kp_drew _).gr g) (Gr.trans ((kp_drew _).gr g) hgB)))); have hiB := hiA.draw hGB hqB; have xB := hiB.rb.cell 0 rfl; rw [← ER.out] at xB)
              | (go_at_call 50; refine (HPK.out _ (by first | exact hiZ.gr | exact (hiZ.keep (kp_drew _)).gr | exact ((hiZ.keep (kp_drew _)).keep (kp_drew _)).gr | exact (((hiZ.keep (kp_drew _)).keep (kp_drew _)).keep (kp_drew _)).gr)).mono ?_; rintro e wA ⟨vA, rfl, hpA, hkA⟩; obtain ⟨aoA, capA, hvA, -, -⟩ := hpA.ex; subst hvA; have hkA2 : Kp wx wA := (by first | exact hkA | exact (Kp.trans (kp_drew _) hkA) | exact (Kp.trans (kp_drew _) (Kp.trans (kp_drew _) hkA)) | exact (Kp.trans (kp_drew _) (Kp.trans (kp_drew _) (Kp.trans (kp_drew _) hkA)))); have hiA := hiZ.keep hkA2; have xA := hiA.rb.cell 0 rfl; rw [← ER.out] at xA)
              | fail "no arm")
          all_goals exact ⟨rfl, rfl, _, _, _, hiD.less (by omega), hrD, (fun b hb => by have h1 := hfD b hb; (try simp at h1); have h2 := hiC.sz; omega), (HE.out.ins HKK.out (f := (bs p, bs s2)) ⟨HP.out.1, by show (bs s2).length ≤ _; rw [bs_len]; omega⟩), rfl⟩
        · intro a' w' hR
          obtain ⟨r1, r2, X, v, gs, r3, r4, r5, r6, r7⟩ := hR
          have HR := Lib.hid (FIN.out a' w' X v gs r1 r2 r3 r4 r5 r6 r7)
          clear r1 r2 r3 r4 r5 r6 r7
          go_wp2_with fail
          exact HR.out
  have END := Lib.hid END0
  clear END0 aK2

  by_cases hr0 : r = 0
  ·
    have q0 : ((r : Int) == 0) = true := beq_iff_eq.2 (by omega)
    have hiZ : EdI w0 w wZ g (n + 2 + 5 + 1) v0 fs := HI.out.less (by omega)
    have xZ := hiZ.rb.cell 0 rfl; rw [← ER.out] at xZ
    have xZa : ∀ o, (wZ.alloc o).cell? ⟨rb, 0, none⟩ = some v0 := fun o => cell_kept xZ (kp_alloc _ _)
    have xZb : ∀ o, (wZ.drew.alloc o).cell? ⟨rb, 0, none⟩ = some v0 := fun o => cell_kept xZ (Kp.trans (kp_drew _) (kp_alloc _ _))
    have xZc : ∀ o, (wZ.alloc o).drew.cell? ⟨rb, 0, none⟩ = some v0 := fun o => cell_kept xZ (Kp.trans (kp_alloc _ _) (kp_drew _))
    go_wp2_with fail
    refine join0 (fun a' w' => a'.defers = [] ∧ a'.tmps.getD 4 undef = .pointer (some ⟨ob, 0, none⟩) ∧ ∃ X v gs, EdI w0 w X g n v0 fs ∧ Rw X v gs ∧ (∀ b, v.ownBlock = some b → w.heap.size + 2 ≤ b) ∧ Eds (kk + 1) gs ∧ w' = X.setCell ⟨ob, 0, none⟩ v) ?_ ?_
    · go_region_with
        (first
          | (go_at_call 48; refine (insert_st (p := sB) (s := s2) (fs := fs) (by first | exact hiC.rw | exact (hiC.keep (kp_drew _)).rw | exact ((hiC.keep (kp_drew _)).keep (kp_drew _)).rw | exact (((hiC.keep (kp_drew _)).keep (kp_drew _)).keep (kp_drew _)).rw) (Nat.le_trans hsB (by omega)) (Nat.le_trans hs2 (by omega)) HLEN.out).mono ?_; rintro e wD ⟨v', rfl, hrD, hfD, hkD⟩; obtain ⟨aD, lD, cD, hvD⟩ := hrD.form; subst hvD; have hkC : Kp wC wD := (by first | exact hkD | exact (Kp.trans (kp_drew _) hkD) | exact (Kp.trans (kp_drew _) (Kp.trans (kp_drew _) hkD)) | exact (Kp.trans (kp_drew _) (Kp.trans (kp_drew _) (Kp.trans (kp_drew _) hkD)))); have hiD := hiC.keep hkC; have oD := hiD.ob.cell 0 rfl; have ofD := hiD.ob.free 0; rw [← EO.out] at oD ofD)
          | (go_at_call 51; refine (data_q (w0 := w0) (n := n + 2) (by first | exact hiB.tq | exact (hiB.keep (kp_drew _)).tq | exact ((hiB.keep (kp_drew _)).keep (kp_drew _)).tq | exact (((hiB.keep (kp_drew _)).keep (kp_drew _)).keep (kp_drew _)).tq)).mono ?_; rintro e wC ⟨⟨s2, rfl, hs2⟩, hqC, hgC⟩; have hGC : Gr g wB wC := (by first | exact hgC | exact (Gr.trans ((kp_drew _).gr g) hgC) | exact (Gr.trans ((kp_drew _).gr g) (Gr.trans ((kp_drew _).gr g) hgC)) | exact (Gr.trans ((kp_drew _).gr g) (Gr.trans ((kp_drew _).gr g) (Gr.trans ((kp_drew _).gr g) hgC)))); have hiC := hiB.draw hGC hqC; have xC := hiC.rb.cell 0 rfl; rw [← ER.out] at xC)
          | (go_at_call 37; refine (One_q (w0 := w0) (n := n + 2 + 5) (ss := [⟨#[97, 46, 100, 97, 116]⟩, ⟨#[100, 47, 98, 46, 100, 97, 116]⟩, ⟨#[99]⟩]) (by first | exact hiZ.tq | exact (hiZ.keep (kp_drew _)).tq | exact (hiZ.keep (kp_alloc _ _)).tq | exact ((hiZ.keep (kp_drew _)).keep (kp_drew _)).tq | exact ((hiZ.keep (kp_drew _)).keep (kp_alloc _ _)).tq | exact ((hiZ.keep (kp_alloc _ _)).keep (kp_drew _)).tq | exact (((hiZ.keep (kp_drew _)).keep (kp_drew _)).keep (kp_drew _)).tq | exact (((hiZ.keep (kp_drew _)).keep (kp_drew _)).keep (kp_alloc _ _)).tq | exact (((hiZ.keep (kp_drew _)).keep (kp_alloc _ _)).keep (kp_drew _)).tq | exact (((hiZ.keep (kp_alloc _ _)).keep (kp_drew _)).keep (kp_drew _)).tq) (Ps.blk (t := 9) (by first | exact Blk.new _ _ _ | exact (Blk.new _ _ _).keep (kp_drew _) | exact ((Blk.new _ _ _).keep (kp_drew _)).keep (kp_drew _)) (by have := hiZ.gl; have := hiZ.sz; simp; omega) (by decide) (by decide))).mono ?_; rintro e wB ⟨⟨sB, rfl, hsB, hmB⟩, hqB, hgB⟩; have hGB : Gr g wZ wB := (by first | exact hgB | exact (Gr.trans ((kp_drew _).gr g) hgB) | exact (Gr.trans ((kp_alloc _ _).gr g) hgB) | exact (Gr.trans ((kp_drew _).gr g) (Gr.trans ((kp_drew _).gr g) hgB)) | exact (Gr.trans ((kp_drew _).gr g) (Gr.trans ((kp_alloc _ _).gr g) hgB)) | exact (Gr.trans ((kp_alloc _ _).gr g) (Gr.trans ((kp_drew _).gr g) hgB)) | exact (Gr.trans ((kp_drew _).gr g) (Gr.trans ((kp_drew _).gr g) (Gr.trans ((kp_drew _).gr g) hgB))) | exact (Gr.trans ((kp_drew _).gr g) (Gr.trans ((kp_drew _).gr g) (Gr.trans ((kp_alloc _ _).gr g) hgB))) | exact (Gr.trans ((kp_drew _).gr g) (Gr.trans ((kp_alloc _ _).gr g) (Gr.trans ((kp_drew _).gr g) hgB))) | exact (Gr.trans ((kp_alloc _ _).gr g) (Gr.trans ((kp_drew _).gr g) (Gr.trans ((kp_drew _).gr g) hgB)))); have hiB := hiZ.draw hGB hqB; have xB := hiB.rb.cell 0 rfl; rw [← ER.out] at xB)
          | fail "no arm")
      all_goals exact ⟨rfl, rfl, _, _, _, hiD.less (by omega), hrD, (fun b hb => by have h1 := hfD b hb; (try simp at h1); have h2 := hiC.sz; omega), (HE.out.ins HKK.out (f := (bs sB, bs s2)) ⟨(dats_path sB (hmB (by simp))).1, by show (bs s2).length ≤ _; rw [bs_len]; omega⟩), rfl⟩
    · intro a' w' hR
      obtain ⟨r1, r2, X, v, gs, r3, r4, r5, r6, r7⟩ := hR
      have HR := Lib.hid (FIN.out a' w' X v gs r1 r2 r3 r4 r5 r6 r7)
      clear r1 r2 r3 r4 r5 r6 r7
      go_wp2_with fail
      exact HR.out
  by_cases hr1 : r = 1
  ·
    have q0 : ((r : Int) == 0) = false := beq_eq_false_iff_ne.2 (by omega)
    have q1 : ((r : Int) == 1) = true := beq_iff_eq.2 (by omega)
    have hiZ : EdI w0 w wZ g (n + 2 + 1) v0 fs := HI.out.less (by omega)
    have xZ := hiZ.rb.cell 0 rfl; rw [← ER.out] at xZ
    have xZa : ∀ o, (wZ.alloc o).cell? ⟨rb, 0, none⟩ = some v0 := fun o => cell_kept xZ (kp_alloc _ _)
    have xZb : ∀ o, (wZ.drew.alloc o).cell? ⟨rb, 0, none⟩ = some v0 := fun o => cell_kept xZ (Kp.trans (kp_drew _) (kp_alloc _ _))
    have xZc : ∀ o, (wZ.alloc o).drew.cell? ⟨rb, 0, none⟩ = some v0 := fun o => cell_kept xZ (Kp.trans (kp_alloc _ _) (kp_drew _))
    go_wp2_with fail
    refine join0 (fun a' w' => a'.defers = [] ∧ a'.tmps.getD 4 undef = .pointer (some ⟨ob, 0, none⟩) ∧ ∃ X v gs, EdI w0 w X g n v0 fs ∧ Rw X v gs ∧ (∀ b, v.ownBlock = some b → w.heap.size + 2 ≤ b) ∧ Eds (kk + 1) gs ∧ w' = X.setCell ⟨ob, 0, none⟩ v) ?_ ?_
    · go_region_with
        (first
          | (go_at_call 55; refine (remove_st (p := sB) (fs := fs) (by first | exact hiB.rw | exact (hiB.keep (kp_drew _)).rw | exact ((hiB.keep (kp_drew _)).keep (kp_drew _)).rw | exact (((hiB.keep (kp_drew _)).keep (kp_drew _)).keep (kp_drew _)).rw) HLEN.out).mono ?_; rintro e wD ⟨v', rfl, hrD, hfD, hkD⟩; obtain ⟨aD, lD, cD, hvD⟩ := hrD.form; subst hvD; have hkC : Kp wB wD := (by first | exact hkD | exact (Kp.trans (kp_drew _) hkD) | exact (Kp.trans (kp_drew _) (Kp.trans (kp_drew _) hkD)) | exact (Kp.trans (kp_drew _) (Kp.trans (kp_drew _) (Kp.trans (kp_drew _) hkD)))); have hiD := hiB.keep hkC; have oD := hiD.ob.cell 0 rfl; have ofD := hiD.ob.free 0; rw [← EO.out] at oD ofD)
          | (go_at_call 37; refine (One_q (w0 := w0) (n := n + 2) (ss := [⟨#[97, 46, 100, 97, 116]⟩, ⟨#[100, 47, 98, 46, 100, 97, 116]⟩, ⟨#[99]⟩, ⟨#[97, 46, 115, 114, 99]⟩, ⟨#[98, 46, 115, 114, 99]⟩]) (by first | exact hiZ.tq | exact (hiZ.keep (kp_drew _)).tq | exact (hiZ.keep (kp_alloc _ _)).tq | exact ((hiZ.keep (kp_drew _)).keep (kp_drew _)).tq | exact ((hiZ.keep (kp_drew _)).keep (kp_alloc _ _)).tq | exact ((hiZ.keep (kp_alloc _ _)).keep (kp_drew _)).tq | exact (((hiZ.keep (kp_drew _)).keep (kp_drew _)).keep (kp_drew _)).tq | exact (((hiZ.keep (kp_drew _)).keep (kp_drew _)).keep (kp_alloc _ _)).tq | exact (((hiZ.keep (kp_drew _)).keep (kp_alloc _ _)).keep (kp_drew _)).tq | exact (((hiZ.keep (kp_alloc _ _)).keep (kp_drew _)).keep (kp_drew _)).tq) (Ps.blk (t := 9) (by first | exact Blk.new _ _ _ | exact (Blk.new _ _ _).keep (kp_drew _) | exact ((Blk.new _ _ _).keep (kp_drew _)).keep (kp_drew _)) (by have := hiZ.gl; have := hiZ.sz; simp; omega) (by decide) (by decide))).mono ?_; rintro e wB ⟨⟨sB, rfl, hsB, hmB⟩, hqB, hgB⟩; have hGB : Gr g wZ wB := (by first | exact hgB | exact (Gr.trans ((kp_drew _).gr g) hgB) | exact (Gr.trans ((kp_alloc _ _).gr g) hgB) | exact (Gr.trans ((kp_drew _).gr g) (Gr.trans ((kp_drew _).gr g) hgB)) | exact (Gr.trans ((kp_drew _).gr g) (Gr.trans ((kp_alloc _ _).gr g) hgB)) | exact (Gr.trans ((kp_alloc _ _).gr g) (Gr.trans ((kp_drew _).gr g) hgB)) | exact (Gr.trans ((kp_drew _).gr g) (Gr.trans ((kp_drew _).gr g) (Gr.trans ((kp_drew _).gr g) hgB))) | exact (Gr.trans ((kp_drew _).gr g) (Gr.trans ((kp_drew _).gr g) (Gr.trans ((kp_alloc _ _).gr g) hgB))) | exact (Gr.trans ((kp_drew _).gr g) (Gr.trans ((kp_alloc _ _).gr g) (Gr.trans ((kp_drew _).gr g) hgB))) | exact (Gr.trans ((kp_alloc _ _).gr g) (Gr.trans ((kp_drew _).gr g) (Gr.trans ((kp_drew _).gr g) hgB)))); have hiB := hiZ.draw hGB hqB; have xB := hiB.rb.cell 0 rfl; rw [← ER.out] at xB)
          | fail "no arm")
      all_goals exact ⟨rfl, rfl, _, _, _, hiD.less (by omega), hrD, (fun b hb => by have h1 := hfD b hb; (try simp at h1); have h2 := hiB.sz; omega), (HE.out.wo (bs sB)).up, rfl⟩
    · intro a' w' hR
      obtain ⟨r1, r2, X, v, gs, r3, r4, r5, r6, r7⟩ := hR
      have HR := Lib.hid (FIN.out a' w' X v gs r1 r2 r3 r4 r5 r6 r7)
      clear r1 r2 r3 r4 r5 r6 r7
      go_wp2_with fail
      exact HR.out
  by_cases hr2 : r = 2
  ·
    have q0 : ((r : Int) == 0) = false := beq_eq_false_iff_ne.2 (by omega)
    have q1 : ((r : Int) == 1) = false := beq_eq_false_iff_ne.2 (by omega)
    have q2 : ((r : Int) == 2) = true := beq_iff_eq.2 (by omega)
    have hiZ : EdI w0 w wZ g (n + 1302 + 1) v0 fs := HI.out.less (by omega)
    have xZ := hiZ.rb.cell 0 rfl; rw [← ER.out] at xZ
    go_wp2_with fail
    refine join0 (fun a' w' => a'.defers = [] ∧ a'.tmps.getD 4 undef = .pointer (some ⟨ob, 0, none⟩) ∧ ∃ X v gs, EdI w0 w X g n v0 fs ∧ Rw X v gs ∧ (∀ b, v.ownBlock = some b → w.heap.size + 2 ≤ b) ∧ Eds (kk + 1) gs ∧ w' = X.setCell ⟨ob, 0, none⟩ v) ?_ ?_
    · go_region_with
        (first
          | (go_at_call 48; refine (insert_st (p := p) (s := s2) (fs := fs) (by first | exact hiC.rw | exact (hiC.keep (kp_drew _)).rw | exact ((hiC.keep (kp_drew _)).keep (kp_drew _)).rw | exact (((hiC.keep (kp_drew _)).keep (kp_drew _)).keep (kp_drew _)).rw) HP.out.2.1 (by omega) HLEN.out).mono ?_; rintro e wD ⟨v', rfl, hrD, hfD, hkD⟩; obtain ⟨aD, lD, cD, hvD⟩ := hrD.form; subst hvD; have hkC : Kp wC wD := (by first | exact hkD | exact (Kp.trans (kp_drew _) hkD) | exact (Kp.trans (kp_drew _) (Kp.trans (kp_drew _) hkD)) | exact (Kp.trans (kp_drew _) (Kp.trans (kp_drew _) (Kp.trans (kp_drew _) hkD)))); have hiD := hiC.keep hkC; have oD := hiD.ob.cell 0 rfl; have ofD := hiD.ob.free 0; rw [← EO.out] at oD ofD)
          | (go_at_call 49; refine (Source_s (w0 := w0) (n := n + 2) (by first | exact hiB.tq | exact (hiB.keep (kp_drew _)).tq | exact ((hiB.keep (kp_drew _)).keep (kp_drew _)).tq | exact (((hiB.keep (kp_drew _)).keep (kp_drew _)).keep (kp_drew _)).tq) (by omega)).mono ?_; rintro e wC ⟨⟨s2, rfl, hs2⟩, hqC, hgC⟩; have hGC : Gr g wB wC := (by first | exact hgC | exact (Gr.trans ((kp_drew _).gr g) hgC) | exact (Gr.trans ((kp_drew _).gr g) (Gr.trans ((kp_drew _).gr g) hgC)) | exact (Gr.trans ((kp_drew _).gr g) (Gr.trans ((kp_drew _).gr g) (Gr.trans ((kp_drew _).gr g) hgC)))); have hiC := hiB.draw hGC hqC; have xC := hiC.rb.cell 0 rfl; rw [← ER.out] at xC)
          | (go_at_call 37; refine (One_q (w0 := w0) (n := n + 2 + 1300) (ss := [⟨#[112]⟩, ⟨#[113]⟩, ⟨#[115]⟩]) (by first | exact hiA.tq | exact (hiA.keep (kp_drew _)).tq | exact ((hiA.keep (kp_drew _)).keep (kp_drew _)).tq | exact (((hiA.keep (kp_drew _)).keep (kp_drew _)).keep (kp_drew _)).tq) (by first | exact hpA | exact hpA.gr ((kp_drew _).gr g) | exact (hpA.gr ((kp_drew _).gr g)).gr ((kp_drew _).gr g))).mono ?_; rintro e wB ⟨⟨sB, rfl, hsB, hmB⟩, hqB, hgB⟩; have hGB : Gr g wA wB := (by first | exact hgB | exact (Gr.trans ((kp_drew _).gr g) hgB) | exact (Gr.trans ((kp_drew _).gr g) (Gr.trans ((kp_drew _).gr g) hgB)) | exact (Gr.trans ((kp_drew _).gr g) (Gr.trans ((kp_drew _).gr g) (Gr.trans ((kp_drew _).gr g) hgB)))); have hiB := hiA.draw hGB hqB; have xB := hiB.rb.cell 0 rfl; rw [← ER.out] at xB)
          | (go_at_call 50; refine (HPK.out _ (by first | exact hiZ.gr | exact (hiZ.keep (kp_drew _)).gr | exact ((hiZ.keep (kp_drew _)).keep (kp_drew _)).gr | exact (((hiZ.keep (kp_drew _)).keep (kp_drew _)).keep (kp_drew _)).gr)).mono ?_; rintro e wA ⟨vA, rfl, hpA, hkA⟩; obtain ⟨aoA, capA, hvA, -, -⟩ := hpA.ex; subst hvA; have hkA2 : Kp wZ wA := (by first | exact hkA | exact (Kp.trans (kp_drew _) hkA) | exact (Kp.trans (kp_drew _) (Kp.trans (kp_drew _) hkA)) | exact (Kp.trans (kp_drew _) (Kp.trans (kp_drew _) (Kp.trans (kp_drew _) hkA)))); have hiA := hiZ.keep hkA2; have xA := hiA.rb.cell 0 rfl; rw [← ER.out] at xA)
          | fail "no arm")
      all_goals exact ⟨rfl, rfl, _, _, _, hiD.less (by omega), hrD, (fun b hb => by have h1 := hfD b hb; (try simp at h1); have h2 := hiC.sz; omega), (HE.out.ins HKK.out (f := (bs p, bs s2)) ⟨HP.out.1, by show (bs s2).length ≤ _; rw [bs_len]; omega⟩), rfl⟩
    · intro a' w' hR
      obtain ⟨r1, r2, X, v, gs, r3, r4, r5, r6, r7⟩ := hR
      have HR := Lib.hid (FIN.out a' w' X v gs r1 r2 r3 r4 r5 r6 r7)
      clear r1 r2 r3 r4 r5 r6 r7
      go_wp2_with fail
      exact HR.out
  by_cases hr3 : r = 3
  ·
    have q0 : ((r : Int) == 0) = false := beq_eq_false_iff_ne.2 (by omega)
    have q1 : ((r : Int) == 1) = false := beq_eq_false_iff_ne.2 (by omega)
    have q2 : ((r : Int) == 2) = false := beq_eq_false_iff_ne.2 (by omega)
    have q3 : ((r : Int) == 3) = true := beq_iff_eq.2 (by omega)
    have HI0 := Lib.hid (EdI.cells HI.out)
    have x0 := HI0.out; rw [← ER.out] at x0
    rw [HV.out] at x0
    go_wp2_with fail
    clear x0 HI0
    go_loopw [52] (fun i wr => ∃ (j : Nat), i = .int .i64 j ∧ j ≤ nf ∧ EdI w0 w wr g (n + 1303) v0 fs) (fun i _ => nf - (intOf i).toNat)
    case atStart => exact ⟨0, rfl, Nat.zero_le _, HI.out.less (by omega)⟩
    case round =>
      obtain ⟨j, rfl, hj, hi⟩ := hrel
      rename World => wx
      have HX := Lib.hid hi
      clear hi
      by_cases hjn : j < nf
      · obtain ⟨x, hx⟩ : ∃ x, fs[j]? = some x := ⟨_, List.getElem?_eq_getElem (by have := HN.out; omega)⟩
        obtain ⟨b, off, hao, hc⟩ := HRW.out wx HX.out.rw (by omega)
        subst hao
        obtain ⟨c0, c1⟩ := hc j x hx
        obtain ⟨T1, hT1⟩ : ∃ S, S = st x.1 := ⟨_, rfl⟩
        obtain ⟨T2, hT2⟩ : ∃ S, S = st x.2 := ⟨_, rfl⟩
        rw [← hT1] at c0
        rw [← hT2] at c1
        have HT2 : Hid (T2.size ≤ 5200 + 1100 * kk) := Lib.hid (by rw [hT2, st_size]; exact HE.out.sm x (List.mem_of_getElem? hx))
        obtain ⟨eq, heq⟩ : ∃ e, e = (T1.toList == p.toList) := ⟨_, rfl⟩
        have hq := heq.symm
        obtain ⟨wZ, hWA⟩ : ∃ W, W = wx.alloc (.cells #[.string T1, .string T2] 53) := ⟨_, rfl⟩
        have HI2 : Hid (EdI w0 w wZ g (n + 1303) v0 fs) := Lib.hid (by rw [hWA]; exact HX.out.keep (kp_alloc _ _))
        obtain ⟨fb, hfb⟩ : ∃ b, b = wx.heap.size := ⟨_, rfl⟩
        have FB : Hid (Blk wZ fb 53 #[.string T1, .string T2]) := Lib.hid (by rw [hWA, hfb]; exact Blk.new _ _ _)
        have FNE : Hid (fb ≠ g) := Lib.hid (by have := HX.out.gl; have := HX.out.sz; omega)
        have HWA := Lib.hid hWA; have HFB := Lib.hid hfb
        have f0 := FB.out.cell 0 rfl; have f1 := FB.out.cell 1 rfl
        rw [HWA.out, HFB.out] at f0 f1
        clear hc hx hT1 hT2 heq hWA hfb HI HX
        have HI := HI2
        cases eq
        · go_wp2_with fail
          rw [← HWA.out]
          go_roundw
          case rel => exact ⟨j + 1, by go_num, by omega, HI.out⟩
          case measure => simp [intOf]; omega
        ·
          have HLENW : Hid ((woL (bs p) fs).length ≤ 1000) := Lib.hid (Nat.le_trans (List.length_filter_le _ _) HLEN.out)
          have rz := HI.out.rb.cell 0 rfl
          rw [← ER.out, HWA.out] at rz
          go_wp2_with fail
          rw [← HWA.out, ← HFB.out]
          clear f0 f1 rz c0 c1
          have hiZ := HI.out
          have fbZ := FB.out; have f1Z := fbZ.cell 1 rfl
          have xZ := hiZ.rb.cell 0 rfl; rw [← ER.out] at xZ
          refine join0 (fun a' w' => a'.defers = [] ∧ a'.tmps.getD 4 undef = .pointer (some ⟨ob, 0, none⟩) ∧ ∃ X v gs, EdI w0 w X g n v0 fs ∧ Rw X v gs ∧ (∀ b, v.ownBlock = some b → w.heap.size + 2 ≤ b) ∧ Eds (kk + 1) gs ∧ w' = X.setCell ⟨ob, 0, none⟩ v) ?_ ?_
          · go_region_with
              (first
                | (go_at_call 48; refine (insert_st (p := S2) (s := T2) (fs := (woL (bs p) fs)) (by first | exact hrB | exact (hrB.keep (kp_drew _)) | exact ((hrB.keep (kp_drew _)).keep (kp_drew _)) | exact (((hrB.keep (kp_drew _)).keep (kp_drew _)).keep (kp_drew _))) hPz.2 (by have := HT2.out; have := HKK.out; omega) HLENW.out).mono ?_; rintro e wD ⟨v', rfl, hrD, hfD, hkD⟩; obtain ⟨aD, lD, cD, hvD⟩ := hrD.form; subst hvD; have hkC : Kp wB wD := (by first | exact hkD | exact (Kp.trans (kp_drew _) hkD) | exact (Kp.trans (kp_drew _) (Kp.trans (kp_drew _) hkD)) | exact (Kp.trans (kp_drew _) (Kp.trans (kp_drew _) (Kp.trans (kp_drew _) hkD)))); have hiD := hiB.keep hkC; have oD := hiD.ob.cell 0 rfl; have ofD := hiD.ob.free 0; rw [← EO.out] at oD ofD)
                | (go_at_call 56; refine (hDg _).mono ?_; rintro e wE ⟨rfl, rfl⟩)
                | (go_at_call 22; refine (Next_q (w0 := w0) (n := n + 1302) (by first | exact hiA.tq | exact (hiA.keep (kp_drew _)).tq | exact ((hiA.keep (kp_drew _)).keep (kp_drew _)).tq | exact (((hiA.keep (kp_drew _)).keep (kp_drew _)).keep (kp_drew _)).tq) 3 (by omega) (by omega)).mono ?_; rintro e wB ⟨⟨r2, hr2, rfl⟩, hqB, hgB⟩; have hGB : Gr g wA wB := (by first | exact hgB | exact (Gr.trans ((kp_drew _).gr g) hgB) | exact (Gr.trans ((kp_drew _).gr g) (Gr.trans ((kp_drew _).gr g) hgB)) | exact (Gr.trans ((kp_drew _).gr g) (Gr.trans ((kp_drew _).gr g) (Gr.trans ((kp_drew _).gr g) hgB)))); have hiB := hiA.draw hGB hqB; have hrB := hrA.gr hGB hnA; have fbB := fbA.gr hGB FNE.out; have f1B := fbB.cell 1 rfl; obtain ⟨D, S1, S2, hDg, hA1, hA2, hPz⟩ := zpath hr2)
                | (go_at_call 55; refine (remove_st (p := p) (fs := fs) (by first | exact hiZ.rw | exact (hiZ.keep (kp_drew _)).rw | exact ((hiZ.keep (kp_drew _)).keep (kp_drew _)).rw | exact (((hiZ.keep (kp_drew _)).keep (kp_drew _)).keep (kp_drew _)).rw) HLEN.out).mono ?_; rintro e wA ⟨v1, rfl, hrA, hfA, hkA⟩; obtain ⟨a1, l1, c1', hv1⟩ := hrA.form; subst hv1; have hkA2 : Kp wZ wA := (by first | exact hkA | exact (Kp.trans (kp_drew _) hkA) | exact (Kp.trans (kp_drew _) (Kp.trans (kp_drew _) hkA)) | exact (Kp.trans (kp_drew _) (Kp.trans (kp_drew _) (Kp.trans (kp_drew _) hkA)))); have hiA := hiZ.keep hkA2; have fbA := fbZ.keep hkA2; have f1A := fbA.cell 1 rfl; have hnA : ∀ b, (Value.slice a1 l1 c1').ownBlock = some b → b ≠ g := (fun b hb => by have h1 := hfA b hb; (try simp at h1); have := hiZ.gl; have := hiZ.sz; omega))
                | fail "no arm")
            all_goals exact ⟨rfl, rfl, _, _, _, hiD.less (by omega), hrD, (fun b hb => by have h1 := hfD b hb; (try simp at h1); have h2 := hiB.sz; omega), ((HE.out.wo (bs p)).ins HKK.out (f := (bs S2, bs T2)) ⟨hPz.1, by show (bs T2).length ≤ _; rw [bs_len]; have := HT2.out; omega⟩), rfl⟩
          · intro a' w' hR
            obtain ⟨r1, r2, X, v, gs, r3, r4, r5, r6, r7⟩ := hR
            have HR := Lib.hid (FIN.out a' w' X v gs r1 r2 r3 r4 r5 r6 r7)
            clear r1 r2 r3 r4 r5 r6 r7
            go_wp2_with fail
            exact HR.out
      · have ej : nf = j := by omega
        subst ej
        have HI := HX
        go_wp2_with fail
        exact END.out _ _ _ _ _ _ _ _ _ _ _ _ _ _ _ _ _ _ _ _ _ _ _ _ _ _ _ _ _ _ _ _ _ _ _ _ _ _ _ _ _ _ _ _ _ _ _ _ _ _ _ _ _ _ _ _ _ _ _ _ _ _ _ _ _ _ _ _ _ _ _ _ _ _ _ _ _ _ _ _ _ _ _ _ (HI.out.less (by omega))
  by_cases hr4 : r = 4
  ·
    have q0 : ((r : Int) == 0) = false := beq_eq_false_iff_ne.2 (by omega)
    have q1 : ((r : Int) == 1) = false := beq_eq_false_iff_ne.2 (by omega)
    have q2 : ((r : Int) == 2) = false := beq_eq_false_iff_ne.2 (by omega)
    have q3 : ((r : Int) == 3) = false := beq_eq_false_iff_ne.2 (by omega)
    have q4 : ((r : Int) == 4) = true := beq_iff_eq.2 (by omega)
    have HI0 := Lib.hid (EdI.cells HI.out)
    have x0 := HI0.out; rw [← ER.out] at x0
    rw [HV.out] at x0
    go_wp2_with fail
    clear x0 HI0
    go_loopw [78] (fun i wr => ∃ (j : Nat), i = .int .i64 j ∧ j ≤ nf ∧ EdI w0 w wr g (n + 1303) v0 fs) (fun i _ => nf - (intOf i).toNat)
    case atStart => exact ⟨0, rfl, Nat.zero_le _, HI.out.less (by omega)⟩
    case round =>
      obtain ⟨j, rfl, hj, hi⟩ := hrel
      rename World => wx
      have HX := Lib.hid hi
      clear hi
      by_cases hjn : j < nf
      · obtain ⟨x, hx⟩ : ∃ x, fs[j]? = some x := ⟨_, List.getElem?_eq_getElem (by have := HN.out; omega)⟩
        obtain ⟨b, off, hao, hc⟩ := HRW.out wx HX.out.rw (by omega)
        subst hao
        obtain ⟨c0, c1⟩ := hc j x hx
        obtain ⟨T1, hT1⟩ : ∃ S, S = st x.1 := ⟨_, rfl⟩
        obtain ⟨T2, hT2⟩ : ∃ S, S = st x.2 := ⟨_, rfl⟩
        rw [← hT1] at c0
        rw [← hT2] at c1
        have HT2 : Hid (T2.size ≤ 5200 + 1100 * kk) := Lib.hid (by rw [hT2, st_size]; exact HE.out.sm x (List.mem_of_getElem? hx))
        obtain ⟨eq, heq⟩ : ∃ e, e = (T1.toList == p.toList) := ⟨_, rfl⟩
        have hq := heq.symm
        obtain ⟨wZ, hWA⟩ : ∃ W, W = wx.alloc (.cells #[.string T1, .string T2] 53) := ⟨_, rfl⟩
        have HI2 : Hid (EdI w0 w wZ g (n + 1303) v0 fs) := Lib.hid (by rw [hWA]; exact HX.out.keep (kp_alloc _ _))
        obtain ⟨fb, hfb⟩ : ∃ b, b = wx.heap.size := ⟨_, rfl⟩
        have FB : Hid (Blk wZ fb 53 #[.string T1, .string T2]) := Lib.hid (by rw [hWA, hfb]; exact Blk.new _ _ _)
        have FNE : Hid (fb ≠ g) := Lib.hid (by have := HX.out.gl; have := HX.out.sz; omega)
        have HWA := Lib.hid hWA; have HFB := Lib.hid hfb
        have f0 := FB.out.cell 0 rfl; have f1 := FB.out.cell 1 rfl
        rw [HWA.out, HFB.out] at f0 f1
        clear hc hx hT1 hT2 heq hWA hfb HI HX
        have HI := HI2
        cases eq
        · go_wp2_with fail
          rw [← HWA.out]
          go_roundw
          case rel => exact ⟨j + 1, by go_num, by omega, HI.out⟩
          case measure => simp [intOf]; omega
        ·
          have rz := HI.out.rb.cell 0 rfl
          rw [← ER.out, HWA.out] at rz
          go_wp2_with fail
          rw [← HWA.out, ← HFB.out]
          clear f0 f1 rz c0 c1
          have hiZ := HI.out
          have fbZ := FB.out; have f1Z := fbZ.cell 1 rfl
          have xZ := hiZ.rb.cell 0 rfl; rw [← ER.out] at xZ
          refine join0 (fun a' w' => a'.defers = [] ∧ a'.tmps.getD 4 undef = .pointer (some ⟨ob, 0, none⟩) ∧ ∃ X v gs, EdI w0 w X g n v0 fs ∧ Rw X v gs ∧ (∀ b, v.ownBlock = some b → w.heap.size + 2 ≤ b) ∧ Eds (kk + 1) gs ∧ w' = X.setCell ⟨ob, 0, none⟩ v) ?_ ?_
          · go_region_with
              (first
                | (go_at_call 48; refine (insert_st (p := p) (s := S3) (fs := fs) (by first | exact hiB.rw | exact (hiB.keep (kp_drew _)).rw | exact ((hiB.keep (kp_drew _)).keep (kp_drew _)).rw | exact (((hiB.keep (kp_drew _)).keep (kp_drew _)).keep (kp_drew _)).rw) HP.out.2.1 (by have := HKK.out; omega) HLEN.out).mono ?_; rintro e wD ⟨v', rfl, hrD, hfD, hkD⟩; obtain ⟨aD, lD, cD, hvD⟩ := hrD.form; subst hvD; have hkC : Kp wB wD := (by first | exact hkD | exact (Kp.trans (kp_drew _) hkD) | exact (Kp.trans (kp_drew _) (Kp.trans (kp_drew _) hkD)) | exact (Kp.trans (kp_drew _) (Kp.trans (kp_drew _) (Kp.trans (kp_drew _) hkD)))); have hiD := hiB.keep hkC; have oD := hiD.ob.cell 0 rfl; have ofD := hiD.ob.free 0; rw [← EO.out] at oD ofD)
                | (go_at_call 56; refine (Digits_k 1 r2 (by omega) (by omega) _).mono ?_; rintro e wE ⟨⟨D, rfl, hD⟩, rfl⟩; obtain ⟨S1, hS1, hA1⟩ := addB ⟨#[35, 32]⟩ D (m := 2) (by decide) hD (by omega); obtain ⟨S2, hS2, hA2⟩ := addB S1 ⟨#[10, 32, 32]⟩ hS1 (n := 3) (by decide) (by omega); obtain ⟨S3, hS3, hA3⟩ := addB S2 T2 hS2 HT2.out (by have := HKK.out; omega))
                | (go_at_call 22; refine (Next_q (w0 := w0) (n := n + 1302) (by first | exact hiZ.tq | exact (hiZ.keep (kp_drew _)).tq | exact ((hiZ.keep (kp_drew _)).keep (kp_drew _)).tq | exact (((hiZ.keep (kp_drew _)).keep (kp_drew _)).keep (kp_drew _)).tq) 100 (by omega) (by omega)).mono ?_; rintro e wB ⟨⟨r2, hr2, rfl⟩, hqB, hgB⟩; have hGB : Gr g wZ wB := (by first | exact hgB | exact (Gr.trans ((kp_drew _).gr g) hgB) | exact (Gr.trans ((kp_drew _).gr g) (Gr.trans ((kp_drew _).gr g) hgB)) | exact (Gr.trans ((kp_drew _).gr g) (Gr.trans ((kp_drew _).gr g) (Gr.trans ((kp_drew _).gr g) hgB)))); have hiB := hiZ.draw hGB hqB; have xB := hiB.rb.cell 0 rfl; rw [← ER.out] at xB; have fbB := fbZ.gr hGB FNE.out; have f1B := fbB.cell 1 rfl)
                | fail "no arm")
            all_goals exact ⟨rfl, rfl, _, _, _, hiD.less (by omega), hrD, (fun b hb => by have h1 := hfD b hb; (try simp at h1); have h2 := hiB.sz; omega), (HE.out.ins HKK.out (f := (bs p, bs S3)) ⟨HP.out.1, by show (bs S3).length ≤ _; rw [bs_len]; omega⟩), rfl⟩
          · intro a' w' hR
            obtain ⟨r1, r2, X, v, gs, r3, r4, r5, r6, r7⟩ := hR
            have HR := Lib.hid (FIN.out a' w' X v gs r1 r2 r3 r4 r5 r6 r7)
            clear r1 r2 r3 r4 r5 r6 r7
            go_wp2_with fail
            exact HR.out
      · have ej : nf = j := by omega
        subst ej
        have HI := HX
        go_wp2_with fail
        exact END.out _ _ _ _ _ _ _ _ _ _ _ _ _ _ _ _ _ _ _ _ _ _ _ _ _ _ _ _ _ _ _ _ _ _ _ _ _ _ _ _ _ _ _ _ _ _ _ _ _ _ _ _ _ _ _ _ _ _ _ _ _ _ _ _ _ _ _ _ _ _ _ _ _ _ _ _ _ _ _ _ _ _ _ _ (HI.out.less (by omega))
  by_cases hr5 : r = 5
  ·
    have q0 : ((r : Int) == 0) = false := beq_eq_false_iff_ne.2 (by omega)
    have q1 : ((r : Int) == 1) = false := beq_eq_false_iff_ne.2 (by omega)
    have q2 : ((r : Int) == 2) = false := beq_eq_false_iff_ne.2 (by omega)
    have q3 : ((r : Int) == 3) = false := beq_eq_false_iff_ne.2 (by omega)
    have q4 : ((r : Int) == 4) = false := beq_eq_false_iff_ne.2 (by omega)
    have q5 : ((r : Int) == 5) = true := beq_iff_eq.2 (by omega)
    have HI0 := Lib.hid (EdI.cells HI.out)
    have x0 := HI0.out; rw [← ER.out] at x0
    rw [HV.out] at x0
    go_wp2_with fail
    clear x0 HI0
    go_loopw [104] (fun i wr => ∃ (j : Nat), i = .int .i64 j ∧ j ≤ nf ∧ EdI w0 w wr g (n + 1303) v0 fs) (fun i _ => nf - (intOf i).toNat)
    case atStart => exact ⟨0, rfl, Nat.zero_le _, HI.out.less (by omega)⟩
    case round =>
      obtain ⟨j, rfl, hj, hi⟩ := hrel
      rename World => wx
      have HX := Lib.hid hi
      clear hi
      by_cases hjn : j < nf
      · obtain ⟨x, hx⟩ : ∃ x, fs[j]? = some x := ⟨_, List.getElem?_eq_getElem (by have := HN.out; omega)⟩
        obtain ⟨b, off, hao, hc⟩ := HRW.out wx HX.out.rw (by omega)
        subst hao
        obtain ⟨c0, c1⟩ := hc j x hx
        obtain ⟨T1, hT1⟩ : ∃ S, S = st x.1 := ⟨_, rfl⟩
        obtain ⟨T2, hT2⟩ : ∃ S, S = st x.2 := ⟨_, rfl⟩
        rw [← hT1] at c0
        rw [← hT2] at c1
        have HT2 : Hid (T2.size ≤ 5200 + 1100 * kk) := Lib.hid (by rw [hT2, st_size]; exact HE.out.sm x (List.mem_of_getElem? hx))
        obtain ⟨eq, heq⟩ : ∃ e, e = (T1.toList == p.toList) := ⟨_, rfl⟩
        have hq := heq.symm
        obtain ⟨wZ, hWA⟩ : ∃ W, W = wx.alloc (.cells #[.string T1, .string T2] 53) := ⟨_, rfl⟩
        have HI2 : Hid (EdI w0 w wZ g (n + 1303) v0 fs) := Lib.hid (by rw [hWA]; exact HX.out.keep (kp_alloc _ _))
        obtain ⟨fb, hfb⟩ : ∃ b, b = wx.heap.size := ⟨_, rfl⟩
        have FB : Hid (Blk wZ fb 53 #[.string T1, .string T2]) := Lib.hid (by rw [hWA, hfb]; exact Blk.new _ _ _)
        have FNE : Hid (fb ≠ g) := Lib.hid (by have := HX.out.gl; have := HX.out.sz; omega)
        have HWA := Lib.hid hWA; have HFB := Lib.hid hfb
        have f0 := FB.out.cell 0 rfl; have f1 := FB.out.cell 1 rfl
        rw [HWA.out, HFB.out] at f0 f1
        clear hc hx hT1 hT2 heq hWA hfb HI HX
        have HI := HI2
        cases eq
        · go_wp2_with fail
          rw [← HWA.out]
          go_roundw
          case rel => exact ⟨j + 1, by go_num, by omega, HI.out⟩
          case measure => simp [intOf]; omega
        ·
          have rz := HI.out.rb.cell 0 rfl
          rw [← ER.out, HWA.out] at rz
          obtain ⟨S3, hS3, hA3⟩ := addB T2 ⟨#[102, 117, 110, 99]⟩ HT2.out (n := 4) (by decide) (by have := HKK.out; omega)
          go_wp2_with fail
          rw [← HWA.out]
          refine (insert_st (p := p) (s := S3) (fs := fs) HI.out.rw HP.out.2.1 (by have := HKK.out; omega) HLEN.out).mono ?_
          rintro e wD ⟨v', rfl, hrD, hfD, hkC⟩
          obtain ⟨aD, lD, cD, hvD⟩ := hrD.form
          subst hvD
          have hiZ := HI.out
          have hiD := hiZ.keep hkC
          have oD := hiD.ob.cell 0 rfl; have ofD := hiD.ob.free 0
          rw [← EO.out] at oD ofD
          have HED := Lib.hid (HE.out.ins HKK.out (f := (bs p, bs S3)) ⟨HP.out.1, by show (bs S3).length ≤ _; rw [bs_len]; omega⟩)
          have HFN : Hid (∀ b, (Value.slice aD lD cD).ownBlock = some b → w.heap.size + 2 ≤ b) := Lib.hid (fun b hb => by have h1 := hfD b hb; (try simp at h1); have h2 := hiZ.sz; omega)
          have HRD := Lib.hid hrD; have HID := Lib.hid hiD
          go_wp2_with fail
          exact FIN.out _ _ _ _ _ rfl rfl (HID.out.less (by omega)) HRD.out HFN.out HED.out rfl
      · have ej : nf = j := by omega
        subst ej
        have HI := HX
        go_wp2_with fail
        exact END.out _ _ _ _ _ _ _ _ _ _ _ _ _ _ _ _ _ _ _ _ _ _ _ _ _ _ _ _ _ _ _ _ _ _ _ _ _ _ _ _ _ _ _ _ _ _ _ _ _ _ _ _ _ _ _ _ _ _ _ _ _ _ _ _ _ _ _ _ _ _ _ _ _ _ _ _ _ _ _ _ _ _ _ _ (HI.out.less (by omega))
  have q0 : ((r : Int) == 0) = false := beq_eq_false_iff_ne.2 (by omega)
  have q1 : ((r : Int) == 1) = false := beq_eq_false_iff_ne.2 (by omega)
  have q2 : ((r : Int) == 2) = false := beq_eq_false_iff_ne.2 (by omega)
  have q3 : ((r : Int) == 3) = false := beq_eq_false_iff_ne.2 (by omega)
  have q4 : ((r : Int) == 4) = false := beq_eq_false_iff_ne.2 (by omega)
  have q5 : ((r : Int) == 5) = false := beq_eq_false_iff_ne.2 (by omega)
  go_wp2_with fail
  exact END.out _ _ _ _ _ _ _ _ _ _ _ _ _ _ _ _ _ _ _ _ _ _ _ _ _ _ _ _ _ _ _ _ _ _ _ _ _ _ _ _ _ _ _ _ _ _ _ _ _ _ _ _ _ _ _ _ _ _ _ _ _ _ _ _ _ _ _ _ _ _ _ _ _ _ _ _ _ _ _ _ _ _ _ _ (HI.out.less (by omega))
end By
end Go.Proofs.YtfobogcccbddbaaGreatDoor
