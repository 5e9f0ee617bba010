/- Two revisions that are some edits apart. Condition: the tape has so many draws left. -/
import Derived.Test.YtfobogcccbddbaaGreatDoorFdE
namespace Go.Proofs.YtfobogcccbddbaaGreatDoor
namespace RevN
open WireN LexN
theorem Eds.most {k : Nat} {fs : List Fl} (h : Eds k fs) : ∀ {m : Nat}, k ≤ m → Eds m fs := by
  intro m hm
  exact ⟨h.chk, by have := h.len; omega, fun f hf => by have := h.sm f hf; omega⟩
end RevN
namespace By
open Go.RowKit WireN LexN RevN
set_option linter.unusedVariables false
set_option linter.unusedSimpArgs false

theorem Rw.beside2 {w w' : World} {v : Value} {fs : List Fl} {g : Nat} (h : Rw w v fs) (hg : Gr g w w') (hne : fs ≠ [] → ∀ b, v.ownBlock = some b → b ≠ g) : Rw w' v fs := by
  obtain ⟨⟨ao, cap, rfl, h1, h2, h3, h4⟩, h5, h6⟩ := h
  refine ⟨⟨ao, cap, rfl, h1, h2, ?_, h4⟩, h5, h6⟩
  rcases h3 with rfl | ⟨b, off, rfl, h3⟩
  · exact .inl rfl
  · by_cases hf : fs = []
    · exact .inl hf
    · exact .inr ⟨b, off, rfl, fun j f hj => ⟨cell_gr hg (h3 j f hj).1 (hne hf b rfl), cell_gr hg (h3 j f hj).2 (hne hf b rfl)⟩⟩
theorem Rw.old {w : World} {v : Value} {fs : List Fl} (h : Rw w v fs) (hf : fs ≠ []) : ∀ b, v.ownBlock = some b → b < w.heap.size := by
  obtain ⟨⟨ao, cap, rfl, h1, h2, h3, h4⟩, h5, h6⟩ := h
  intro b hb
  rcases h3 with rfl | ⟨b', off, rfl, h3⟩
  · exact absurd rfl hf
  · obtain ⟨f, fs', rfl⟩ := List.exists_cons_of_ne_nil hf
    have h := World.block_lt_of_cell? w _ (h3 0 f rfl).1
    have e : b' = b := Option.some.inj hb
    rw [← e]; exact h
/-- What holds while the two are made. -/
structure TwI (w0 w W : World) (g n ab bb : Nat) (va vb : Value) (fa fb : List Fl) (k : Nat) : Prop where
  b2 : Blk W w.heap.size 25 #[.slice none 0 0]
  b3 : Blk W (w.heap.size + 1) 25 #[.slice none 0 0]
  ba : Blk W ab 25 #[va]
  bb' : Blk W bb 25 #[vb]
  ra : Rw W va fa
  rb : Rw W vb fb
  oa : ∀ b, va.ownBlock = some b → w.heap.size + 2 ≤ b
  ob : ∀ b, vb.ownBlock = some b → w.heap.size + 2 ≤ b
  na : fa ≠ [] → ∀ b, va.ownBlock = some b → b ≠ bb
  ea : Eds 0 fa
  eb : Eds k fb
  tq : Tq w0 W g n
  gr : Gr g w W
  gl : g < w.heap.size
  gb : w0.heap.size ≤ w.heap.size
  sa : w.heap.size + 2 ≤ ab
  sb : ab < bb
  sz : bb < W.heap.size
theorem TwI.draw {w0 w W W' : World} {g n m ab bb k : Nat} {va vb : Value} {fa fb : List Fl} (h : TwI w0 w W g n ab bb va vb fa fb k) (hg : Gr g W W') (ht : Tq w0 W' g m) : TwI w0 w W' g m ab bb va vb fa fb k := by
  have h1 := h.gl; have h2 := hg.size; have h3 := h.sz; have h4 := h.sa; have h5 := h.sb
  exact ⟨h.b2.gr hg (by omega), h.b3.gr hg (by omega), h.ba.gr hg (by omega), h.bb'.gr hg (by omega), h.ra.gr hg (fun b hb => by have := h.oa b hb; omega), h.rb.gr hg (fun b hb => by have := h.ob b hb; omega), h.oa, h.ob, h.na, h.ea, h.eb, ht, Gr.trans h.gr hg, h.gl, h.gb, h.sa, h.sb, by omega⟩
theorem TwI.less {w0 w W : World} {g n m ab bb k : Nat} {va vb : Value} {fa fb : List Fl} (h : TwI w0 w W g n ab bb va vb fa fb k) (hm : m ≤ n) : TwI w0 w W g m ab bb va vb fa fb k := ⟨h.b2, h.b3, h.ba, h.bb', h.ra, h.rb, h.oa, h.ob, h.na, h.ea, h.eb, h.tq.less hm, h.gr, h.gl, h.gb, h.sa, h.sb, h.sz⟩
theorem TwI.keep {w0 w W W' : World} {g n ab bb k : Nat} {va vb : Value} {fa fb : List Fl} (h : TwI w0 w W g n ab bb va vb fa fb k) (hk : Kp W W') : TwI w0 w W' g n ab bb va vb fa fb k := h.draw (hk.gr g) (h.tq.keep hk)
/-- The second becomes another, in memory that is new. -/
theorem TwI.put {w0 w W W' : World} {g n m ab bb k l : Nat} {va vb vc : Value} {fa fb fc : List Fl} (h : TwI w0 w W g n ab bb va vb fa fb k) (hg : Gr g W W') (ht : Tq w0 W' g m) (hc : Rw W' vc fc) (ho : ∀ b, vc.ownBlock = some b → W.heap.size ≤ b) (he : Eds l fc) : TwI w0 w (W'.setCell ⟨bb, 0, none⟩ vc) g m ab bb va vc fa fc l := by
  have h1 := h.gl; have h2 := hg.size; have h3 := h.sz; have h4 := h.sa; have h5 := h.sb; have h6 := h.gb
  have hb := h.draw hg ht
  have o : Only bb W' (W'.setCell ⟨bb, 0, none⟩ vc) := (Only.refl _ W').set 0 _
  refine ⟨hb.b2.other o (by omega), hb.b3.other o (by omega), hb.ba.other o (by omega), hb.bb'.set 0 _, hb.ra.beside2 (Only.gr o) h.na, hc.only o (fun b hb => by have := ho b hb; omega), h.oa, fun b hb => by have := ho b hb; omega, h.na, h.ea, he, hb.tq.only o (by omega) (by omega), Gr.by hb.gr (Only.gr o) (fun r hr => by injection hr; omega), h1, h6, h4, h5, by simp; omega⟩
/-- The answer. -/
def TwoR (w0 : World) (g n : Nat) (w : World) (e : Ending) (w' : World) : Prop :=
  ∃ va vb fa fb, e = .returned (.tuple #[.agg #[va], .agg #[vb]]) ∧ (Rw w' va fa ∧ Rw w' vb fb) ∧ (Eds 4 fa ∧ Eds 4 fb) ∧ ((∀ b, va.ownBlock = some b → w.heap.size ≤ b) ∧ ∀ b, vb.ownBlock = some b → w.heap.size ≤ b) ∧ Tq w0 w' g n ∧ Gr g w w'

set_option maxRecDepth 100000 in
set_option maxHeartbeats 16000000 in
theorem two_q {w0 w : World} {g n : Nat} (ht : Tq w0 w g (n + 5300 + 1 + 4 * 1305 + 1 + 5300)) : Calls Tryz.prog 8 #[.pointer (some ⟨g, 0, none⟩)] w (TwoR w0 g n w) := by
  obtain ⟨Q, hQ⟩ : ∃ Q : Ending → World → Prop, Q = TwoR w0 g n w := ⟨_, rfl⟩
  rw [← hQ]
  obtain ⟨r2, hr2⟩ : ∃ b, b = w.heap.size := ⟨_, rfl⟩
  obtain ⟨r3, hr3⟩ : ∃ b, b = w.heap.size + 1 := ⟨_, rfl⟩
  obtain ⟨Wa, hWa⟩ : ∃ W, W = w.alloc (.cells #[.slice none 0 0] 25) := ⟨_, rfl⟩
  obtain ⟨X0, hX0⟩ : ∃ W, W = Wa.alloc (.cells #[.slice none 0 0] 25) := ⟨_, rfl⟩
  have za : Wa.heap.size = w.heap.size + 1 := by rw [hWa]; simp
  have zx : X0.heap.size = w.heap.size + 2 := by rw [hX0]; simp; omega
  have ka : Kp w Wa := by rw [hWa]; exact kp_alloc w _
  have kx : Kp Wa X0 := by rw [hX0]; exact kp_alloc Wa _
  have HKX : Hid (Kp w X0) := Lib.hid (Kp.trans ka kx)
  have B2 : Hid (Blk X0 w.heap.size 25 #[.slice none 0 0]) := Lib.hid (by
    have h : Blk Wa w.heap.size 25 #[.slice none 0 0] := by rw [hWa]; exact Blk.new _ _ _
    exact h.keep kx)
  have B3 : Hid (Blk X0 (w.heap.size + 1) 25 #[.slice none 0 0]) := Lib.hid (by rw [← za, hX0]; exact Blk.new _ _ _)
  have HX0 : Hid (X0 = (w.alloc (.cells #[.slice none 0 0] 25)).alloc (.cells #[.slice none 0 0] 25)) := Lib.hid (by rw [hX0, hWa])
  have HZX := Lib.hid zx; have E2 := Lib.hid hr2; have E3 := Lib.hid hr3
  have HGL := Lib.hid ht.lt; have HGB := Lib.hid ht.base.size
  have HRV := Lib.hid (Revision_o (n := n + 5300 + 1 + 4 * 1305 + 1) (ht.keep HKX.out))
  have FIN : Hid (∀ (a : Act) (W X : World) (ab bb : Nat) (aa : Option Addr) (la ca : Nat) (ac : Option Addr) (lc cc : Nat) (fa fb : List Fl) (k : Nat), a.defers = [] → a.tmps.getD 2 undef = .pointer (some ⟨r2, 0, none⟩) → a.tmps.getD 3 undef = .pointer (some ⟨r3, 0, none⟩) → TwI w0 w X g n ab bb (.slice aa la ca) (.slice ac lc cc) fa fb k → k ≤ 4 → W = ((X.setCell ⟨r2, 0, none⟩ (.slice aa la ca)).setCell ⟨r3, 0, none⟩ (.slice ac lc cc)).drew → bodyPost Tryz.prog Tryz.f8 Q .ret a W) := Lib.hid (by
    intro a W X ab bb aa la ca ac lc cc fa fb k h0 h2 h3 hi hk hW
    rw [E2.out] at h2 hW
    rw [E3.out] at h3 hW
    have s1 := hi.gl; have s2 := hi.gb; have s3 := hi.sa; have s4 := hi.sb; have s5 := hi.sz
    obtain ⟨Y, hY⟩ : ∃ Y, Y = X.setCell ⟨w.heap.size, 0, none⟩ (.slice aa la ca) := ⟨_, rfl⟩
    rw [← hY] at hW
    obtain ⟨Z, hZ⟩ : ∃ Z, Z = Y.setCell ⟨w.heap.size + 1, 0, none⟩ (.slice ac lc cc) := ⟨_, rfl⟩
    rw [← hZ] at hW
    have kz : Kp Z W := by rw [hW]; exact kp_drew Z
    have o1 : Only w.heap.size X Y := by rw [hY]; exact (Only.refl _ X).set 0 _
    have o2 : Only (w.heap.size + 1) Y Z := by rw [hZ]; exact (Only.refl _ Y).set 0 _
    have c2 : Blk Y w.heap.size 25 #[.slice aa la ca] := by rw [hY]; exact hi.b2.set 0 _
    have c3 : Blk Z (w.heap.size + 1) 25 #[.slice ac lc cc] := by rw [hZ]; exact (hi.b3.other o1 (by omega)).set 0 _
    have e2 := ((c2.other o2 (by omega)).keep kz).cell 0 rfl
    have e3 := (c3.keep kz).cell 0 rfl
    have h2' : a.tmps[2]?.getD undef = .pointer (some ⟨w.heap.size, 0, none⟩) := by simpa using h2
    have h3' : a.tmps[3]?.getD undef = .pointer (some ⟨w.heap.size + 1, 0, none⟩) := by simpa using h3
    refine bodyPost_ret (v := .tuple #[.agg #[.slice aa la ca], .agg #[.slice ac lc cc]]) (by simp [results, Tryz.results8, go_sem, h2', h3', e2, e3]) h0 ?_
    rw [hQ]
    have g1 : Gr g w Y := Gr.by hi.gr (Only.gr o1) (fun r hr => by injection hr; omega)
    have q1 : Rw Z (.slice aa la ca) fa := (hi.ra.only o1 (fun b hb => by have := hi.oa b hb; omega)).only o2 (fun b hb => by have := hi.oa b hb; omega)
    have q2 : Rw Z (.slice ac lc cc) fb := (hi.rb.only o1 (fun b hb => by have := hi.ob b hb; omega)).only o2 (fun b hb => by have := hi.ob b hb; omega)
    have q3 : Tq w0 Z g n := (hi.tq.only o1 (by omega) (by omega)).only o2 (by omega) (by omega)
    have g2 : Gr g w Z := Gr.by g1 (Only.gr o2) (fun r hr => by injection hr; omega)
    exact ⟨_, _, fa, fb, rfl, ⟨q1.keep kz, q2.keep kz⟩, ⟨hi.ea.most (by omega), hi.eb.most hk⟩, ⟨fun b hb => by have := hi.oa b hb; omega, fun b hb => by have := hi.ob b hb; omega⟩, q3.keep kz, Gr.trans g2 (kz.gr g)⟩)
  clear ht hQ hr2 hr3 hWa hX0 za zx ka kx
  go_enter Tryz.func8, Tryz.ntmps8
  go_wp2_with fail
  rw [← HX0.out, ← E3.out, ← E2.out]
  refine HRV.out.mono ?_
  rintro e w1 ⟨⟨va, fa, rfl, hra, hpa, hoa⟩, hq1, hg1⟩
  obtain ⟨aa, la, ca, hva⟩ := hra.form
  subst hva
  obtain ⟨ab, hab⟩ : ∃ b, b = w1.heap.size := ⟨_, rfl⟩
  obtain ⟨bb, hbb⟩ : ∃ b, b = w1.heap.size + 1 := ⟨_, rfl⟩
  obtain ⟨Y1, hY1⟩ : ∃ W, W = w1.alloc (.cells #[.slice aa la ca] 25) := ⟨_, rfl⟩
  obtain ⟨Y2, hY2⟩ : ∃ W, W = Y1.alloc (.cells #[.slice aa la ca] 25) := ⟨_, rfl⟩
  have z1 : Y1.heap.size = w1.heap.size + 1 := by rw [hY1]; simp
  have z2 : Y2.heap.size = w1.heap.size + 2 := by rw [hY2]; simp; omega
  have k1 : Kp w1 Y1 := by rw [hY1]; exact kp_alloc w1 _
  have k2 : Kp Y1 Y2 := by rw [hY2]; exact kp_alloc Y1 _
  have HI : Hid (TwI w0 w Y2 g (n + 5300 + 1 + 4 * 1305 + 1) ab bb (.slice aa la ca) (.slice aa la ca) fa fa 0) := Lib.hid (by
    have hgl := HGL.out; have hgb := HGB.out; have hz := HZX.out; have hs := hg1.size
    have hk2 := Kp.trans k1 k2
    refine ⟨(B2.out.gr hg1 (by omega)).keep hk2, (B3.out.gr hg1 (by omega)).keep hk2, ?_, ?_, hra.keep hk2, hra.keep hk2, fun b hb => by have := hoa b hb; omega, fun b hb => by have := hoa b hb; omega, fun hf b hb => by have := hra.old hf b hb; omega, hpa.eds, hpa.eds, hq1.keep hk2, Gr.trans (Gr.trans (HKX.out.gr g) hg1) (hk2.gr g), hgl, hgb, by omega, by omega, by omega⟩
    · have h : Blk Y1 w1.heap.size 25 #[.slice aa la ca] := by rw [hY1]; exact Blk.new _ _ _
      rw [hab]; exact h.keep k2
    · rw [hbb, ← z1, hY2]; exact Blk.new _ _ _)
  have HY2 : Hid (Y2 = (w1.alloc (.cells #[.slice aa la ca] 25)).alloc (.cells #[.slice aa la ca] 25)) := Lib.hid (by rw [hY2, hY1])
  have HNX := Lib.hid (Next_q (n := n + 5300 + 1 + 4 * 1305) HI.out.tq 5 (by omega) (by omega))
  have EA := Lib.hid hab; have EB := Lib.hid hbb
  clear hra hpa hoa hq1 hg1 hab hbb hY1 hY2 z1 z2 k1 k2 HRV
  go_wp2_with fail
  rw [← HY2.out, ← EB.out, ← EA.out]
  refine HNX.out.mono ?_
  rintro e w2 ⟨⟨r, hr5, rfl⟩, hq2, hg2⟩
  have HI2 := Lib.hid (HI.out.draw hg2 hq2)
  clear hq2 hg2 HNX HI HY2
  go_wp2_with fail
  go_loopw [6] (fun i wr => ∃ (j k : Nat) (ac : Option Addr) (lc cc : Nat) (fb : List Fl), i = .int .i64 j ∧ j + k ≤ 4 ∧ TwI w0 w wr g (n + 5300 + 1 + j * 1305) ab bb (.slice aa la ca) (.slice ac lc cc) fa fb k) (fun i _ => (intOf i).toNat)
  case atStart => exact ⟨r, 0, _, _, _, _, rfl, by omega, HI2.out.less (by omega)⟩
  case round =>
    obtain ⟨j, k, ac, lc, cc, fb, rfl, hjk, hi⟩ := hrel
    rename World => wx
    have HX := Lib.hid hi
    clear hi HI2
    by_cases hj0 : 0 < j
    · obtain ⟨j, rfl⟩ : ∃ i, j = i + 1 := ⟨j - 1, by omega⟩
      have HED := Lib.hid (Edit_q (n := n + 5300 + 1 + j * 1305) (HX.out.tq.less (by omega)) HX.out.rb (fun b hb => by have := HX.out.ob b hb; have := HX.out.gl; omega) HX.out.eb (by omega))
      have b0 := HX.out.bb'.cell 0 rfl
      go_wp2_with fail
      refine HED.out.mono ?_
      rintro e wd ⟨⟨vd, fd, rfl, hrd, hed, hod⟩, hqd, hgd⟩
      obtain ⟨ad, ld, cd, hvd⟩ := hrd.form
      subst hvd
      have HI3 := Lib.hid (HX.out.put hgd hqd hrd hod hed)
      have d0 := (HX.out.draw hgd hqd).bb'.cell 0 rfl; have df := (HX.out.draw hgd hqd).bb'.free 0
      clear hrd hed hod hqd hgd b0
      go_wp2_with fail
      go_roundw
      case rel => exact ⟨j, k + 1, _, _, _, _, by first | rfl | go_num, by omega, HI3.out⟩
      case measure => simp [intOf]; try omega
    · obtain rfl : j = 0 := by omega
      have HCH := Lib.hid (Chance_q (n := n + 5300) (HX.out.tq.less (by omega)) 1 6 (by omega) (by omega))
      go_wp2_with fail
      refine HCH.out.mono ?_
      rintro e w3 ⟨⟨b, rfl⟩, hq3, hg3⟩
      have HI3 := Lib.hid (HX.out.draw hg3 hq3)
      clear hq3 hg3 HCH
      cases b with
      | false =>
        go_wp2_with fail
        have HI6 := Lib.hid (HI3.out.less (m := n) (by omega))
        have a0 := HI6.out.ba.cell 0 rfl; have b0 := HI6.out.bb'.cell 0 rfl
        have u2 := HI6.out.b2.cell 0 rfl; have t2 := HI6.out.b2.free 0; have u3 := HI6.out.b3.cell 0 rfl; have t3 := HI6.out.b3.free 0
        rw [← E2.out] at u2 t2
        rw [← E3.out] at u3 t3
        have n1 : bb ≠ r2 := by have := E2.out; have := HI6.out.sa; have := HI6.out.sb; omega
        have n2 : r3 ≠ r2 := by have := E2.out; have := E3.out; omega
        go_region
        all_goals
          go_wp2_with fail
          exact FIN.out _ _ _ _ _ _ _ _ _ _ _ _ _ _ rfl rfl rfl HI6.out (by omega) rfl
      | true =>
        have HR2 := Lib.hid (Revision_o (n := n) HI3.out.tq)
        go_wp2_with fail
        refine HR2.out.mono ?_
        rintro e w4 ⟨⟨vd, fd, rfl, hrd, hpd, hod⟩, hqd, hgd⟩
        obtain ⟨ad, ld, cd, hvd⟩ := hrd.form
        subst hvd
        have HI4 := Lib.hid (HI3.out.put hgd hqd hrd hod hpd.eds)
        have d0 := (HI3.out.draw hgd hqd).bb'.cell 0 rfl; have df := (HI3.out.draw hgd hqd).bb'.free 0
        obtain ⟨W5, hW5⟩ : ∃ W, W = w4.setCell ⟨bb, 0, none⟩ (.slice ad ld cd) := ⟨_, rfl⟩
        rw [← hW5] at HI4
        have HW5 := Lib.hid hW5
        clear hW5
        clear hrd hpd hod hqd hgd HR2
        go_wp2_with fail
        rw [← HW5.out]
        have HI6 := Lib.hid (HI4.out.less (m := n) (by omega))
        have a0 := HI6.out.ba.cell 0 rfl; have b0 := HI6.out.bb'.cell 0 rfl
        have u2 := HI6.out.b2.cell 0 rfl; have t2 := HI6.out.b2.free 0; have u3 := HI6.out.b3.cell 0 rfl; have t3 := HI6.out.b3.free 0
        rw [← E2.out] at u2 t2
        rw [← E3.out] at u3 t3
        have n1 : bb ≠ r2 := by have := E2.out; have := HI6.out.sa; have := HI6.out.sb; omega
        have n2 : r3 ≠ r2 := by have := E2.out; have := E3.out; omega
        go_region
        all_goals
          go_wp2_with fail
          exact FIN.out _ _ _ _ _ _ _ _ _ _ _ _ _ _ rfl rfl rfl HI6.out (by omega) rfl
end By
end Go.Proofs.YtfobogcccbddbaaGreatDoor
