/- The maker of a revision in which something may be wrong. Condition: the tape has so many draws left. -/
import Derived.Test.YtmkijkaabcgcbaaGreatDoorSpA
import Derived.Laws.MakeOwn
namespace Go.Proofs.YtmkijkaabcgcbaaGreatDoor
namespace By
open Go.RowKit WireN LexN RevN
set_option linter.unusedVariables false
set_option linter.unusedSimpArgs false

theorem sl_made (w : World) (n : Nat) (hn : n ≤ 1000000) : Sl (w.alloc (.cells (madeCells (Value.int .u8 0).cells (n * 1)) 5)) (.slice (some ⟨w.heap.size, 0, none⟩) n n) (List.replicate n 0) := by
  refine ⟨⟨some ⟨w.heap.size, 0, none⟩, n, by simp, by simp, by unfold maxLen; omega, .inr ⟨w.heap.size, 0, rfl, fun i hi => ?_⟩, fun h => nomatch h⟩, lt_of_mem (fun x hx => by obtain rfl := List.eq_of_mem_replicate hx; decide), by simp; omega⟩
  rw [List.length_replicate] at hi
  refine (Blk.new w 5 _).cell (0 + i) ?_
  simp [madeCells, Value.cells, hi, Nat.mod_one]
set_option maxRecDepth 100000 in
set_option maxHeartbeats 16000000 in
theorem spoiled_q {w0 w : World} {g n : Nat} (ht : Tq w0 w g (n + 5310)) : Calls Tryz.prog 7 #[.pointer (some ⟨g, 0, none⟩)] w (SpoR w0 w g n) := by
  obtain ⟨Q, hQ⟩ : ∃ Q, Q = SpoR w0 w g n := ⟨_, rfl⟩
  rw [← hQ]
  obtain ⟨rb, hrb⟩ : ∃ b, b = w.heap.size := ⟨_, rfl⟩
  obtain ⟨W0, hW0⟩ : ∃ W, W = w.alloc (.cells #[.slice none 0 0] 28) := ⟨_, rfl⟩
  have k0 : Kp w W0 := by rw [hW0]; exact kp_alloc _ _
  have RB0 : Hid (Blk W0 rb 28 #[.slice none 0 0]) := Lib.hid (by rw [hW0, hrb]; exact Blk.new _ _ _)
  have HRV := Lib.hid (Revision_q (n := n + 10) ((ht.keep k0).less (by omega)))
  have HG0 : Hid (Gr g w W0) := Lib.hid (k0.gr g)
  have HGL : Hid (g < w.heap.size) := Lib.hid ht.lt
  have HGB : Hid (w0.heap.size ≤ w.heap.size) := Lib.hid ht.base.size
  have HGE : Hid (w0.heap.size ≤ g) := Lib.hid ht.ge
  have HW0 := Lib.hid hW0; have HRB := Lib.hid hrb
  have FIN : Hid (∀ (a : Act) (W X : World) (v : Value) (gs : List Fl), a.defers = [] → a.tmps.getD 2 undef = .pointer (some ⟨rb, 0, none⟩) → Blk X rb 28 #[.slice none 0 0] → Tq w0 X g n → Gr g w X → Rw X v gs → gs.length ≤ 20 → W = X.setCell ⟨rb, 0, none⟩ v → bodyPost Tryz.prog Tryz.f7 Q .ret a W) := Lib.hid (by
    intro a W X v gs h0 h2 hb ht hg hr hl hW
    have oW : Only rb X W := by rw [hW]; exact (Only.refl rb X).set 0 _
    have hbW : Blk W rb 28 #[v] := by rw [hW]; exact hb.set 0 _
    have e0 := hbW.cell 0 rfl
    have h2' : a.tmps[2]?.getD undef = .pointer (some ⟨rb, 0, none⟩) := by simpa using h2
    refine bodyPost_ret (v := .agg #[v]) (by simp [results, Tryz.results7, go_sem, h2', e0]) h0 ?_
    rw [hQ]
    have h3 := HRB.out; have h4 := HGL.out; have h5 := HGB.out
    exact ⟨⟨v, gs, rfl, by rw [hW]; exact hr.beside hb, hl⟩, ht.only oW (by omega) (by omega), Gr.by hg (Only.gr oW) (fun r hr => by injection hr; omega)⟩)
  have HMK : Hid (∀ r : Nat, r < 2 → ∃ (M : Nat) (MC : Array Value) (ZS : ByteArray), (16384 : Int) + (r : Int) = (M : Int) ∧ IntKind.i64.wrap (M : Int) = (M : Int) ∧ ZS.size ≤ maxLen ∧
      (∀ W : World, (Instr.makeSlice 42 (.int .i64 (M : Int)) (.int .i64 (M : Int))).run Tryz.prog W = .ok (.slice (some ⟨W.heap.size, 0, none⟩) M M) (W.alloc (.cells MC 5))) ∧
      (∀ W : World, (convert 42 9 (.slice (some ⟨W.heap.size, 0, none⟩) M M)).run Tryz.prog (W.alloc (.cells MC 5)) = .ok (.string ZS) (W.alloc (.cells MC 5)))) := Lib.hid (by
    intro r hr
    refine ⟨16384 + r, madeCells (Value.int .u8 0).cells ((16384 + r) * 1), st (List.replicate (16384 + r) 0), by omega, by rw [IntKind.wrap_i64]; omega, by rw [st_size, List.length_replicate]; unfold maxLen; omega, fun W => ?_, fun W => conv_str (sl_made W (16384 + r) (by omega))⟩
    obtain ⟨i0, hi, hz0, hz1, hz2⟩ := info_parts info32
    have h := run_make (P := Tryz.prog) W 42 5 i0 (.int .u8 0) Tryz.underlying42 hi hz0 .i64 .i64 ((16384 + r : Nat) : Int) ((16384 + r : Nat) : Int) (by omega) (Int.le_refl _) (by rw [hz2]; omega) (by omega)
    rw [hz1, Int.toNat_natCast] at h
    exact h)
  clear ht hQ hrb hW0 k0
  go_enter Tryz.func7, Tryz.ntmps7
  go_wp2_with fail
  rw [← HW0.out, ← HRB.out]
  refine HRV.out.mono ?_
  rintro e w1 ⟨⟨u, fs, rfl, hr, hp⟩, hq, hg⟩
  have h7 := hp.len
  obtain ⟨ua, uc, hu, huc, -, -⟩ := hr.open3
  obtain ⟨m, hm⟩ : ∃ m, m = fs.length := ⟨_, rfl⟩
  rw [← hm] at hu huc h7
  subst hu
  obtain ⟨xb, hxb⟩ : ∃ b, b = w1.heap.size := ⟨_, rfl⟩
  obtain ⟨W1, hW1⟩ : ∃ W, W = w1.alloc (.cells #[.slice ua m uc] 28) := ⟨_, rfl⟩
  have k1 : Kp w1 W1 := by rw [hW1]; exact kp_alloc _ _
  have XB1 : Hid (Blk W1 xb 28 #[.slice ua m uc]) := Lib.hid (by rw [hW1, hxb]; exact Blk.new _ _ _)
  have hrg : rb ≠ g := by have := HRB.out; have := HGL.out; omega
  have RB1 : Hid (Blk W1 rb 28 #[.slice none 0 0]) := Lib.hid ((RB0.out.gr hg hrg).keep k1)
  have HT1 : Hid (Tq w0 W1 g (n + 10)) := Lib.hid (hq.keep k1)
  have HG1 : Hid (Gr g w W1) := Lib.hid (Gr.trans (Gr.trans HG0.out hg) (k1.gr g))
  have HR1 : Hid (Rw W1 (.slice ua m uc) fs) := Lib.hid (hr.keep k1)
  have HM := Lib.hid hm; have HW1 := Lib.hid hW1; have HXB := Lib.hid hxb
  have N1 : Hid (rb < xb) := Lib.hid (by have h1 := RB0.out.lt; have h2 := hg.size; omega)
  have hucI : (m : Int) ≤ (uc : Int) := by omega
  have H7 := Lib.hid h7
  have hmI : (m : Int) ≤ 7 := by omega
  have x0 := XB1.out.cell 0 rfl; have r0 := RB1.out.cell 0 rfl; have rf := RB1.out.free 0
  rw [hW1] at x0 r0 rf
  rw [hxb] at x0
  clear hr hp hq hg hm hxb hW1 k1 hrg huc
  by_cases h0 : m = 0
  · subst h0
    go_wp2_with fail
    rw [← HW1.out]
    exact FIN.out _ _ W1 _ fs rfl rfl RB1.out (HT1.out.less (by omega)) HG1.out HR1.out (by have := HM.out; omega) rfl
  have q0 : ((m : Int) == 0) = false := beq_eq_false_iff_ne.2 (by omega)
  have H0 : Hid (0 < m) := Lib.hid (by omega)
  have HCH := Lib.hid (Chance_q (n := n + 9) (HT1.out.less (by omega)) 1 2 (by omega) (by omega))
  clear h0 r0 rf
  go_wp2_with fail
  rw [← HW1.out, ← HXB.out]
  refine HCH.out.mono ?_
  rintro e w2 ⟨⟨b, rfl⟩, hq, hg⟩
  have hrg : rb ≠ g := by have := HRB.out; have := HGL.out; omega
  have hxg : xb ≠ g := by have := HRB.out; have := HGL.out; have := N1.out; omega
  have XB2 := Lib.hid (XB1.out.gr hg hxg); have RB2 := Lib.hid (RB1.out.gr hg hrg)
  have HR2 : Hid (Rw w2 (.slice ua m uc) fs) := Lib.hid (HR1.out.drawn HT1.out hg)
  have HT2 := Lib.hid hq; have HG2 : Hid (Gr g w w2) := Lib.hid (Gr.trans HG1.out hg)
  cases b with
  | true =>
    have x0 := XB2.out.cell 0 rfl; have r0 := RB2.out.cell 0 rfl; have rf := RB2.out.free 0
    clear hq hg hrg hxg
    go_wp2_with fail
    exact FIN.out _ _ w2 _ fs rfl rfl RB2.out (HT2.out.less (by omega)) HG2.out HR2.out (by have := HM.out; have := H7.out; omega) rfl
  | false =>
    have x0 := XB2.out.cell 0 rfl
    have HXL : Hid (xb < w2.heap.size) := Lib.hid XB2.out.lt
    clear hq hg hrg hxg
    go_wp2_with (at_builtin; refine wpList_fls (w := w2) rfl (.const (.slice none 0 0)) (.tmp 17) rfl _ _ rfl rfl (OwF.start w2) HR2.out (by have := HM.out; have := H7.out; simp; omega) ?_)
    intro v4 w4 hown
    try rw [List.nil_append] at hown
    obtain ⟨bb, cap, cur, hv4, hbb, hcap, -, -⟩ := hown.blk (by have := HM.out; have := H0.out; omega)
    rw [← HM.out] at hv4 hcap
    subst hv4
    obtain ⟨W4, hW4⟩ : ∃ W, W = w4.setCell ⟨xb, 0, none⟩ (.slice (some ⟨bb, 0, none⟩) m cap) := ⟨_, rfl⟩
    have o4 : Only xb w4 W4 := by rw [hW4]; exact (Only.refl _ _).set 0 _
    have hx2 := HXL.out; have hn1 := N1.out; have hrb := HRB.out; have hgl := HGL.out; have hgb := HGB.out
    have S4 : Hid (Spo w0 w W4 g (n + 9) rb xb bb m cap fs) := Lib.hid ⟨(RB2.out.keep hown.kp).other o4 (by omega), by rw [hW4]; exact (XB2.out.keep hown.kp).set 0 _, (hown.base HT2.out.base).gr (Only.gr o4) (by omega) (fun b hb e => by simp only [Value.ownBlock, Option.some.injEq] at hb; omega), HM.out, H0.out, H7.out, (HT2.out.keep hown.kp).only o4 (by omega) (by omega), Gr.by (Gr.trans HG2.out (hown.kp.gr g)) (Only.gr o4) (fun r hr => by injection hr; omega), hgl, hgb, by omega, by omega, by omega⟩
    have p0 := (XB2.out.keep hown.kp).cell 0 rfl; have pf := (XB2.out.keep hown.kp).free 0
    have x4 := S4.out.xbk.cell 0 rfl
    have HN5 := Lib.hid (Next_q S4.out.tq m (by have := H0.out; omega) (by have := H7.out; omega))
    have HW4 := Lib.hid hW4
    rw [hW4] at x4
    have hcapI : (m : Int) ≤ (cap : Int) := by omega
    clear hown hbb hW4 o4 hx2 hn1 hrb hgl hgb x0 hcap
    go_wp2_with fail
    rw [← HW4.out]
    refine HN5.out.mono ?_
    rintro e w5 ⟨⟨k, hk, rfl⟩, hq5, hg5⟩
    have S5 : Hid (Spo w0 w w5 g (n + 8) rb xb bb m cap fs) := Lib.hid (S4.out.draw hg5 hq5)
    have HN6 := Lib.hid (Next_q S5.out.tq 5 (by omega) (by omega))
    have HK := Lib.hid hk
    clear hk hq5 hg5 p0 pf x4
    go_wp2_with fail
    refine HN6.out.mono ?_
    rintro e w6 ⟨⟨z, hz, rfl⟩, hq6, hg6⟩
    have S6 : Hid (Spo w0 w w6 g (n + 7) rb xb bb m cap fs) := Lib.hid (S5.out.draw hg6 hq6)
    obtain ⟨f, hf⟩ : ∃ f, fs[k]? = some f := ⟨_, List.getElem?_eq_getElem (by have := HM.out; have := HK.out; omega)⟩
    have HF := Lib.hid hf
    have hkI : (k : Int) < (m : Int) := by have := HK.out; omega
    have hz5 : z = 0 ∨ z = 1 ∨ z = 2 ∨ z = 3 ∨ z = 4 := by omega
    clear hz hq6 hg6 hf
    rcases hz5 with rfl | rfl | rfl | rfl | rfl
    · -- another path
      have x6 := S6.out.xbk.cell 0 rfl
      have S6b := Lib.hid (S6.out.less (k := n + 5 + 1) (by omega))
      go_wp2_with fail
      go_region_held3 (fun w' => w'.cell? ⟨xb, 0, none⟩ = some (.slice (some ⟨bb, 0, none⟩) m cap))
        (first
          | exact x6
          | exact sX _ _
          | exact xB
          | exact cell_kept x6 (kp_drew _)
          | exact cell_kept x6 (Kp.trans (kp_drew _) (kp_alloc _ _))
          | exact cell_kept x6 (Kp.trans (kp_alloc _ _) (kp_drew _))
          | fail "no keep")
        (first
          | (go_at_call 12; refine (One_q (w0 := w0) (n := n + 5) (ss := [⟨#[]⟩, ⟨#[65]⟩, ⟨#[97, 47, 47, 98]⟩, ⟨#[122, 122]⟩, ⟨#[97, 46, 100, 97, 116]⟩]) (by first | exact S6b.out.tq.keep (Kp.trans (kp_drew _) (kp_alloc _ _)) | exact S6b.out.tq.keep (Kp.trans (kp_alloc _ _) (kp_drew _))) (Ps.blk (t := 9) (by first | exact Blk.new _ _ _ | exact (Blk.new _ _ _).keep (kp_drew _)) (by have := S6.out.gl; have := S6.out.gr.size; simp; omega) (by decide) (by decide))).mono ?_; rintro e wB ⟨⟨s, rfl, hs, -⟩, hqB, hgB⟩; have hgB2 : Gr g w6 wB := (by first | exact Gr.trans ((Kp.trans (kp_drew _) (kp_alloc _ _)).gr g) hgB | exact Gr.trans ((Kp.trans (kp_alloc _ _) (kp_drew _)).gr g) hgB); have sB := S6b.out.draw hgB2 hqB; have xB := sB.xbk.cell 0 rfl; obtain ⟨cB, cB2, fB, fB2⟩ := sB.cells HF.out; have sX := sB.sto)
          | fail "no arm")
      all_goals
        have SB := Lib.hid sB; have HS := Lib.hid hs
        obtain ⟨W7, hW7⟩ : ∃ W, W = wB.setCell ⟨bb, k * 2, none⟩ (.string s) := ⟨_, rfl⟩
        have o7 : Only bb wB W7 := by rw [hW7]; exact (Only.refl _ _).set _ _
        have HR7 : Hid (Rw W7 (.slice (some ⟨bb, 0, none⟩) m cap) (fs.set k (bs s, f.2))) := Lib.hid (by rw [hW7]; exact (SB.out.own.put SB.out.len SB.out.pos k f HF.out s (by unfold maxLen; omega)).1)
        have T7 := Lib.hid (SB.out.stored o7)
        have r7 := T7.out.1.cell 0 rfl; have rf7 := T7.out.1.free 0; have x7 := T7.out.2.1.cell 0 rfl
        have HW7 := Lib.hid hW7
        rw [hW7] at r7 rf7 x7
        clear x6 hqB hgB hgB2 sB xB cB cB2 fB fB2 sX hs hW7 o7
        go_wp2_with fail
        rw [← HW7.out]
        exact FIN.out _ _ W7 _ _ rfl rfl T7.out.1 (T7.out.2.2.1.less (by omega)) T7.out.2.2.2 HR7.out (by rw [List.length_set]; have := SB.out.len; have := SB.out.few; omega) rfl
    · -- the file once more, at the end
      obtain ⟨S1, hS1⟩ : ∃ S, S = st f.1 := ⟨_, rfl⟩
      obtain ⟨S2, hS2⟩ : ∃ S, S = st f.2 := ⟨_, rfl⟩
      have E1 := Lib.hid hS1; have E2 := Lib.hid hS2
      have HFM : Hid ((Lt f.1 ∧ Lt f.2) ∧ (f.1.length ≤ maxLen ∧ f.2.length ≤ maxLen)) := Lib.hid ⟨S6.out.own.lt f (List.mem_of_getElem? HF.out), S6.out.own.sm f (List.mem_of_getElem? HF.out)⟩
      clear hS1 hS2
      go_wp2_with fail
      refine wp_region_any (by kernel_rfl) ?_
      change wpAny _ _ _ _ _ _ _ (World.drew _)
      obtain ⟨WA, hWA⟩ : ∃ W, W = w6.drew := ⟨_, rfl⟩
      rw [← hWA]
      have SA : Hid (Spo w0 w WA g (n + 7) rb xb bb m cap fs) := Lib.hid (by rw [hWA]; exact S6.out.keep (kp_drew _))
      have x6 := SA.out.xbk.cell 0 rfl
      obtain ⟨c0, c1, -, -⟩ := SA.out.cells HF.out
      rw [← E1.out] at c0
      rw [← E2.out] at c1
      clear hWA
      refine wpAny_take (i := 0) (v := (.pointer (some ⟨xb, 0, none⟩))) rfl (by kernel_rfl) (by kernel_rfl) (by kernel_rfl) (fun _ _ _ h => h) (Or.inl ⟨by rfl, fun wq => ?_⟩) ?_
      · go_simp
      try simp only [Act.put, List.setIfInBounds_toArray, List.set_cons_zero, List.set_cons_succ]
      refine wpAny_take (i := 2) (v := (.pointer (some ⟨xb, 0, none⟩))) rfl (by kernel_rfl) (by kernel_rfl) (by kernel_rfl) (fun _ _ _ h => h) (Or.inl ⟨by rfl, fun wq => ?_⟩) ?_
      · go_simp
      try simp only [Act.put, List.setIfInBounds_toArray, List.set_cons_zero, List.set_cons_succ]
      refine wpAny_take (i := 4) (v := (.int .i64 (k : Int))) rfl (by kernel_rfl) (by kernel_rfl) (by kernel_rfl) (fun _ _ _ h => h) (Or.inl ⟨by rfl, fun wq => ?_⟩) ?_
      · go_simp
      try simp only [Act.put, List.setIfInBounds_toArray, List.set_cons_zero, List.set_cons_succ]
      refine wpAny_ready (rs := [1, 3]) (by kernel_rfl) (by simp) (AllReady.cons rfl (fun KK hK => ?_) (AllReady.cons rfl (fun KK hK => ?_) AllReady.nil))
      · go_simp
        refine hK _ _ ?_
        clear hK KK
        try simp only [Act.put, List.setIfInBounds_toArray, List.set_cons_zero, List.set_cons_succ]
        refine wpAny_ready (rs := [3]) (by kernel_rfl) (by simp) (AllReady.cons rfl (fun KK hK => ?_) AllReady.nil)
        go_simp
        refine hK _ _ ?_
        clear hK KK
        try simp only [Act.put, List.setIfInBounds_toArray, List.set_cons_zero, List.set_cons_succ]
        refine wpAny_take (i := 5) (v := (.pointer (some ⟨bb, 0 + k * 2, none⟩))) rfl (by kernel_rfl) (by kernel_rfl) (by kernel_rfl) (fun _ _ _ h => h) (Or.inl ⟨by rfl, fun wq => ?_⟩) ?_
        · go_simp
        try simp only [Act.put, List.setIfInBounds_toArray, List.set_cons_zero, List.set_cons_succ]
        refine wpAny_ready (rs := [6]) (by kernel_rfl) (by simp) (AllReady.cons rfl (fun KK hK => ?_) AllReady.nil)
        go_simp
        refine hK _ _ ?_
        clear hK KK
        try simp only [Act.put, List.setIfInBounds_toArray, List.set_cons_zero, List.set_cons_succ]
        refine wpAny_ready (rs := [7]) (by kernel_rfl) (by simp) (AllReady.cons rfl (fun KK hK => ?_) AllReady.nil)
        refine step_bldF rfl 46 45 rfl rfl rfl ?_
        intro WB hWB
        have SB : Hid (Spo w0 w WB g (n + 7) rb xb bb m cap fs) := Lib.hid (by rw [hWB]; exact SA.out.keep (kp_alloc _ _))
        have NB : Hid (Blk WB WA.heap.size 55 #[.string (st f.1), .string (st f.2)]) := Lib.hid (by rw [hWB, ← E1.out, ← E2.out]; exact Blk.new _ _ _)
        have KB : Hid (Kp WA WB) := Lib.hid (by rw [hWB]; exact kp_alloc _ _)
        have x6b := SB.out.xbk.cell 0 rfl
        clear hWB
        refine hK _ _ ?_
        clear hK KK
        try simp only [Act.put, List.setIfInBounds_toArray, List.set_cons_zero, List.set_cons_succ]
        refine wpAny_ready (rs := [8]) (by kernel_rfl) (by simp) (AllReady.cons rfl (fun KK hK => ?_) AllReady.nil)
        refine step_fl (w := w0) rfl (.tmp 40) (.tmp 46) rfl (.slice (some ⟨bb, 0, none⟩) m cap) rfl SB.out.own (by have := SB.out.len; have := SB.out.few; omega) f HFM.out WA.heap.size rfl NB.out ?_
        intro ad l c' WC hC gC
        have OC := Lib.hid hC
        have TURN : Hid (∀ W', W' = WC.setCell ⟨xb, 0, none⟩ (.slice (some ad) l c') → Blk W' rb 28 #[.slice none 0 0] ∧ Blk W' xb 28 #[.slice (some ad) l c'] ∧ Tq w0 W' g (n + 7) ∧ Gr g w W') := Lib.hid (fun W' hW => (SB.out.turn gC (fun r hr => by simpa [Value.ownBlock] using hr.symm) hW).2)
        have BXC : Hid (Blk WC xb 28 #[.slice (some ⟨bb, 0, none⟩) m cap]) := Lib.hid (SB.out.turn gC (fun r hr => by simpa [Value.ownBlock] using hr.symm) (v := .slice none 0 0) rfl).1
        have xc := BXC.out.cell 0 rfl; have xcf := BXC.out.free 0
        clear hC gC
        refine hK _ _ ?_
        clear hK KK
        try simp only [Act.put, List.setIfInBounds_toArray, List.set_cons_zero, List.set_cons_succ]
        refine wpAny_ready (rs := [9]) (by kernel_rfl) (by simp) (AllReady.cons rfl (fun KK hK => ?_) AllReady.nil)
        go_simp
        refine hK _ _ ?_
        clear hK KK
        try simp only [Act.put, List.setIfInBounds_toArray, List.set_cons_zero, List.set_cons_succ]
        refine wpAny_ready (rs := [10]) (by kernel_rfl) (by simp) (AllReady.cons rfl (fun KK hK => ?_) AllReady.nil)
        go_simp
        refine hK _ _ ?_
        clear hK KK
        try simp only [Act.put, List.setIfInBounds_toArray, List.set_cons_zero, List.set_cons_succ]
        refine wpAny_done (by kernel_rfl) ?_ _
        obtain ⟨W7, hW7⟩ : ∃ W, W = WC.setCell ⟨xb, 0, none⟩ (.slice (some ad) l c') := ⟨_, rfl⟩
        have HR7 : Hid (Rw W7 (.slice (some ad) l c') (fs ++ [f])) := Lib.hid (by rw [hW7]; exact OC.out.rw.beside BXC.out)
        have T7 := Lib.hid (TURN.out W7 hW7)
        have r7 := T7.out.1.cell 0 rfl; have rf7 := T7.out.1.free 0; have x7 := T7.out.2.1.cell 0 rfl
        have HW7 := Lib.hid hW7
        rw [hW7] at r7 rf7 x7
        clear hW7 x6 c0 c1 xc xcf
        go_wp2_with fail
        rw [← HW7.out]
        exact FIN.out _ _ W7 _ _ rfl rfl T7.out.1 (T7.out.2.2.1.less (by omega)) T7.out.2.2.2 HR7.out (by have := SA.out.len; have := SA.out.few; simp; omega) rfl
      · go_simp
        refine hK _ _ ?_
        clear hK KK
        try simp only [Act.put, List.setIfInBounds_toArray, List.set_cons_zero, List.set_cons_succ]
        refine wpAny_take (i := 5) (v := (.pointer (some ⟨bb, 0 + k * 2, none⟩))) rfl (by kernel_rfl) (by kernel_rfl) (by kernel_rfl) (fun _ _ _ h => h) (Or.inl ⟨by rfl, fun wq => ?_⟩) ?_
        · go_simp
        try simp only [Act.put, List.setIfInBounds_toArray, List.set_cons_zero, List.set_cons_succ]
        refine wpAny_ready (rs := [1, 6]) (by kernel_rfl) (by simp) (AllReady.cons rfl (fun KK hK => ?_) (AllReady.cons rfl (fun KK hK => ?_) AllReady.nil))
        · go_simp
          refine hK _ _ ?_
          clear hK KK
          try simp only [Act.put, List.setIfInBounds_toArray, List.set_cons_zero, List.set_cons_succ]
          refine wpAny_ready (rs := [6]) (by kernel_rfl) (by simp) (AllReady.cons rfl (fun KK hK => ?_) AllReady.nil)
          go_simp
          refine hK _ _ ?_
          clear hK KK
          try simp only [Act.put, List.setIfInBounds_toArray, List.set_cons_zero, List.set_cons_succ]
          refine wpAny_ready (rs := [7]) (by kernel_rfl) (by simp) (AllReady.cons rfl (fun KK hK => ?_) AllReady.nil)
          refine step_bldF rfl 46 45 rfl rfl rfl ?_
          intro WB hWB
          have SB : Hid (Spo w0 w WB g (n + 7) rb xb bb m cap fs) := Lib.hid (by rw [hWB]; exact SA.out.keep (kp_alloc _ _))
          have NB : Hid (Blk WB WA.heap.size 55 #[.string (st f.1), .string (st f.2)]) := Lib.hid (by rw [hWB, ← E1.out, ← E2.out]; exact Blk.new _ _ _)
          have KB : Hid (Kp WA WB) := Lib.hid (by rw [hWB]; exact kp_alloc _ _)
          have x6b := SB.out.xbk.cell 0 rfl
          clear hWB
          refine hK _ _ ?_
          clear hK KK
          try simp only [Act.put, List.setIfInBounds_toArray, List.set_cons_zero, List.set_cons_succ]
          refine wpAny_ready (rs := [8]) (by kernel_rfl) (by simp) (AllReady.cons rfl (fun KK hK => ?_) AllReady.nil)
          refine step_fl (w := w0) rfl (.tmp 40) (.tmp 46) rfl (.slice (some ⟨bb, 0, none⟩) m cap) rfl SB.out.own (by have := SB.out.len; have := SB.out.few; omega) f HFM.out WA.heap.size rfl NB.out ?_
          intro ad l c' WC hC gC
          have OC := Lib.hid hC
          have TURN : Hid (∀ W', W' = WC.setCell ⟨xb, 0, none⟩ (.slice (some ad) l c') → Blk W' rb 28 #[.slice none 0 0] ∧ Blk W' xb 28 #[.slice (some ad) l c'] ∧ Tq w0 W' g (n + 7) ∧ Gr g w W') := Lib.hid (fun W' hW => (SB.out.turn gC (fun r hr => by simpa [Value.ownBlock] using hr.symm) hW).2)
          have BXC : Hid (Blk WC xb 28 #[.slice (some ⟨bb, 0, none⟩) m cap]) := Lib.hid (SB.out.turn gC (fun r hr => by simpa [Value.ownBlock] using hr.symm) (v := .slice none 0 0) rfl).1
          have xc := BXC.out.cell 0 rfl; have xcf := BXC.out.free 0
          clear hC gC
          refine hK _ _ ?_
          clear hK KK
          try simp only [Act.put, List.setIfInBounds_toArray, List.set_cons_zero, List.set_cons_succ]
          refine wpAny_ready (rs := [9]) (by kernel_rfl) (by simp) (AllReady.cons rfl (fun KK hK => ?_) AllReady.nil)
          go_simp
          refine hK _ _ ?_
          clear hK KK
          try simp only [Act.put, List.setIfInBounds_toArray, List.set_cons_zero, List.set_cons_succ]
          refine wpAny_ready (rs := [10]) (by kernel_rfl) (by simp) (AllReady.cons rfl (fun KK hK => ?_) AllReady.nil)
          go_simp
          refine hK _ _ ?_
          clear hK KK
          try simp only [Act.put, List.setIfInBounds_toArray, List.set_cons_zero, List.set_cons_succ]
          refine wpAny_done (by kernel_rfl) ?_ _
          obtain ⟨W7, hW7⟩ : ∃ W, W = WC.setCell ⟨xb, 0, none⟩ (.slice (some ad) l c') := ⟨_, rfl⟩
          have HR7 : Hid (Rw W7 (.slice (some ad) l c') (fs ++ [f])) := Lib.hid (by rw [hW7]; exact OC.out.rw.beside BXC.out)
          have T7 := Lib.hid (TURN.out W7 hW7)
          have r7 := T7.out.1.cell 0 rfl; have rf7 := T7.out.1.free 0; have x7 := T7.out.2.1.cell 0 rfl
          have HW7 := Lib.hid hW7
          rw [hW7] at r7 rf7 x7
          clear hW7 x6 c0 c1 xc xcf
          go_wp2_with fail
          rw [← HW7.out]
          exact FIN.out _ _ W7 _ _ rfl rfl T7.out.1 (T7.out.2.2.1.less (by omega)) T7.out.2.2.2 HR7.out (by have := SA.out.len; have := SA.out.few; simp; omega) rfl
        · go_simp
          refine hK _ _ ?_
          clear hK KK
          try simp only [Act.put, List.setIfInBounds_toArray, List.set_cons_zero, List.set_cons_succ]
          refine wpAny_ready (rs := [1, 7]) (by kernel_rfl) (by simp) (AllReady.cons rfl (fun KK hK => ?_) (AllReady.cons rfl (fun KK hK => ?_) AllReady.nil))
          · go_simp
            refine hK _ _ ?_
            clear hK KK
            try simp only [Act.put, List.setIfInBounds_toArray, List.set_cons_zero, List.set_cons_succ]
            refine wpAny_ready (rs := [7]) (by kernel_rfl) (by simp) (AllReady.cons rfl (fun KK hK => ?_) AllReady.nil)
            refine step_bldF rfl 46 45 rfl rfl rfl ?_
            intro WB hWB
            have SB : Hid (Spo w0 w WB g (n + 7) rb xb bb m cap fs) := Lib.hid (by rw [hWB]; exact SA.out.keep (kp_alloc _ _))
            have NB : Hid (Blk WB WA.heap.size 55 #[.string (st f.1), .string (st f.2)]) := Lib.hid (by rw [hWB, ← E1.out, ← E2.out]; exact Blk.new _ _ _)
            have KB : Hid (Kp WA WB) := Lib.hid (by rw [hWB]; exact kp_alloc _ _)
            have x6b := SB.out.xbk.cell 0 rfl
            clear hWB
            refine hK _ _ ?_
            clear hK KK
            try simp only [Act.put, List.setIfInBounds_toArray, List.set_cons_zero, List.set_cons_succ]
            refine wpAny_ready (rs := [8]) (by kernel_rfl) (by simp) (AllReady.cons rfl (fun KK hK => ?_) AllReady.nil)
            refine step_fl (w := w0) rfl (.tmp 40) (.tmp 46) rfl (.slice (some ⟨bb, 0, none⟩) m cap) rfl SB.out.own (by have := SB.out.len; have := SB.out.few; omega) f HFM.out WA.heap.size rfl NB.out ?_
            intro ad l c' WC hC gC
            have OC := Lib.hid hC
            have TURN : Hid (∀ W', W' = WC.setCell ⟨xb, 0, none⟩ (.slice (some ad) l c') → Blk W' rb 28 #[.slice none 0 0] ∧ Blk W' xb 28 #[.slice (some ad) l c'] ∧ Tq w0 W' g (n + 7) ∧ Gr g w W') := Lib.hid (fun W' hW => (SB.out.turn gC (fun r hr => by simpa [Value.ownBlock] using hr.symm) hW).2)
            have BXC : Hid (Blk WC xb 28 #[.slice (some ⟨bb, 0, none⟩) m cap]) := Lib.hid (SB.out.turn gC (fun r hr => by simpa [Value.ownBlock] using hr.symm) (v := .slice none 0 0) rfl).1
            have xc := BXC.out.cell 0 rfl; have xcf := BXC.out.free 0
            clear hC gC
            refine hK _ _ ?_
            clear hK KK
            try simp only [Act.put, List.setIfInBounds_toArray, List.set_cons_zero, List.set_cons_succ]
            refine wpAny_ready (rs := [9]) (by kernel_rfl) (by simp) (AllReady.cons rfl (fun KK hK => ?_) AllReady.nil)
            go_simp
            refine hK _ _ ?_
            clear hK KK
            try simp only [Act.put, List.setIfInBounds_toArray, List.set_cons_zero, List.set_cons_succ]
            refine wpAny_ready (rs := [10]) (by kernel_rfl) (by simp) (AllReady.cons rfl (fun KK hK => ?_) AllReady.nil)
            go_simp
            refine hK _ _ ?_
            clear hK KK
            try simp only [Act.put, List.setIfInBounds_toArray, List.set_cons_zero, List.set_cons_succ]
            refine wpAny_done (by kernel_rfl) ?_ _
            obtain ⟨W7, hW7⟩ : ∃ W, W = WC.setCell ⟨xb, 0, none⟩ (.slice (some ad) l c') := ⟨_, rfl⟩
            have HR7 : Hid (Rw W7 (.slice (some ad) l c') (fs ++ [f])) := Lib.hid (by rw [hW7]; exact OC.out.rw.beside BXC.out)
            have T7 := Lib.hid (TURN.out W7 hW7)
            have r7 := T7.out.1.cell 0 rfl; have rf7 := T7.out.1.free 0; have x7 := T7.out.2.1.cell 0 rfl
            have HW7 := Lib.hid hW7
            rw [hW7] at r7 rf7 x7
            clear hW7 x6 c0 c1 xc xcf
            go_wp2_with fail
            rw [← HW7.out]
            exact FIN.out _ _ W7 _ _ rfl rfl T7.out.1 (T7.out.2.2.1.less (by omega)) T7.out.2.2.2 HR7.out (by have := SA.out.len; have := SA.out.few; simp; omega) rfl
          · refine step_bldF rfl 46 45 rfl rfl rfl ?_
            intro WB hWB
            have SB : Hid (Spo w0 w WB g (n + 7) rb xb bb m cap fs) := Lib.hid (by rw [hWB]; exact SA.out.keep (kp_alloc _ _))
            have NB : Hid (Blk WB WA.heap.size 55 #[.string (st f.1), .string (st f.2)]) := Lib.hid (by rw [hWB, ← E1.out, ← E2.out]; exact Blk.new _ _ _)
            have KB : Hid (Kp WA WB) := Lib.hid (by rw [hWB]; exact kp_alloc _ _)
            have x6b := SB.out.xbk.cell 0 rfl
            clear hWB
            refine hK _ _ ?_
            clear hK KK
            try simp only [Act.put, List.setIfInBounds_toArray, List.set_cons_zero, List.set_cons_succ]
            refine wpAny_ready (rs := [1]) (by kernel_rfl) (by simp) (AllReady.cons rfl (fun KK hK => ?_) AllReady.nil)
            go_simp
            refine hK _ _ ?_
            clear hK KK
            try simp only [Act.put, List.setIfInBounds_toArray, List.set_cons_zero, List.set_cons_succ]
            refine wpAny_ready (rs := [8]) (by kernel_rfl) (by simp) (AllReady.cons rfl (fun KK hK => ?_) AllReady.nil)
            refine step_fl (w := w0) rfl (.tmp 40) (.tmp 46) rfl (.slice (some ⟨bb, 0, none⟩) m cap) rfl SB.out.own (by have := SB.out.len; have := SB.out.few; omega) f HFM.out WA.heap.size rfl NB.out ?_
            intro ad l c' WC hC gC
            have OC := Lib.hid hC
            have TURN : Hid (∀ W', W' = WC.setCell ⟨xb, 0, none⟩ (.slice (some ad) l c') → Blk W' rb 28 #[.slice none 0 0] ∧ Blk W' xb 28 #[.slice (some ad) l c'] ∧ Tq w0 W' g (n + 7) ∧ Gr g w W') := Lib.hid (fun W' hW => (SB.out.turn gC (fun r hr => by simpa [Value.ownBlock] using hr.symm) hW).2)
            have BXC : Hid (Blk WC xb 28 #[.slice (some ⟨bb, 0, none⟩) m cap]) := Lib.hid (SB.out.turn gC (fun r hr => by simpa [Value.ownBlock] using hr.symm) (v := .slice none 0 0) rfl).1
            have xc := BXC.out.cell 0 rfl; have xcf := BXC.out.free 0
            clear hC gC
            refine hK _ _ ?_
            clear hK KK
            try simp only [Act.put, List.setIfInBounds_toArray, List.set_cons_zero, List.set_cons_succ]
            refine wpAny_ready (rs := [9]) (by kernel_rfl) (by simp) (AllReady.cons rfl (fun KK hK => ?_) AllReady.nil)
            go_simp
            refine hK _ _ ?_
            clear hK KK
            try simp only [Act.put, List.setIfInBounds_toArray, List.set_cons_zero, List.set_cons_succ]
            refine wpAny_ready (rs := [10]) (by kernel_rfl) (by simp) (AllReady.cons rfl (fun KK hK => ?_) AllReady.nil)
            go_simp
            refine hK _ _ ?_
            clear hK KK
            try simp only [Act.put, List.setIfInBounds_toArray, List.set_cons_zero, List.set_cons_succ]
            refine wpAny_done (by kernel_rfl) ?_ _
            obtain ⟨W7, hW7⟩ : ∃ W, W = WC.setCell ⟨xb, 0, none⟩ (.slice (some ad) l c') := ⟨_, rfl⟩
            have HR7 : Hid (Rw W7 (.slice (some ad) l c') (fs ++ [f])) := Lib.hid (by rw [hW7]; exact OC.out.rw.beside BXC.out)
            have T7 := Lib.hid (TURN.out W7 hW7)
            have r7 := T7.out.1.cell 0 rfl; have rf7 := T7.out.1.free 0; have x7 := T7.out.2.1.cell 0 rfl
            have HW7 := Lib.hid hW7
            rw [hW7] at r7 rf7 x7
            clear hW7 x6 c0 c1 xc xcf
            go_wp2_with fail
            rw [← HW7.out]
            exact FIN.out _ _ W7 _ _ rfl rfl T7.out.1 (T7.out.2.2.1.less (by omega)) T7.out.2.2.2 HR7.out (by have := SA.out.len; have := SA.out.few; simp; omega) rfl
    · -- the file once more, behind itself
      obtain ⟨S1, hS1⟩ : ∃ S, S = st f.1 := ⟨_, rfl⟩
      obtain ⟨S2, hS2⟩ : ∃ S, S = st f.2 := ⟨_, rfl⟩
      have E1 := Lib.hid hS1; have E2 := Lib.hid hS2
      have HFM : Hid ((Lt f.1 ∧ Lt f.2) ∧ (f.1.length ≤ maxLen ∧ f.2.length ≤ maxLen)) := Lib.hid ⟨S6.out.own.lt f (List.mem_of_getElem? HF.out), S6.out.own.sm f (List.mem_of_getElem? HF.out)⟩
      clear hS1 hS2
      obtain ⟨a14, c14, hv14, -⟩ := S6.out.tails (k := k) (by have := HK.out; omega)
      have h4 : ∀ W, (Instr.slice 26 (.slice (some ⟨bb, 0, none⟩) m cap) none (some (.int .i64 (k : Int))) (some (.int .i64 (k : Int)))).run Tryz.prog W = .ok (.slice (some ⟨bb, 0, none⟩) k k) W := fun W => by
        rw [run_slice_hm W 26 (some ⟨bb, 0, none⟩) m cap undFl .i64 .i64 (k : Int) (k : Int) (by omega) (by omega) (by omega), sizeFl, Int.toNat_natCast]
        show Result.ok (sliced _ _ _ _ _) _ = _
        congr 1
        unfold sliced
        split <;> simp [Addr.add]
      have h14 : ∀ W, (Instr.slice 26 (.slice (some ⟨bb, 0, none⟩) m cap) (some (.int .i64 (k : Int))) none none).run Tryz.prog W = .ok (.slice (some a14) (m - k) c14) W := fun W => by rw [← hv14]; exact fl_from _ _ _ k _ rfl (by omega) W
      have T14 : Hid (∀ W, Spo w0 w W g (n + 7) rb xb bb m cap fs → Rw W (.slice (some a14) (m - k) c14) (fs.drop k)) := Lib.hid (fun W hs => by
        obtain ⟨a, c, e, hr⟩ := hs.tails (k := k) (by have := HK.out; omega)
        rw [hv14] at e
        rw [e]
        exact hr)
      clear hv14
      go_wp2_with fail
      refine wp_region_any (by kernel_rfl) ?_
      change wpAny _ _ _ _ _ _ _ (World.drew _)
      obtain ⟨WA, hWA⟩ : ∃ W, W = w6.drew := ⟨_, rfl⟩
      rw [← hWA]
      have SA : Hid (Spo w0 w WA g (n + 7) rb xb bb m cap fs) := Lib.hid (by rw [hWA]; exact S6.out.keep (kp_drew _))
      have x6 := SA.out.xbk.cell 0 rfl
      obtain ⟨c0, c1, -, -⟩ := SA.out.cells HF.out
      rw [← E1.out] at c0
      rw [← E2.out] at c1
      clear hWA
      have H14 := Lib.hid (T14.out WA SA.out)
      refine wpAny_take (i := 0) (v := (.pointer (some ⟨xb, 0, none⟩))) rfl (by kernel_rfl) (by kernel_rfl) (by kernel_rfl) (fun _ _ _ h => h) (Or.inl ⟨by rfl, fun wq => ?_⟩) ?_
      · go_simp
      try simp only [Act.put, List.setIfInBounds_toArray, List.set_cons_zero, List.set_cons_succ]
      refine wpAny_take (i := 5) (v := (.pointer (some ⟨xb, 0, none⟩))) rfl (by kernel_rfl) (by kernel_rfl) (by kernel_rfl) (fun _ _ _ h => h) (Or.inl ⟨by rfl, fun wq => ?_⟩) ?_
      · go_simp
      try simp only [Act.put, List.setIfInBounds_toArray, List.set_cons_zero, List.set_cons_succ]
      refine wpAny_take (i := 11) (v := (.pointer (some ⟨xb, 0, none⟩))) rfl (by kernel_rfl) (by kernel_rfl) (by kernel_rfl) (fun _ _ _ h => h) (Or.inl ⟨by rfl, fun wq => ?_⟩) ?_
      · go_simp
      try simp only [Act.put, List.setIfInBounds_toArray, List.set_cons_zero, List.set_cons_succ]
      refine wpAny_take (i := 2) (v := (.int .i64 (k : Int))) rfl (by kernel_rfl) (by kernel_rfl) (by kernel_rfl) (fun _ _ _ h => h) (Or.inl ⟨by rfl, fun wq => ?_⟩) ?_
      · go_simp
      try simp only [Act.put, List.setIfInBounds_toArray, List.set_cons_zero, List.set_cons_succ]
      refine wpAny_take (i := 3) (v := (.int .i64 (k : Int))) rfl (by kernel_rfl) (by kernel_rfl) (by kernel_rfl) (fun _ _ _ h => h) (Or.inl ⟨by rfl, fun wq => ?_⟩) ?_
      · go_simp
      try simp only [Act.put, List.setIfInBounds_toArray, List.set_cons_zero, List.set_cons_succ]
      refine wpAny_take (i := 7) (v := (.int .i64 (k : Int))) rfl (by kernel_rfl) (by kernel_rfl) (by kernel_rfl) (fun _ _ _ h => h) (Or.inl ⟨by rfl, fun wq => ?_⟩) ?_
      · go_simp
      try simp only [Act.put, List.setIfInBounds_toArray, List.set_cons_zero, List.set_cons_succ]
      refine wpAny_take (i := 13) (v := (.int .i64 (k : Int))) rfl (by kernel_rfl) (by kernel_rfl) (by kernel_rfl) (fun _ _ _ h => h) (Or.inl ⟨by rfl, fun wq => ?_⟩) ?_
      · go_simp
      try simp only [Act.put, List.setIfInBounds_toArray, List.set_cons_zero, List.set_cons_succ]
      refine wpAny_ready (rs := [1, 6, 12]) (by kernel_rfl) (by simp) (AllReady.cons rfl (fun KK hK => ?_) (AllReady.cons rfl (fun KK hK => ?_) (AllReady.cons rfl (fun KK hK => ?_) AllReady.nil)))
      · go_simp
        refine hK _ _ ?_
        clear hK KK
        try simp only [Act.put, List.setIfInBounds_toArray, List.set_cons_zero, List.set_cons_succ]
        refine wpAny_take (i := 4) (v := (.slice (some ⟨bb, 0, none⟩) k k)) rfl (by kernel_rfl) (by kernel_rfl) (by kernel_rfl) (fun _ _ _ h => h) (Or.inl ⟨by rfl, fun wq => ?_⟩) ?_
        · go_simp
        try simp only [Act.put, List.setIfInBounds_toArray, List.set_cons_zero, List.set_cons_succ]
        refine wpAny_ready (rs := [6, 12]) (by kernel_rfl) (by simp) (AllReady.cons rfl (fun KK hK => ?_) (AllReady.cons rfl (fun KK hK => ?_) AllReady.nil))
        · go_simp
          refine hK _ _ ?_
          clear hK KK
          try simp only [Act.put, List.setIfInBounds_toArray, List.set_cons_zero, List.set_cons_succ]
          refine wpAny_take (i := 8) (v := (.pointer (some ⟨bb, 0 + k * 2, none⟩))) rfl (by kernel_rfl) (by kernel_rfl) (by kernel_rfl) (fun _ _ _ h => h) (Or.inl ⟨by rfl, fun wq => ?_⟩) ?_
          · go_simp
          try simp only [Act.put, List.setIfInBounds_toArray, List.set_cons_zero, List.set_cons_succ]
          refine wpAny_ready (rs := [9, 12]) (by kernel_rfl) (by simp) (AllReady.cons rfl (fun KK hK => ?_) (AllReady.cons rfl (fun KK hK => ?_) AllReady.nil))
          · go_simp
            refine hK _ _ ?_
            clear hK KK
            try simp only [Act.put, List.setIfInBounds_toArray, List.set_cons_zero, List.set_cons_succ]
            refine wpAny_ready (rs := [10, 12]) (by kernel_rfl) (by simp) (AllReady.cons rfl (fun KK hK => ?_) (AllReady.cons rfl (fun KK hK => ?_) AllReady.nil))
            · refine step_bldF rfl 61 60 rfl rfl rfl ?_
              intro WB hWB
              have SB : Hid (Spo w0 w WB g (n + 7) rb xb bb m cap fs) := Lib.hid (by rw [hWB]; exact SA.out.keep (kp_alloc _ _))
              have NB : Hid (Blk WB WA.heap.size 55 #[.string (st f.1), .string (st f.2)]) := Lib.hid (by rw [hWB, ← E1.out, ← E2.out]; exact Blk.new _ _ _)
              have KB : Hid (Kp WA WB) := Lib.hid (by rw [hWB]; exact kp_alloc _ _)
              have x6b := SB.out.xbk.cell 0 rfl
              clear hWB
              refine hK _ _ ?_
              clear hK KK
              try simp only [Act.put, List.setIfInBounds_toArray, List.set_cons_zero, List.set_cons_succ]
              refine wpAny_ready (rs := [12]) (by kernel_rfl) (by simp) (AllReady.cons rfl (fun KK hK => ?_) AllReady.nil)
              go_simp
              refine hK _ _ ?_
              clear hK KK
              try simp only [Act.put, List.setIfInBounds_toArray, List.set_cons_zero, List.set_cons_succ]
              refine wpAny_take (i := 14) (v := (.slice (some a14) (m - k) c14)) rfl (by kernel_rfl) (by kernel_rfl) (by kernel_rfl) (fun _ _ _ h => h) (Or.inl ⟨by rfl, fun wq => ?_⟩) ?_
              · go_simp
              try simp only [Act.put, List.setIfInBounds_toArray, List.set_cons_zero, List.set_cons_succ]
              refine wpAny_ready (rs := [15]) (by kernel_rfl) (by simp) (AllReady.cons rfl (fun KK hK => ?_) AllReady.nil)
              refine step_grF (b := ⟨WA.heap.size, 0, none⟩) (a' := a14) (n := 1) (cap := 1) (m := m - k) (c := c14) (fs := [f]) (gs := fs.drop k) rfl (.tmp 61) (.tmp 65) rfl rfl rfl (Rw.one NB.out HFM.out.1 HFM.out.2) (H14.out.keep KB.out) (by have := HK.out; omega) (by have := SA.out.few; omega) ?_
              intro ad1 l1 cc1 WD hD hl1
              have OD : Hid (Rw WD (.slice (some ad1) l1 cc1) ([f] ++ fs.drop k)) := Lib.hid hD.rw
              have SD : Hid (Spo w0 w WD g (n + 7) rb xb bb m cap fs) := Lib.hid (SB.out.keep hD.kp)
              have KD : Hid (Kp WA WD) := Lib.hid (Kp.trans KB.out hD.kp)
              have L1 := Lib.hid hl1
              have x6d := SD.out.xbk.cell 0 rfl
              clear hD hl1
              refine hK _ _ ?_
              clear hK KK
              try simp only [Act.put, List.setIfInBounds_toArray, List.set_cons_zero, List.set_cons_succ]
              refine wpAny_ready (rs := [16]) (by kernel_rfl) (by simp) (AllReady.cons rfl (fun KK hK => ?_) AllReady.nil)
              refine step_grF (b := ⟨bb, 0, none⟩) (a' := ad1) (n := k) (cap := k) (m := l1) (c := cc1) (fs := fs.take k) (gs := [f] ++ fs.drop k) rfl (.tmp 55) (.tmp 66) rfl rfl rfl (SD.out.heads (by have := HK.out; omega)) OD.out (by have := L1.out; omega) (by have := SA.out.few; have := L1.out; have := HK.out; omega) ?_
              intro ad l c' WC hC hl
              have OC := Lib.hid hC
              have TURN : Hid (∀ W', W' = WC.setCell ⟨xb, 0, none⟩ (.slice (some ad) l c') → Blk W' rb 28 #[.slice none 0 0] ∧ Blk W' xb 28 #[.slice (some ad) l c'] ∧ Tq w0 W' g (n + 7) ∧ Gr g w W') := Lib.hid (fun W' hW => (SD.out.turn (row := none) ⟨hC.kp.os, hC.kp.tape, hC.kp.output, hC.kp.size, fun i hi _ => hC.kp.block i hi⟩ (fun r hr => by simp at hr) hW).2)
              have BXC : Hid (Blk WC xb 28 #[.slice (some ⟨bb, 0, none⟩) m cap]) := Lib.hid (SD.out.xbk.keep hC.kp)
              have xc := BXC.out.cell 0 rfl; have xcf := BXC.out.free 0
              clear hC hl
              refine hK _ _ ?_
              clear hK KK
              try simp only [Act.put, List.setIfInBounds_toArray, List.set_cons_zero, List.set_cons_succ]
              refine wpAny_ready (rs := [17]) (by kernel_rfl) (by simp) (AllReady.cons rfl (fun KK hK => ?_) AllReady.nil)
              go_simp
              refine hK _ _ ?_
              clear hK KK
              try simp only [Act.put, List.setIfInBounds_toArray, List.set_cons_zero, List.set_cons_succ]
              refine wpAny_ready (rs := [18]) (by kernel_rfl) (by simp) (AllReady.cons rfl (fun KK hK => ?_) AllReady.nil)
              go_simp
              refine hK _ _ ?_
              clear hK KK
              try simp only [Act.put, List.setIfInBounds_toArray, List.set_cons_zero, List.set_cons_succ]
              refine wpAny_done (by kernel_rfl) ?_ _
              have hlen2 := SA.out.len
              obtain ⟨W7, hW7⟩ : ∃ W, W = WC.setCell ⟨xb, 0, none⟩ (.slice (some ad) l c') := ⟨_, rfl⟩
              have HR7 : Hid (Rw W7 (.slice (some ad) l c') (fs.take k ++ ([f] ++ fs.drop k))) := Lib.hid (by rw [hW7]; exact OC.out.rw.beside BXC.out)
              have T7 := Lib.hid (TURN.out W7 hW7)
              have r7 := T7.out.1.cell 0 rfl; have rf7 := T7.out.1.free 0; have x7 := T7.out.2.1.cell 0 rfl
              have HW7 := Lib.hid hW7
              rw [hW7] at r7 rf7 x7
              clear hW7 x6 c0 c1 xc xcf
              go_wp2_with fail
              rw [← HW7.out]
              exact FIN.out _ _ W7 _ _ rfl rfl T7.out.1 (T7.out.2.2.1.less (by omega)) T7.out.2.2.2 HR7.out (by have := SA.out.len; have := SA.out.few; simp [List.length_take, List.length_drop]; omega) rfl
            · go_simp
              refine hK _ _ ?_
              clear hK KK
              try simp only [Act.put, List.setIfInBounds_toArray, List.set_cons_zero, List.set_cons_succ]
              refine wpAny_take (i := 14) (v := (.slice (some a14) (m - k) c14)) rfl (by kernel_rfl) (by kernel_rfl) (by kernel_rfl) (fun _ _ _ h => h) (Or.inl ⟨by rfl, fun wq => ?_⟩) ?_
              · go_simp
              try simp only [Act.put, List.setIfInBounds_toArray, List.set_cons_zero, List.set_cons_succ]
              refine wpAny_ready (rs := [10]) (by kernel_rfl) (by simp) (AllReady.cons rfl (fun KK hK => ?_) AllReady.nil)
              refine step_bldF rfl 61 60 rfl rfl rfl ?_
              intro WB hWB
              have SB : Hid (Spo w0 w WB g (n + 7) rb xb bb m cap fs) := Lib.hid (by rw [hWB]; exact SA.out.keep (kp_alloc _ _))
              have NB : Hid (Blk WB WA.heap.size 55 #[.string (st f.1), .string (st f.2)]) := Lib.hid (by rw [hWB, ← E1.out, ← E2.out]; exact Blk.new _ _ _)
              have KB : Hid (Kp WA WB) := Lib.hid (by rw [hWB]; exact kp_alloc _ _)
              have x6b := SB.out.xbk.cell 0 rfl
              clear hWB
              refine hK _ _ ?_
              clear hK KK
              try simp only [Act.put, List.setIfInBounds_toArray, List.set_cons_zero, List.set_cons_succ]
              refine wpAny_ready (rs := [15]) (by kernel_rfl) (by simp) (AllReady.cons rfl (fun KK hK => ?_) AllReady.nil)
              refine step_grF (b := ⟨WA.heap.size, 0, none⟩) (a' := a14) (n := 1) (cap := 1) (m := m - k) (c := c14) (fs := [f]) (gs := fs.drop k) rfl (.tmp 61) (.tmp 65) rfl rfl rfl (Rw.one NB.out HFM.out.1 HFM.out.2) (H14.out.keep KB.out) (by have := HK.out; omega) (by have := SA.out.few; omega) ?_
              intro ad1 l1 cc1 WD hD hl1
              have OD : Hid (Rw WD (.slice (some ad1) l1 cc1) ([f] ++ fs.drop k)) := Lib.hid hD.rw
              have SD : Hid (Spo w0 w WD g (n + 7) rb xb bb m cap fs) := Lib.hid (SB.out.keep hD.kp)
              have KD : Hid (Kp WA WD) := Lib.hid (Kp.trans KB.out hD.kp)
              have L1 := Lib.hid hl1
              have x6d := SD.out.xbk.cell 0 rfl
              clear hD hl1
              refine hK _ _ ?_
              clear hK KK
              try simp only [Act.put, List.setIfInBounds_toArray, List.set_cons_zero, List.set_cons_succ]
              refine wpAny_ready (rs := [16]) (by kernel_rfl) (by simp) (AllReady.cons rfl (fun KK hK => ?_) AllReady.nil)
              refine step_grF (b := ⟨bb, 0, none⟩) (a' := ad1) (n := k) (cap := k) (m := l1) (c := cc1) (fs := fs.take k) (gs := [f] ++ fs.drop k) rfl (.tmp 55) (.tmp 66) rfl rfl rfl (SD.out.heads (by have := HK.out; omega)) OD.out (by have := L1.out; omega) (by have := SA.out.few; have := L1.out; have := HK.out; omega) ?_
              intro ad l c' WC hC hl
              have OC := Lib.hid hC
              have TURN : Hid (∀ W', W' = WC.setCell ⟨xb, 0, none⟩ (.slice (some ad) l c') → Blk W' rb 28 #[.slice none 0 0] ∧ Blk W' xb 28 #[.slice (some ad) l c'] ∧ Tq w0 W' g (n + 7) ∧ Gr g w W') := Lib.hid (fun W' hW => (SD.out.turn (row := none) ⟨hC.kp.os, hC.kp.tape, hC.kp.output, hC.kp.size, fun i hi _ => hC.kp.block i hi⟩ (fun r hr => by simp at hr) hW).2)
              have BXC : Hid (Blk WC xb 28 #[.slice (some ⟨bb, 0, none⟩) m cap]) := Lib.hid (SD.out.xbk.keep hC.kp)
              have xc := BXC.out.cell 0 rfl; have xcf := BXC.out.free 0
              clear hC hl
              refine hK _ _ ?_
              clear hK KK
              try simp only [Act.put, List.setIfInBounds_toArray, List.set_cons_zero, List.set_cons_succ]
              refine wpAny_ready (rs := [17]) (by kernel_rfl) (by simp) (AllReady.cons rfl (fun KK hK => ?_) AllReady.nil)
              go_simp
              refine hK _ _ ?_
              clear hK KK
              try simp only [Act.put, List.setIfInBounds_toArray, List.set_cons_zero, List.set_cons_succ]
              refine wpAny_ready (rs := [18]) (by kernel_rfl) (by simp) (AllReady.cons rfl (fun KK hK => ?_) AllReady.nil)
              go_simp
              refine hK _ _ ?_
              clear hK KK
              try simp only [Act.put, List.setIfInBounds_toArray, List.set_cons_zero, List.set_cons_succ]
              refine wpAny_done (by kernel_rfl) ?_ _
              have hlen2 := SA.out.len
              obtain ⟨W7, hW7⟩ : ∃ W, W = WC.setCell ⟨xb, 0, none⟩ (.slice (some ad) l c') := ⟨_, rfl⟩
              have HR7 : Hid (Rw W7 (.slice (some ad) l c') (fs.take k ++ ([f] ++ fs.drop k))) := Lib.hid (by rw [hW7]; exact OC.out.rw.beside BXC.out)
              have T7 := Lib.hid (TURN.out W7 hW7)
              have r7 := T7.out.1.cell 0 rfl; have rf7 := T7.out.1.free 0; have x7 := T7.out.2.1.cell 0 rfl
              have HW7 := Lib.hid hW7
              rw [hW7] at r7 rf7 x7
              clear hW7 x6 c0 c1 xc xcf
              go_wp2_with fail
              rw [← HW7.out]
              exact FIN.out _ _ W7 _ _ rfl rfl T7.out.1 (T7.out.2.2.1.less (by omega)) T7.out.2.2.2 HR7.out (by have := SA.out.len; have := SA.out.few; simp [List.length_take, List.length_drop]; omega) rfl
          · go_simp
            refine hK _ _ ?_
            clear hK KK
            try simp only [Act.put, List.setIfInBounds_toArray, List.set_cons_zero, List.set_cons_succ]
            refine wpAny_take (i := 14) (v := (.slice (some a14) (m - k) c14)) rfl (by kernel_rfl) (by kernel_rfl) (by kernel_rfl) (fun _ _ _ h => h) (Or.inl ⟨by rfl, fun wq => ?_⟩) ?_
            · go_simp
            try simp only [Act.put, List.setIfInBounds_toArray, List.set_cons_zero, List.set_cons_succ]
            refine wpAny_ready (rs := [9]) (by kernel_rfl) (by simp) (AllReady.cons rfl (fun KK hK => ?_) AllReady.nil)
            go_simp
            refine hK _ _ ?_
            clear hK KK
            try simp only [Act.put, List.setIfInBounds_toArray, List.set_cons_zero, List.set_cons_succ]
            refine wpAny_ready (rs := [10]) (by kernel_rfl) (by simp) (AllReady.cons rfl (fun KK hK => ?_) AllReady.nil)
            refine step_bldF rfl 61 60 rfl rfl rfl ?_
            intro WB hWB
            have SB : Hid (Spo w0 w WB g (n + 7) rb xb bb m cap fs) := Lib.hid (by rw [hWB]; exact SA.out.keep (kp_alloc _ _))
            have NB : Hid (Blk WB WA.heap.size 55 #[.string (st f.1), .string (st f.2)]) := Lib.hid (by rw [hWB, ← E1.out, ← E2.out]; exact Blk.new _ _ _)
            have KB : Hid (Kp WA WB) := Lib.hid (by rw [hWB]; exact kp_alloc _ _)
            have x6b := SB.out.xbk.cell 0 rfl
            clear hWB
            refine hK _ _ ?_
            clear hK KK
            try simp only [Act.put, List.setIfInBounds_toArray, List.set_cons_zero, List.set_cons_succ]
            refine wpAny_ready (rs := [15]) (by kernel_rfl) (by simp) (AllReady.cons rfl (fun KK hK => ?_) AllReady.nil)
            refine step_grF (b := ⟨WA.heap.size, 0, none⟩) (a' := a14) (n := 1) (cap := 1) (m := m - k) (c := c14) (fs := [f]) (gs := fs.drop k) rfl (.tmp 61) (.tmp 65) rfl rfl rfl (Rw.one NB.out HFM.out.1 HFM.out.2) (H14.out.keep KB.out) (by have := HK.out; omega) (by have := SA.out.few; omega) ?_
            intro ad1 l1 cc1 WD hD hl1
            have OD : Hid (Rw WD (.slice (some ad1) l1 cc1) ([f] ++ fs.drop k)) := Lib.hid hD.rw
            have SD : Hid (Spo w0 w WD g (n + 7) rb xb bb m cap fs) := Lib.hid (SB.out.keep hD.kp)
            have KD : Hid (Kp WA WD) := Lib.hid (Kp.trans KB.out hD.kp)
            have L1 := Lib.hid hl1
            have x6d := SD.out.xbk.cell 0 rfl
            clear hD hl1
            refine hK _ _ ?_
            clear hK KK
            try simp only [Act.put, List.setIfInBounds_toArray, List.set_cons_zero, List.set_cons_succ]
            refine wpAny_ready (rs := [16]) (by kernel_rfl) (by simp) (AllReady.cons rfl (fun KK hK => ?_) AllReady.nil)
            refine step_grF (b := ⟨bb, 0, none⟩) (a' := ad1) (n := k) (cap := k) (m := l1) (c := cc1) (fs := fs.take k) (gs := [f] ++ fs.drop k) rfl (.tmp 55) (.tmp 66) rfl rfl rfl (SD.out.heads (by have := HK.out; omega)) OD.out (by have := L1.out; omega) (by have := SA.out.few; have := L1.out; have := HK.out; omega) ?_
            intro ad l c' WC hC hl
            have OC := Lib.hid hC
            have TURN : Hid (∀ W', W' = WC.setCell ⟨xb, 0, none⟩ (.slice (some ad) l c') → Blk W' rb 28 #[.slice none 0 0] ∧ Blk W' xb 28 #[.slice (some ad) l c'] ∧ Tq w0 W' g (n + 7) ∧ Gr g w W') := Lib.hid (fun W' hW => (SD.out.turn (row := none) ⟨hC.kp.os, hC.kp.tape, hC.kp.output, hC.kp.size, fun i hi _ => hC.kp.block i hi⟩ (fun r hr => by simp at hr) hW).2)
            have BXC : Hid (Blk WC xb 28 #[.slice (some ⟨bb, 0, none⟩) m cap]) := Lib.hid (SD.out.xbk.keep hC.kp)
            have xc := BXC.out.cell 0 rfl; have xcf := BXC.out.free 0
            clear hC hl
            refine hK _ _ ?_
            clear hK KK
            try simp only [Act.put, List.setIfInBounds_toArray, List.set_cons_zero, List.set_cons_succ]
            refine wpAny_ready (rs := [17]) (by kernel_rfl) (by simp) (AllReady.cons rfl (fun KK hK => ?_) AllReady.nil)
            go_simp
            refine hK _ _ ?_
            clear hK KK
            try simp only [Act.put, List.setIfInBounds_toArray, List.set_cons_zero, List.set_cons_succ]
            refine wpAny_ready (rs := [18]) (by kernel_rfl) (by simp) (AllReady.cons rfl (fun KK hK => ?_) AllReady.nil)
            go_simp
            refine hK _ _ ?_
            clear hK KK
            try simp only [Act.put, List.setIfInBounds_toArray, List.set_cons_zero, List.set_cons_succ]
            refine wpAny_done (by kernel_rfl) ?_ _
            have hlen2 := SA.out.len
            obtain ⟨W7, hW7⟩ : ∃ W, W = WC.setCell ⟨xb, 0, none⟩ (.slice (some ad) l c') := ⟨_, rfl⟩
            have HR7 : Hid (Rw W7 (.slice (some ad) l c') (fs.take k ++ ([f] ++ fs.drop k))) := Lib.hid (by rw [hW7]; exact OC.out.rw.beside BXC.out)
            have T7 := Lib.hid (TURN.out W7 hW7)
            have r7 := T7.out.1.cell 0 rfl; have rf7 := T7.out.1.free 0; have x7 := T7.out.2.1.cell 0 rfl
            have HW7 := Lib.hid hW7
            rw [hW7] at r7 rf7 x7
            clear hW7 x6 c0 c1 xc xcf
            go_wp2_with fail
            rw [← HW7.out]
            exact FIN.out _ _ W7 _ _ rfl rfl T7.out.1 (T7.out.2.2.1.less (by omega)) T7.out.2.2.2 HR7.out (by have := SA.out.len; have := SA.out.few; simp [List.length_take, List.length_drop]; omega) rfl
        · go_simp
          refine hK _ _ ?_
          clear hK KK
          try simp only [Act.put, List.setIfInBounds_toArray, List.set_cons_zero, List.set_cons_succ]
          refine wpAny_take (i := 14) (v := (.slice (some a14) (m - k) c14)) rfl (by kernel_rfl) (by kernel_rfl) (by kernel_rfl) (fun _ _ _ h => h) (Or.inl ⟨by rfl, fun wq => ?_⟩) ?_
          · go_simp
          try simp only [Act.put, List.setIfInBounds_toArray, List.set_cons_zero, List.set_cons_succ]
          refine wpAny_ready (rs := [6]) (by kernel_rfl) (by simp) (AllReady.cons rfl (fun KK hK => ?_) AllReady.nil)
          go_simp
          refine hK _ _ ?_
          clear hK KK
          try simp only [Act.put, List.setIfInBounds_toArray, List.set_cons_zero, List.set_cons_succ]
          refine wpAny_take (i := 8) (v := (.pointer (some ⟨bb, 0 + k * 2, none⟩))) rfl (by kernel_rfl) (by kernel_rfl) (by kernel_rfl) (fun _ _ _ h => h) (Or.inl ⟨by rfl, fun wq => ?_⟩) ?_
          · go_simp
          try simp only [Act.put, List.setIfInBounds_toArray, List.set_cons_zero, List.set_cons_succ]
          refine wpAny_ready (rs := [9]) (by kernel_rfl) (by simp) (AllReady.cons rfl (fun KK hK => ?_) AllReady.nil)
          go_simp
          refine hK _ _ ?_
          clear hK KK
          try simp only [Act.put, List.setIfInBounds_toArray, List.set_cons_zero, List.set_cons_succ]
          refine wpAny_ready (rs := [10]) (by kernel_rfl) (by simp) (AllReady.cons rfl (fun KK hK => ?_) AllReady.nil)
          refine step_bldF rfl 61 60 rfl rfl rfl ?_
          intro WB hWB
          have SB : Hid (Spo w0 w WB g (n + 7) rb xb bb m cap fs) := Lib.hid (by rw [hWB]; exact SA.out.keep (kp_alloc _ _))
          have NB : Hid (Blk WB WA.heap.size 55 #[.string (st f.1), .string (st f.2)]) := Lib.hid (by rw [hWB, ← E1.out, ← E2.out]; exact Blk.new _ _ _)
          have KB : Hid (Kp WA WB) := Lib.hid (by rw [hWB]; exact kp_alloc _ _)
          have x6b := SB.out.xbk.cell 0 rfl
          clear hWB
          refine hK _ _ ?_
          clear hK KK
          try simp only [Act.put, List.setIfInBounds_toArray, List.set_cons_zero, List.set_cons_succ]
          refine wpAny_ready (rs := [15]) (by kernel_rfl) (by simp) (AllReady.cons rfl (fun KK hK => ?_) AllReady.nil)
          refine step_grF (b := ⟨WA.heap.size, 0, none⟩) (a' := a14) (n := 1) (cap := 1) (m := m - k) (c := c14) (fs := [f]) (gs := fs.drop k) rfl (.tmp 61) (.tmp 65) rfl rfl rfl (Rw.one NB.out HFM.out.1 HFM.out.2) (H14.out.keep KB.out) (by have := HK.out; omega) (by have := SA.out.few; omega) ?_
          intro ad1 l1 cc1 WD hD hl1
          have OD : Hid (Rw WD (.slice (some ad1) l1 cc1) ([f] ++ fs.drop k)) := Lib.hid hD.rw
          have SD : Hid (Spo w0 w WD g (n + 7) rb xb bb m cap fs) := Lib.hid (SB.out.keep hD.kp)
          have KD : Hid (Kp WA WD) := Lib.hid (Kp.trans KB.out hD.kp)
          have L1 := Lib.hid hl1
          have x6d := SD.out.xbk.cell 0 rfl
          clear hD hl1
          refine hK _ _ ?_
          clear hK KK
          try simp only [Act.put, List.setIfInBounds_toArray, List.set_cons_zero, List.set_cons_succ]
          refine wpAny_ready (rs := [16]) (by kernel_rfl) (by simp) (AllReady.cons rfl (fun KK hK => ?_) AllReady.nil)
          refine step_grF (b := ⟨bb, 0, none⟩) (a' := ad1) (n := k) (cap := k) (m := l1) (c := cc1) (fs := fs.take k) (gs := [f] ++ fs.drop k) rfl (.tmp 55) (.tmp 66) rfl rfl rfl (SD.out.heads (by have := HK.out; omega)) OD.out (by have := L1.out; omega) (by have := SA.out.few; have := L1.out; have := HK.out; omega) ?_
          intro ad l c' WC hC hl
          have OC := Lib.hid hC
          have TURN : Hid (∀ W', W' = WC.setCell ⟨xb, 0, none⟩ (.slice (some ad) l c') → Blk W' rb 28 #[.slice none 0 0] ∧ Blk W' xb 28 #[.slice (some ad) l c'] ∧ Tq w0 W' g (n + 7) ∧ Gr g w W') := Lib.hid (fun W' hW => (SD.out.turn (row := none) ⟨hC.kp.os, hC.kp.tape, hC.kp.output, hC.kp.size, fun i hi _ => hC.kp.block i hi⟩ (fun r hr => by simp at hr) hW).2)
          have BXC : Hid (Blk WC xb 28 #[.slice (some ⟨bb, 0, none⟩) m cap]) := Lib.hid (SD.out.xbk.keep hC.kp)
          have xc := BXC.out.cell 0 rfl; have xcf := BXC.out.free 0
          clear hC hl
          refine hK _ _ ?_
          clear hK KK
          try simp only [Act.put, List.setIfInBounds_toArray, List.set_cons_zero, List.set_cons_succ]
          refine wpAny_ready (rs := [17]) (by kernel_rfl) (by simp) (AllReady.cons rfl (fun KK hK => ?_) AllReady.nil)
          go_simp
          refine hK _ _ ?_
          clear hK KK
          try simp only [Act.put, List.setIfInBounds_toArray, List.set_cons_zero, List.set_cons_succ]
          refine wpAny_ready (rs := [18]) (by kernel_rfl) (by simp) (AllReady.cons rfl (fun KK hK => ?_) AllReady.nil)
          go_simp
          refine hK _ _ ?_
          clear hK KK
          try simp only [Act.put, List.setIfInBounds_toArray, List.set_cons_zero, List.set_cons_succ]
          refine wpAny_done (by kernel_rfl) ?_ _
          have hlen2 := SA.out.len
          obtain ⟨W7, hW7⟩ : ∃ W, W = WC.setCell ⟨xb, 0, none⟩ (.slice (some ad) l c') := ⟨_, rfl⟩
          have HR7 : Hid (Rw W7 (.slice (some ad) l c') (fs.take k ++ ([f] ++ fs.drop k))) := Lib.hid (by rw [hW7]; exact OC.out.rw.beside BXC.out)
          have T7 := Lib.hid (TURN.out W7 hW7)
          have r7 := T7.out.1.cell 0 rfl; have rf7 := T7.out.1.free 0; have x7 := T7.out.2.1.cell 0 rfl
          have HW7 := Lib.hid hW7
          rw [hW7] at r7 rf7 x7
          clear hW7 x6 c0 c1 xc xcf
          go_wp2_with fail
          rw [← HW7.out]
          exact FIN.out _ _ W7 _ _ rfl rfl T7.out.1 (T7.out.2.2.1.less (by omega)) T7.out.2.2.2 HR7.out (by have := SA.out.len; have := SA.out.few; simp [List.length_take, List.length_drop]; omega) rfl
      · go_simp
        refine hK _ _ ?_
        clear hK KK
        try simp only [Act.put, List.setIfInBounds_toArray, List.set_cons_zero, List.set_cons_succ]
        refine wpAny_take (i := 8) (v := (.pointer (some ⟨bb, 0 + k * 2, none⟩))) rfl (by kernel_rfl) (by kernel_rfl) (by kernel_rfl) (fun _ _ _ h => h) (Or.inl ⟨by rfl, fun wq => ?_⟩) ?_
        · go_simp
        try simp only [Act.put, List.setIfInBounds_toArray, List.set_cons_zero, List.set_cons_succ]
        refine wpAny_ready (rs := [1, 9, 12]) (by kernel_rfl) (by simp) (AllReady.cons rfl (fun KK hK => ?_) (AllReady.cons rfl (fun KK hK => ?_) (AllReady.cons rfl (fun KK hK => ?_) AllReady.nil)))
        · go_simp
          refine hK _ _ ?_
          clear hK KK
          try simp only [Act.put, List.setIfInBounds_toArray, List.set_cons_zero, List.set_cons_succ]
          refine wpAny_take (i := 4) (v := (.slice (some ⟨bb, 0, none⟩) k k)) rfl (by kernel_rfl) (by kernel_rfl) (by kernel_rfl) (fun _ _ _ h => h) (Or.inl ⟨by rfl, fun wq => ?_⟩) ?_
          · go_simp
          try simp only [Act.put, List.setIfInBounds_toArray, List.set_cons_zero, List.set_cons_succ]
          refine wpAny_ready (rs := [9, 12]) (by kernel_rfl) (by simp) (AllReady.cons rfl (fun KK hK => ?_) (AllReady.cons rfl (fun KK hK => ?_) AllReady.nil))
          · go_simp
            refine hK _ _ ?_
            clear hK KK
            try simp only [Act.put, List.setIfInBounds_toArray, List.set_cons_zero, List.set_cons_succ]
            refine wpAny_ready (rs := [10, 12]) (by kernel_rfl) (by simp) (AllReady.cons rfl (fun KK hK => ?_) (AllReady.cons rfl (fun KK hK => ?_) AllReady.nil))
            · refine step_bldF rfl 61 60 rfl rfl rfl ?_
              intro WB hWB
              have SB : Hid (Spo w0 w WB g (n + 7) rb xb bb m cap fs) := Lib.hid (by rw [hWB]; exact SA.out.keep (kp_alloc _ _))
              have NB : Hid (Blk WB WA.heap.size 55 #[.string (st f.1), .string (st f.2)]) := Lib.hid (by rw [hWB, ← E1.out, ← E2.out]; exact Blk.new _ _ _)
              have KB : Hid (Kp WA WB) := Lib.hid (by rw [hWB]; exact kp_alloc _ _)
              have x6b := SB.out.xbk.cell 0 rfl
              clear hWB
              refine hK _ _ ?_
              clear hK KK
              try simp only [Act.put, List.setIfInBounds_toArray, List.set_cons_zero, List.set_cons_succ]
              refine wpAny_ready (rs := [12]) (by kernel_rfl) (by simp) (AllReady.cons rfl (fun KK hK => ?_) AllReady.nil)
              go_simp
              refine hK _ _ ?_
              clear hK KK
              try simp only [Act.put, List.setIfInBounds_toArray, List.set_cons_zero, List.set_cons_succ]
              refine wpAny_take (i := 14) (v := (.slice (some a14) (m - k) c14)) rfl (by kernel_rfl) (by kernel_rfl) (by kernel_rfl) (fun _ _ _ h => h) (Or.inl ⟨by rfl, fun wq => ?_⟩) ?_
              · go_simp
              try simp only [Act.put, List.setIfInBounds_toArray, List.set_cons_zero, List.set_cons_succ]
              refine wpAny_ready (rs := [15]) (by kernel_rfl) (by simp) (AllReady.cons rfl (fun KK hK => ?_) AllReady.nil)
              refine step_grF (b := ⟨WA.heap.size, 0, none⟩) (a' := a14) (n := 1) (cap := 1) (m := m - k) (c := c14) (fs := [f]) (gs := fs.drop k) rfl (.tmp 61) (.tmp 65) rfl rfl rfl (Rw.one NB.out HFM.out.1 HFM.out.2) (H14.out.keep KB.out) (by have := HK.out; omega) (by have := SA.out.few; omega) ?_
              intro ad1 l1 cc1 WD hD hl1
              have OD : Hid (Rw WD (.slice (some ad1) l1 cc1) ([f] ++ fs.drop k)) := Lib.hid hD.rw
              have SD : Hid (Spo w0 w WD g (n + 7) rb xb bb m cap fs) := Lib.hid (SB.out.keep hD.kp)
              have KD : Hid (Kp WA WD) := Lib.hid (Kp.trans KB.out hD.kp)
              have L1 := Lib.hid hl1
              have x6d := SD.out.xbk.cell 0 rfl
              clear hD hl1
              refine hK _ _ ?_
              clear hK KK
              try simp only [Act.put, List.setIfInBounds_toArray, List.set_cons_zero, List.set_cons_succ]
              refine wpAny_ready (rs := [16]) (by kernel_rfl) (by simp) (AllReady.cons rfl (fun KK hK => ?_) AllReady.nil)
              refine step_grF (b := ⟨bb, 0, none⟩) (a' := ad1) (n := k) (cap := k) (m := l1) (c := cc1) (fs := fs.take k) (gs := [f] ++ fs.drop k) rfl (.tmp 55) (.tmp 66) rfl rfl rfl (SD.out.heads (by have := HK.out; omega)) OD.out (by have := L1.out; omega) (by have := SA.out.few; have := L1.out; have := HK.out; omega) ?_
              intro ad l c' WC hC hl
              have OC := Lib.hid hC
              have TURN : Hid (∀ W', W' = WC.setCell ⟨xb, 0, none⟩ (.slice (some ad) l c') → Blk W' rb 28 #[.slice none 0 0] ∧ Blk W' xb 28 #[.slice (some ad) l c'] ∧ Tq w0 W' g (n + 7) ∧ Gr g w W') := Lib.hid (fun W' hW => (SD.out.turn (row := none) ⟨hC.kp.os, hC.kp.tape, hC.kp.output, hC.kp.size, fun i hi _ => hC.kp.block i hi⟩ (fun r hr => by simp at hr) hW).2)
              have BXC : Hid (Blk WC xb 28 #[.slice (some ⟨bb, 0, none⟩) m cap]) := Lib.hid (SD.out.xbk.keep hC.kp)
              have xc := BXC.out.cell 0 rfl; have xcf := BXC.out.free 0
              clear hC hl
              refine hK _ _ ?_
              clear hK KK
              try simp only [Act.put, List.setIfInBounds_toArray, List.set_cons_zero, List.set_cons_succ]
              refine wpAny_ready (rs := [17]) (by kernel_rfl) (by simp) (AllReady.cons rfl (fun KK hK => ?_) AllReady.nil)
              go_simp
              refine hK _ _ ?_
              clear hK KK
              try simp only [Act.put, List.setIfInBounds_toArray, List.set_cons_zero, List.set_cons_succ]
              refine wpAny_ready (rs := [18]) (by kernel_rfl) (by simp) (AllReady.cons rfl (fun KK hK => ?_) AllReady.nil)
              go_simp
              refine hK _ _ ?_
              clear hK KK
              try simp only [Act.put, List.setIfInBounds_toArray, List.set_cons_zero, List.set_cons_succ]
              refine wpAny_done (by kernel_rfl) ?_ _
              have hlen2 := SA.out.len
              obtain ⟨W7, hW7⟩ : ∃ W, W = WC.setCell ⟨xb, 0, none⟩ (.slice (some ad) l c') := ⟨_, rfl⟩
              have HR7 : Hid (Rw W7 (.slice (some ad) l c') (fs.take k ++ ([f] ++ fs.drop k))) := Lib.hid (by rw [hW7]; exact OC.out.rw.beside BXC.out)
              have T7 := Lib.hid (TURN.out W7 hW7)
              have r7 := T7.out.1.cell 0 rfl; have rf7 := T7.out.1.free 0; have x7 := T7.out.2.1.cell 0 rfl
              have HW7 := Lib.hid hW7
              rw [hW7] at r7 rf7 x7
              clear hW7 x6 c0 c1 xc xcf
              go_wp2_with fail
              rw [← HW7.out]
              exact FIN.out _ _ W7 _ _ rfl rfl T7.out.1 (T7.out.2.2.1.less (by omega)) T7.out.2.2.2 HR7.out (by have := SA.out.len; have := SA.out.few; simp [List.length_take, List.length_drop]; omega) rfl
            · go_simp
              refine hK _ _ ?_
              clear hK KK
              try simp only [Act.put, List.setIfInBounds_toArray, List.set_cons_zero, List.set_cons_succ]
              refine wpAny_take (i := 14) (v := (.slice (some a14) (m - k) c14)) rfl (by kernel_rfl) (by kernel_rfl) (by kernel_rfl) (fun _ _ _ h => h) (Or.inl ⟨by rfl, fun wq => ?_⟩) ?_
              · go_simp
              try simp only [Act.put, List.setIfInBounds_toArray, List.set_cons_zero, List.set_cons_succ]
              refine wpAny_ready (rs := [10]) (by kernel_rfl) (by simp) (AllReady.cons rfl (fun KK hK => ?_) AllReady.nil)
              refine step_bldF rfl 61 60 rfl rfl rfl ?_
              intro WB hWB
              have SB : Hid (Spo w0 w WB g (n + 7) rb xb bb m cap fs) := Lib.hid (by rw [hWB]; exact SA.out.keep (kp_alloc _ _))
              have NB : Hid (Blk WB WA.heap.size 55 #[.string (st f.1), .string (st f.2)]) := Lib.hid (by rw [hWB, ← E1.out, ← E2.out]; exact Blk.new _ _ _)
              have KB : Hid (Kp WA WB) := Lib.hid (by rw [hWB]; exact kp_alloc _ _)
              have x6b := SB.out.xbk.cell 0 rfl
              clear hWB
              refine hK _ _ ?_
              clear hK KK
              try simp only [Act.put, List.setIfInBounds_toArray, List.set_cons_zero, List.set_cons_succ]
              refine wpAny_ready (rs := [15]) (by kernel_rfl) (by simp) (AllReady.cons rfl (fun KK hK => ?_) AllReady.nil)
              refine step_grF (b := ⟨WA.heap.size, 0, none⟩) (a' := a14) (n := 1) (cap := 1) (m := m - k) (c := c14) (fs := [f]) (gs := fs.drop k) rfl (.tmp 61) (.tmp 65) rfl rfl rfl (Rw.one NB.out HFM.out.1 HFM.out.2) (H14.out.keep KB.out) (by have := HK.out; omega) (by have := SA.out.few; omega) ?_
              intro ad1 l1 cc1 WD hD hl1
              have OD : Hid (Rw WD (.slice (some ad1) l1 cc1) ([f] ++ fs.drop k)) := Lib.hid hD.rw
              have SD : Hid (Spo w0 w WD g (n + 7) rb xb bb m cap fs) := Lib.hid (SB.out.keep hD.kp)
              have KD : Hid (Kp WA WD) := Lib.hid (Kp.trans KB.out hD.kp)
              have L1 := Lib.hid hl1
              have x6d := SD.out.xbk.cell 0 rfl
              clear hD hl1
              refine hK _ _ ?_
              clear hK KK
              try simp only [Act.put, List.setIfInBounds_toArray, List.set_cons_zero, List.set_cons_succ]
              refine wpAny_ready (rs := [16]) (by kernel_rfl) (by simp) (AllReady.cons rfl (fun KK hK => ?_) AllReady.nil)
              refine step_grF (b := ⟨bb, 0, none⟩) (a' := ad1) (n := k) (cap := k) (m := l1) (c := cc1) (fs := fs.take k) (gs := [f] ++ fs.drop k) rfl (.tmp 55) (.tmp 66) rfl rfl rfl (SD.out.heads (by have := HK.out; omega)) OD.out (by have := L1.out; omega) (by have := SA.out.few; have := L1.out; have := HK.out; omega) ?_
              intro ad l c' WC hC hl
              have OC := Lib.hid hC
              have TURN : Hid (∀ W', W' = WC.setCell ⟨xb, 0, none⟩ (.slice (some ad) l c') → Blk W' rb 28 #[.slice none 0 0] ∧ Blk W' xb 28 #[.slice (some ad) l c'] ∧ Tq w0 W' g (n + 7) ∧ Gr g w W') := Lib.hid (fun W' hW => (SD.out.turn (row := none) ⟨hC.kp.os, hC.kp.tape, hC.kp.output, hC.kp.size, fun i hi _ => hC.kp.block i hi⟩ (fun r hr => by simp at hr) hW).2)
              have BXC : Hid (Blk WC xb 28 #[.slice (some ⟨bb, 0, none⟩) m cap]) := Lib.hid (SD.out.xbk.keep hC.kp)
              have xc := BXC.out.cell 0 rfl; have xcf := BXC.out.free 0
              clear hC hl
              refine hK _ _ ?_
              clear hK KK
              try simp only [Act.put, List.setIfInBounds_toArray, List.set_cons_zero, List.set_cons_succ]
              refine wpAny_ready (rs := [17]) (by kernel_rfl) (by simp) (AllReady.cons rfl (fun KK hK => ?_) AllReady.nil)
              go_simp
              refine hK _ _ ?_
              clear hK KK
              try simp only [Act.put, List.setIfInBounds_toArray, List.set_cons_zero, List.set_cons_succ]
              refine wpAny_ready (rs := [18]) (by kernel_rfl) (by simp) (AllReady.cons rfl (fun KK hK => ?_) AllReady.nil)
              go_simp
              refine hK _ _ ?_
              clear hK KK
              try simp only [Act.put, List.setIfInBounds_toArray, List.set_cons_zero, List.set_cons_succ]
              refine wpAny_done (by kernel_rfl) ?_ _
              have hlen2 := SA.out.len
              obtain ⟨W7, hW7⟩ : ∃ W, W = WC.setCell ⟨xb, 0, none⟩ (.slice (some ad) l c') := ⟨_, rfl⟩
              have HR7 : Hid (Rw W7 (.slice (some ad) l c') (fs.take k ++ ([f] ++ fs.drop k))) := Lib.hid (by rw [hW7]; exact OC.out.rw.beside BXC.out)
              have T7 := Lib.hid (TURN.out W7 hW7)
              have r7 := T7.out.1.cell 0 rfl; have rf7 := T7.out.1.free 0; have x7 := T7.out.2.1.cell 0 rfl
              have HW7 := Lib.hid hW7
              rw [hW7] at r7 rf7 x7
              clear hW7 x6 c0 c1 xc xcf
              go_wp2_with fail
              rw [← HW7.out]
              exact FIN.out _ _ W7 _ _ rfl rfl T7.out.1 (T7.out.2.2.1.less (by omega)) T7.out.2.2.2 HR7.out (by have := SA.out.len; have := SA.out.few; simp [List.length_take, List.length_drop]; omega) rfl
          · go_simp
            refine hK _ _ ?_
            clear hK KK
            try simp only [Act.put, List.setIfInBounds_toArray, List.set_cons_zero, List.set_cons_succ]
            refine wpAny_take (i := 14) (v := (.slice (some a14) (m - k) c14)) rfl (by kernel_rfl) (by kernel_rfl) (by kernel_rfl) (fun _ _ _ h => h) (Or.inl ⟨by rfl, fun wq => ?_⟩) ?_
            · go_simp
            try simp only [Act.put, List.setIfInBounds_toArray, List.set_cons_zero, List.set_cons_succ]
            refine wpAny_ready (rs := [9]) (by kernel_rfl) (by simp) (AllReady.cons rfl (fun KK hK => ?_) AllReady.nil)
            go_simp
            refine hK _ _ ?_
            clear hK KK
            try simp only [Act.put, List.setIfInBounds_toArray, List.set_cons_zero, List.set_cons_succ]
            refine wpAny_ready (rs := [10]) (by kernel_rfl) (by simp) (AllReady.cons rfl (fun KK hK => ?_) AllReady.nil)
            refine step_bldF rfl 61 60 rfl rfl rfl ?_
            intro WB hWB
            have SB : Hid (Spo w0 w WB g (n + 7) rb xb bb m cap fs) := Lib.hid (by rw [hWB]; exact SA.out.keep (kp_alloc _ _))
            have NB : Hid (Blk WB WA.heap.size 55 #[.string (st f.1), .string (st f.2)]) := Lib.hid (by rw [hWB, ← E1.out, ← E2.out]; exact Blk.new _ _ _)
            have KB : Hid (Kp WA WB) := Lib.hid (by rw [hWB]; exact kp_alloc _ _)
            have x6b := SB.out.xbk.cell 0 rfl
            clear hWB
            refine hK _ _ ?_
            clear hK KK
            try simp only [Act.put, List.setIfInBounds_toArray, List.set_cons_zero, List.set_cons_succ]
            refine wpAny_ready (rs := [15]) (by kernel_rfl) (by simp) (AllReady.cons rfl (fun KK hK => ?_) AllReady.nil)
            refine step_grF (b := ⟨WA.heap.size, 0, none⟩) (a' := a14) (n := 1) (cap := 1) (m := m - k) (c := c14) (fs := [f]) (gs := fs.drop k) rfl (.tmp 61) (.tmp 65) rfl rfl rfl (Rw.one NB.out HFM.out.1 HFM.out.2) (H14.out.keep KB.out) (by have := HK.out; omega) (by have := SA.out.few; omega) ?_
            intro ad1 l1 cc1 WD hD hl1
            have OD : Hid (Rw WD (.slice (some ad1) l1 cc1) ([f] ++ fs.drop k)) := Lib.hid hD.rw
            have SD : Hid (Spo w0 w WD g (n + 7) rb xb bb m cap fs) := Lib.hid (SB.out.keep hD.kp)
            have KD : Hid (Kp WA WD) := Lib.hid (Kp.trans KB.out hD.kp)
            have L1 := Lib.hid hl1
            have x6d := SD.out.xbk.cell 0 rfl
            clear hD hl1
            refine hK _ _ ?_
            clear hK KK
            try simp only [Act.put, List.setIfInBounds_toArray, List.set_cons_zero, List.set_cons_succ]
            refine wpAny_ready (rs := [16]) (by kernel_rfl) (by simp) (AllReady.cons rfl (fun KK hK => ?_) AllReady.nil)
            refine step_grF (b := ⟨bb, 0, none⟩) (a' := ad1) (n := k) (cap := k) (m := l1) (c := cc1) (fs := fs.take k) (gs := [f] ++ fs.drop k) rfl (.tmp 55) (.tmp 66) rfl rfl rfl (SD.out.heads (by have := HK.out; omega)) OD.out (by have := L1.out; omega) (by have := SA.out.few; have := L1.out; have := HK.out; omega) ?_
            intro ad l c' WC hC hl
            have OC := Lib.hid hC
            have TURN : Hid (∀ W', W' = WC.setCell ⟨xb, 0, none⟩ (.slice (some ad) l c') → Blk W' rb 28 #[.slice none 0 0] ∧ Blk W' xb 28 #[.slice (some ad) l c'] ∧ Tq w0 W' g (n + 7) ∧ Gr g w W') := Lib.hid (fun W' hW => (SD.out.turn (row := none) ⟨hC.kp.os, hC.kp.tape, hC.kp.output, hC.kp.size, fun i hi _ => hC.kp.block i hi⟩ (fun r hr => by simp at hr) hW).2)
            have BXC : Hid (Blk WC xb 28 #[.slice (some ⟨bb, 0, none⟩) m cap]) := Lib.hid (SD.out.xbk.keep hC.kp)
            have xc := BXC.out.cell 0 rfl; have xcf := BXC.out.free 0
            clear hC hl
            refine hK _ _ ?_
            clear hK KK
            try simp only [Act.put, List.setIfInBounds_toArray, List.set_cons_zero, List.set_cons_succ]
            refine wpAny_ready (rs := [17]) (by kernel_rfl) (by simp) (AllReady.cons rfl (fun KK hK => ?_) AllReady.nil)
            go_simp
            refine hK _ _ ?_
            clear hK KK
            try simp only [Act.put, List.setIfInBounds_toArray, List.set_cons_zero, List.set_cons_succ]
            refine wpAny_ready (rs := [18]) (by kernel_rfl) (by simp) (AllReady.cons rfl (fun KK hK => ?_) AllReady.nil)
            go_simp
            refine hK _ _ ?_
            clear hK KK
            try simp only [Act.put, List.setIfInBounds_toArray, List.set_cons_zero, List.set_cons_succ]
            refine wpAny_done (by kernel_rfl) ?_ _
            have hlen2 := SA.out.len
            obtain ⟨W7, hW7⟩ : ∃ W, W = WC.setCell ⟨xb, 0, none⟩ (.slice (some ad) l c') := ⟨_, rfl⟩
            have HR7 : Hid (Rw W7 (.slice (some ad) l c') (fs.take k ++ ([f] ++ fs.drop k))) := Lib.hid (by rw [hW7]; exact OC.out.rw.beside BXC.out)
            have T7 := Lib.hid (TURN.out W7 hW7)
            have r7 := T7.out.1.cell 0 rfl; have rf7 := T7.out.1.free 0; have x7 := T7.out.2.1.cell 0 rfl
            have HW7 := Lib.hid hW7
            rw [hW7] at r7 rf7 x7
            clear hW7 x6 c0 c1 xc xcf
            go_wp2_with fail
            rw [← HW7.out]
            exact FIN.out _ _ W7 _ _ rfl rfl T7.out.1 (T7.out.2.2.1.less (by omega)) T7.out.2.2.2 HR7.out (by have := SA.out.len; have := SA.out.few; simp [List.length_take, List.length_drop]; omega) rfl
        · go_simp
          refine hK _ _ ?_
          clear hK KK
          try simp only [Act.put, List.setIfInBounds_toArray, List.set_cons_zero, List.set_cons_succ]
          refine wpAny_ready (rs := [1, 10, 12]) (by kernel_rfl) (by simp) (AllReady.cons rfl (fun KK hK => ?_) (AllReady.cons rfl (fun KK hK => ?_) (AllReady.cons rfl (fun KK hK => ?_) AllReady.nil)))
          · go_simp
            refine hK _ _ ?_
            clear hK KK
            try simp only [Act.put, List.setIfInBounds_toArray, List.set_cons_zero, List.set_cons_succ]
            refine wpAny_take (i := 4) (v := (.slice (some ⟨bb, 0, none⟩) k k)) rfl (by kernel_rfl) (by kernel_rfl) (by kernel_rfl) (fun _ _ _ h => h) (Or.inl ⟨by rfl, fun wq => ?_⟩) ?_
            · go_simp
            try simp only [Act.put, List.setIfInBounds_toArray, List.set_cons_zero, List.set_cons_succ]
            refine wpAny_ready (rs := [10, 12]) (by kernel_rfl) (by simp) (AllReady.cons rfl (fun KK hK => ?_) (AllReady.cons rfl (fun KK hK => ?_) AllReady.nil))
            · refine step_bldF rfl 61 60 rfl rfl rfl ?_
              intro WB hWB
              have SB : Hid (Spo w0 w WB g (n + 7) rb xb bb m cap fs) := Lib.hid (by rw [hWB]; exact SA.out.keep (kp_alloc _ _))
              have NB : Hid (Blk WB WA.heap.size 55 #[.string (st f.1), .string (st f.2)]) := Lib.hid (by rw [hWB, ← E1.out, ← E2.out]; exact Blk.new _ _ _)
              have KB : Hid (Kp WA WB) := Lib.hid (by rw [hWB]; exact kp_alloc _ _)
              have x6b := SB.out.xbk.cell 0 rfl
              clear hWB
              refine hK _ _ ?_
              clear hK KK
              try simp only [Act.put, List.setIfInBounds_toArray, List.set_cons_zero, List.set_cons_succ]
              refine wpAny_ready (rs := [12]) (by kernel_rfl) (by simp) (AllReady.cons rfl (fun KK hK => ?_) AllReady.nil)
              go_simp
              refine hK _ _ ?_
              clear hK KK
              try simp only [Act.put, List.setIfInBounds_toArray, List.set_cons_zero, List.set_cons_succ]
              refine wpAny_take (i := 14) (v := (.slice (some a14) (m - k) c14)) rfl (by kernel_rfl) (by kernel_rfl) (by kernel_rfl) (fun _ _ _ h => h) (Or.inl ⟨by rfl, fun wq => ?_⟩) ?_
              · go_simp
              try simp only [Act.put, List.setIfInBounds_toArray, List.set_cons_zero, List.set_cons_succ]
              refine wpAny_ready (rs := [15]) (by kernel_rfl) (by simp) (AllReady.cons rfl (fun KK hK => ?_) AllReady.nil)
              refine step_grF (b := ⟨WA.heap.size, 0, none⟩) (a' := a14) (n := 1) (cap := 1) (m := m - k) (c := c14) (fs := [f]) (gs := fs.drop k) rfl (.tmp 61) (.tmp 65) rfl rfl rfl (Rw.one NB.out HFM.out.1 HFM.out.2) (H14.out.keep KB.out) (by have := HK.out; omega) (by have := SA.out.few; omega) ?_
              intro ad1 l1 cc1 WD hD hl1
              have OD : Hid (Rw WD (.slice (some ad1) l1 cc1) ([f] ++ fs.drop k)) := Lib.hid hD.rw
              have SD : Hid (Spo w0 w WD g (n + 7) rb xb bb m cap fs) := Lib.hid (SB.out.keep hD.kp)
              have KD : Hid (Kp WA WD) := Lib.hid (Kp.trans KB.out hD.kp)
              have L1 := Lib.hid hl1
              have x6d := SD.out.xbk.cell 0 rfl
              clear hD hl1
              refine hK _ _ ?_
              clear hK KK
              try simp only [Act.put, List.setIfInBounds_toArray, List.set_cons_zero, List.set_cons_succ]
              refine wpAny_ready (rs := [16]) (by kernel_rfl) (by simp) (AllReady.cons rfl (fun KK hK => ?_) AllReady.nil)
              refine step_grF (b := ⟨bb, 0, none⟩) (a' := ad1) (n := k) (cap := k) (m := l1) (c := cc1) (fs := fs.take k) (gs := [f] ++ fs.drop k) rfl (.tmp 55) (.tmp 66) rfl rfl rfl (SD.out.heads (by have := HK.out; omega)) OD.out (by have := L1.out; omega) (by have := SA.out.few; have := L1.out; have := HK.out; omega) ?_
              intro ad l c' WC hC hl
              have OC := Lib.hid hC
              have TURN : Hid (∀ W', W' = WC.setCell ⟨xb, 0, none⟩ (.slice (some ad) l c') → Blk W' rb 28 #[.slice none 0 0] ∧ Blk W' xb 28 #[.slice (some ad) l c'] ∧ Tq w0 W' g (n + 7) ∧ Gr g w W') := Lib.hid (fun W' hW => (SD.out.turn (row := none) ⟨hC.kp.os, hC.kp.tape, hC.kp.output, hC.kp.size, fun i hi _ => hC.kp.block i hi⟩ (fun r hr => by simp at hr) hW).2)
              have BXC : Hid (Blk WC xb 28 #[.slice (some ⟨bb, 0, none⟩) m cap]) := Lib.hid (SD.out.xbk.keep hC.kp)
              have xc := BXC.out.cell 0 rfl; have xcf := BXC.out.free 0
              clear hC hl
              refine hK _ _ ?_
              clear hK KK
              try simp only [Act.put, List.setIfInBounds_toArray, List.set_cons_zero, List.set_cons_succ]
              refine wpAny_ready (rs := [17]) (by kernel_rfl) (by simp) (AllReady.cons rfl (fun KK hK => ?_) AllReady.nil)
              go_simp
              refine hK _ _ ?_
              clear hK KK
              try simp only [Act.put, List.setIfInBounds_toArray, List.set_cons_zero, List.set_cons_succ]
              refine wpAny_ready (rs := [18]) (by kernel_rfl) (by simp) (AllReady.cons rfl (fun KK hK => ?_) AllReady.nil)
              go_simp
              refine hK _ _ ?_
              clear hK KK
              try simp only [Act.put, List.setIfInBounds_toArray, List.set_cons_zero, List.set_cons_succ]
              refine wpAny_done (by kernel_rfl) ?_ _
              have hlen2 := SA.out.len
              obtain ⟨W7, hW7⟩ : ∃ W, W = WC.setCell ⟨xb, 0, none⟩ (.slice (some ad) l c') := ⟨_, rfl⟩
              have HR7 : Hid (Rw W7 (.slice (some ad) l c') (fs.take k ++ ([f] ++ fs.drop k))) := Lib.hid (by rw [hW7]; exact OC.out.rw.beside BXC.out)
              have T7 := Lib.hid (TURN.out W7 hW7)
              have r7 := T7.out.1.cell 0 rfl; have rf7 := T7.out.1.free 0; have x7 := T7.out.2.1.cell 0 rfl
              have HW7 := Lib.hid hW7
              rw [hW7] at r7 rf7 x7
              clear hW7 x6 c0 c1 xc xcf
              go_wp2_with fail
              rw [← HW7.out]
              exact FIN.out _ _ W7 _ _ rfl rfl T7.out.1 (T7.out.2.2.1.less (by omega)) T7.out.2.2.2 HR7.out (by have := SA.out.len; have := SA.out.few; simp [List.length_take, List.length_drop]; omega) rfl
            · go_simp
              refine hK _ _ ?_
              clear hK KK
              try simp only [Act.put, List.setIfInBounds_toArray, List.set_cons_zero, List.set_cons_succ]
              refine wpAny_take (i := 14) (v := (.slice (some a14) (m - k) c14)) rfl (by kernel_rfl) (by kernel_rfl) (by kernel_rfl) (fun _ _ _ h => h) (Or.inl ⟨by rfl, fun wq => ?_⟩) ?_
              · go_simp
              try simp only [Act.put, List.setIfInBounds_toArray, List.set_cons_zero, List.set_cons_succ]
              refine wpAny_ready (rs := [10]) (by kernel_rfl) (by simp) (AllReady.cons rfl (fun KK hK => ?_) AllReady.nil)
              refine step_bldF rfl 61 60 rfl rfl rfl ?_
              intro WB hWB
              have SB : Hid (Spo w0 w WB g (n + 7) rb xb bb m cap fs) := Lib.hid (by rw [hWB]; exact SA.out.keep (kp_alloc _ _))
              have NB : Hid (Blk WB WA.heap.size 55 #[.string (st f.1), .string (st f.2)]) := Lib.hid (by rw [hWB, ← E1.out, ← E2.out]; exact Blk.new _ _ _)
              have KB : Hid (Kp WA WB) := Lib.hid (by rw [hWB]; exact kp_alloc _ _)
              have x6b := SB.out.xbk.cell 0 rfl
              clear hWB
              refine hK _ _ ?_
              clear hK KK
              try simp only [Act.put, List.setIfInBounds_toArray, List.set_cons_zero, List.set_cons_succ]
              refine wpAny_ready (rs := [15]) (by kernel_rfl) (by simp) (AllReady.cons rfl (fun KK hK => ?_) AllReady.nil)
              refine step_grF (b := ⟨WA.heap.size, 0, none⟩) (a' := a14) (n := 1) (cap := 1) (m := m - k) (c := c14) (fs := [f]) (gs := fs.drop k) rfl (.tmp 61) (.tmp 65) rfl rfl rfl (Rw.one NB.out HFM.out.1 HFM.out.2) (H14.out.keep KB.out) (by have := HK.out; omega) (by have := SA.out.few; omega) ?_
              intro ad1 l1 cc1 WD hD hl1
              have OD : Hid (Rw WD (.slice (some ad1) l1 cc1) ([f] ++ fs.drop k)) := Lib.hid hD.rw
              have SD : Hid (Spo w0 w WD g (n + 7) rb xb bb m cap fs) := Lib.hid (SB.out.keep hD.kp)
              have KD : Hid (Kp WA WD) := Lib.hid (Kp.trans KB.out hD.kp)
              have L1 := Lib.hid hl1
              have x6d := SD.out.xbk.cell 0 rfl
              clear hD hl1
              refine hK _ _ ?_
              clear hK KK
              try simp only [Act.put, List.setIfInBounds_toArray, List.set_cons_zero, List.set_cons_succ]
              refine wpAny_ready (rs := [16]) (by kernel_rfl) (by simp) (AllReady.cons rfl (fun KK hK => ?_) AllReady.nil)
              refine step_grF (b := ⟨bb, 0, none⟩) (a' := ad1) (n := k) (cap := k) (m := l1) (c := cc1) (fs := fs.take k) (gs := [f] ++ fs.drop k) rfl (.tmp 55) (.tmp 66) rfl rfl rfl (SD.out.heads (by have := HK.out; omega)) OD.out (by have := L1.out; omega) (by have := SA.out.few; have := L1.out; have := HK.out; omega) ?_
              intro ad l c' WC hC hl
              have OC := Lib.hid hC
              have TURN : Hid (∀ W', W' = WC.setCell ⟨xb, 0, none⟩ (.slice (some ad) l c') → Blk W' rb 28 #[.slice none 0 0] ∧ Blk W' xb 28 #[.slice (some ad) l c'] ∧ Tq w0 W' g (n + 7) ∧ Gr g w W') := Lib.hid (fun W' hW => (SD.out.turn (row := none) ⟨hC.kp.os, hC.kp.tape, hC.kp.output, hC.kp.size, fun i hi _ => hC.kp.block i hi⟩ (fun r hr => by simp at hr) hW).2)
              have BXC : Hid (Blk WC xb 28 #[.slice (some ⟨bb, 0, none⟩) m cap]) := Lib.hid (SD.out.xbk.keep hC.kp)
              have xc := BXC.out.cell 0 rfl; have xcf := BXC.out.free 0
              clear hC hl
              refine hK _ _ ?_
              clear hK KK
              try simp only [Act.put, List.setIfInBounds_toArray, List.set_cons_zero, List.set_cons_succ]
              refine wpAny_ready (rs := [17]) (by kernel_rfl) (by simp) (AllReady.cons rfl (fun KK hK => ?_) AllReady.nil)
              go_simp
              refine hK _ _ ?_
              clear hK KK
              try simp only [Act.put, List.setIfInBounds_toArray, List.set_cons_zero, List.set_cons_succ]
              refine wpAny_ready (rs := [18]) (by kernel_rfl) (by simp) (AllReady.cons rfl (fun KK hK => ?_) AllReady.nil)
              go_simp
              refine hK _ _ ?_
              clear hK KK
              try simp only [Act.put, List.setIfInBounds_toArray, List.set_cons_zero, List.set_cons_succ]
              refine wpAny_done (by kernel_rfl) ?_ _
              have hlen2 := SA.out.len
              obtain ⟨W7, hW7⟩ : ∃ W, W = WC.setCell ⟨xb, 0, none⟩ (.slice (some ad) l c') := ⟨_, rfl⟩
              have HR7 : Hid (Rw W7 (.slice (some ad) l c') (fs.take k ++ ([f] ++ fs.drop k))) := Lib.hid (by rw [hW7]; exact OC.out.rw.beside BXC.out)
              have T7 := Lib.hid (TURN.out W7 hW7)
              have r7 := T7.out.1.cell 0 rfl; have rf7 := T7.out.1.free 0; have x7 := T7.out.2.1.cell 0 rfl
              have HW7 := Lib.hid hW7
              rw [hW7] at r7 rf7 x7
              clear hW7 x6 c0 c1 xc xcf
              go_wp2_with fail
              rw [← HW7.out]
              exact FIN.out _ _ W7 _ _ rfl rfl T7.out.1 (T7.out.2.2.1.less (by omega)) T7.out.2.2.2 HR7.out (by have := SA.out.len; have := SA.out.few; simp [List.length_take, List.length_drop]; omega) rfl
          · refine step_bldF rfl 61 60 rfl rfl rfl ?_
            intro WB hWB
            have SB : Hid (Spo w0 w WB g (n + 7) rb xb bb m cap fs) := Lib.hid (by rw [hWB]; exact SA.out.keep (kp_alloc _ _))
            have NB : Hid (Blk WB WA.heap.size 55 #[.string (st f.1), .string (st f.2)]) := Lib.hid (by rw [hWB, ← E1.out, ← E2.out]; exact Blk.new _ _ _)
            have KB : Hid (Kp WA WB) := Lib.hid (by rw [hWB]; exact kp_alloc _ _)
            have x6b := SB.out.xbk.cell 0 rfl
            clear hWB
            refine hK _ _ ?_
            clear hK KK
            try simp only [Act.put, List.setIfInBounds_toArray, List.set_cons_zero, List.set_cons_succ]
            refine wpAny_ready (rs := [1, 12]) (by kernel_rfl) (by simp) (AllReady.cons rfl (fun KK hK => ?_) (AllReady.cons rfl (fun KK hK => ?_) AllReady.nil))
            · go_simp
              refine hK _ _ ?_
              clear hK KK
              try simp only [Act.put, List.setIfInBounds_toArray, List.set_cons_zero, List.set_cons_succ]
              refine wpAny_take (i := 4) (v := (.slice (some ⟨bb, 0, none⟩) k k)) rfl (by kernel_rfl) (by kernel_rfl) (by kernel_rfl) (fun _ _ _ h => h) (Or.inl ⟨by rfl, fun wq => ?_⟩) ?_
              · go_simp
              try simp only [Act.put, List.setIfInBounds_toArray, List.set_cons_zero, List.set_cons_succ]
              refine wpAny_ready (rs := [12]) (by kernel_rfl) (by simp) (AllReady.cons rfl (fun KK hK => ?_) AllReady.nil)
              go_simp
              refine hK _ _ ?_
              clear hK KK
              try simp only [Act.put, List.setIfInBounds_toArray, List.set_cons_zero, List.set_cons_succ]
              refine wpAny_take (i := 14) (v := (.slice (some a14) (m - k) c14)) rfl (by kernel_rfl) (by kernel_rfl) (by kernel_rfl) (fun _ _ _ h => h) (Or.inl ⟨by rfl, fun wq => ?_⟩) ?_
              · go_simp
              try simp only [Act.put, List.setIfInBounds_toArray, List.set_cons_zero, List.set_cons_succ]
              refine wpAny_ready (rs := [15]) (by kernel_rfl) (by simp) (AllReady.cons rfl (fun KK hK => ?_) AllReady.nil)
              refine step_grF (b := ⟨WA.heap.size, 0, none⟩) (a' := a14) (n := 1) (cap := 1) (m := m - k) (c := c14) (fs := [f]) (gs := fs.drop k) rfl (.tmp 61) (.tmp 65) rfl rfl rfl (Rw.one NB.out HFM.out.1 HFM.out.2) (H14.out.keep KB.out) (by have := HK.out; omega) (by have := SA.out.few; omega) ?_
              intro ad1 l1 cc1 WD hD hl1
              have OD : Hid (Rw WD (.slice (some ad1) l1 cc1) ([f] ++ fs.drop k)) := Lib.hid hD.rw
              have SD : Hid (Spo w0 w WD g (n + 7) rb xb bb m cap fs) := Lib.hid (SB.out.keep hD.kp)
              have KD : Hid (Kp WA WD) := Lib.hid (Kp.trans KB.out hD.kp)
              have L1 := Lib.hid hl1
              have x6d := SD.out.xbk.cell 0 rfl
              clear hD hl1
              refine hK _ _ ?_
              clear hK KK
              try simp only [Act.put, List.setIfInBounds_toArray, List.set_cons_zero, List.set_cons_succ]
              refine wpAny_ready (rs := [16]) (by kernel_rfl) (by simp) (AllReady.cons rfl (fun KK hK => ?_) AllReady.nil)
              refine step_grF (b := ⟨bb, 0, none⟩) (a' := ad1) (n := k) (cap := k) (m := l1) (c := cc1) (fs := fs.take k) (gs := [f] ++ fs.drop k) rfl (.tmp 55) (.tmp 66) rfl rfl rfl (SD.out.heads (by have := HK.out; omega)) OD.out (by have := L1.out; omega) (by have := SA.out.few; have := L1.out; have := HK.out; omega) ?_
              intro ad l c' WC hC hl
              have OC := Lib.hid hC
              have TURN : Hid (∀ W', W' = WC.setCell ⟨xb, 0, none⟩ (.slice (some ad) l c') → Blk W' rb 28 #[.slice none 0 0] ∧ Blk W' xb 28 #[.slice (some ad) l c'] ∧ Tq w0 W' g (n + 7) ∧ Gr g w W') := Lib.hid (fun W' hW => (SD.out.turn (row := none) ⟨hC.kp.os, hC.kp.tape, hC.kp.output, hC.kp.size, fun i hi _ => hC.kp.block i hi⟩ (fun r hr => by simp at hr) hW).2)
              have BXC : Hid (Blk WC xb 28 #[.slice (some ⟨bb, 0, none⟩) m cap]) := Lib.hid (SD.out.xbk.keep hC.kp)
              have xc := BXC.out.cell 0 rfl; have xcf := BXC.out.free 0
              clear hC hl
              refine hK _ _ ?_
              clear hK KK
              try simp only [Act.put, List.setIfInBounds_toArray, List.set_cons_zero, List.set_cons_succ]
              refine wpAny_ready (rs := [17]) (by kernel_rfl) (by simp) (AllReady.cons rfl (fun KK hK => ?_) AllReady.nil)
              go_simp
              refine hK _ _ ?_
              clear hK KK
              try simp only [Act.put, List.setIfInBounds_toArray, List.set_cons_zero, List.set_cons_succ]
              refine wpAny_ready (rs := [18]) (by kernel_rfl) (by simp) (AllReady.cons rfl (fun KK hK => ?_) AllReady.nil)
              go_simp
              refine hK _ _ ?_
              clear hK KK
              try simp only [Act.put, List.setIfInBounds_toArray, List.set_cons_zero, List.set_cons_succ]
              refine wpAny_done (by kernel_rfl) ?_ _
              have hlen2 := SA.out.len
              obtain ⟨W7, hW7⟩ : ∃ W, W = WC.setCell ⟨xb, 0, none⟩ (.slice (some ad) l c') := ⟨_, rfl⟩
              have HR7 : Hid (Rw W7 (.slice (some ad) l c') (fs.take k ++ ([f] ++ fs.drop k))) := Lib.hid (by rw [hW7]; exact OC.out.rw.beside BXC.out)
              have T7 := Lib.hid (TURN.out W7 hW7)
              have r7 := T7.out.1.cell 0 rfl; have rf7 := T7.out.1.free 0; have x7 := T7.out.2.1.cell 0 rfl
              have HW7 := Lib.hid hW7
              rw [hW7] at r7 rf7 x7
              clear hW7 x6 c0 c1 xc xcf
              go_wp2_with fail
              rw [← HW7.out]
              exact FIN.out _ _ W7 _ _ rfl rfl T7.out.1 (T7.out.2.2.1.less (by omega)) T7.out.2.2.2 HR7.out (by have := SA.out.len; have := SA.out.few; simp [List.length_take, List.length_drop]; omega) rfl
            · go_simp
              refine hK _ _ ?_
              clear hK KK
              try simp only [Act.put, List.setIfInBounds_toArray, List.set_cons_zero, List.set_cons_succ]
              refine wpAny_take (i := 14) (v := (.slice (some a14) (m - k) c14)) rfl (by kernel_rfl) (by kernel_rfl) (by kernel_rfl) (fun _ _ _ h => h) (Or.inl ⟨by rfl, fun wq => ?_⟩) ?_
              · go_simp
              try simp only [Act.put, List.setIfInBounds_toArray, List.set_cons_zero, List.set_cons_succ]
              refine wpAny_ready (rs := [1, 15]) (by kernel_rfl) (by simp) (AllReady.cons rfl (fun KK hK => ?_) (AllReady.cons rfl (fun KK hK => ?_) AllReady.nil))
              · go_simp
                refine hK _ _ ?_
                clear hK KK
                try simp only [Act.put, List.setIfInBounds_toArray, List.set_cons_zero, List.set_cons_succ]
                refine wpAny_take (i := 4) (v := (.slice (some ⟨bb, 0, none⟩) k k)) rfl (by kernel_rfl) (by kernel_rfl) (by kernel_rfl) (fun _ _ _ h => h) (Or.inl ⟨by rfl, fun wq => ?_⟩) ?_
                · go_simp
                try simp only [Act.put, List.setIfInBounds_toArray, List.set_cons_zero, List.set_cons_succ]
                refine wpAny_ready (rs := [15]) (by kernel_rfl) (by simp) (AllReady.cons rfl (fun KK hK => ?_) AllReady.nil)
                refine step_grF (b := ⟨WA.heap.size, 0, none⟩) (a' := a14) (n := 1) (cap := 1) (m := m - k) (c := c14) (fs := [f]) (gs := fs.drop k) rfl (.tmp 61) (.tmp 65) rfl rfl rfl (Rw.one NB.out HFM.out.1 HFM.out.2) (H14.out.keep KB.out) (by have := HK.out; omega) (by have := SA.out.few; omega) ?_
                intro ad1 l1 cc1 WD hD hl1
                have OD : Hid (Rw WD (.slice (some ad1) l1 cc1) ([f] ++ fs.drop k)) := Lib.hid hD.rw
                have SD : Hid (Spo w0 w WD g (n + 7) rb xb bb m cap fs) := Lib.hid (SB.out.keep hD.kp)
                have KD : Hid (Kp WA WD) := Lib.hid (Kp.trans KB.out hD.kp)
                have L1 := Lib.hid hl1
                have x6d := SD.out.xbk.cell 0 rfl
                clear hD hl1
                refine hK _ _ ?_
                clear hK KK
                try simp only [Act.put, List.setIfInBounds_toArray, List.set_cons_zero, List.set_cons_succ]
                refine wpAny_ready (rs := [16]) (by kernel_rfl) (by simp) (AllReady.cons rfl (fun KK hK => ?_) AllReady.nil)
                refine step_grF (b := ⟨bb, 0, none⟩) (a' := ad1) (n := k) (cap := k) (m := l1) (c := cc1) (fs := fs.take k) (gs := [f] ++ fs.drop k) rfl (.tmp 55) (.tmp 66) rfl rfl rfl (SD.out.heads (by have := HK.out; omega)) OD.out (by have := L1.out; omega) (by have := SA.out.few; have := L1.out; have := HK.out; omega) ?_
                intro ad l c' WC hC hl
                have OC := Lib.hid hC
                have TURN : Hid (∀ W', W' = WC.setCell ⟨xb, 0, none⟩ (.slice (some ad) l c') → Blk W' rb 28 #[.slice none 0 0] ∧ Blk W' xb 28 #[.slice (some ad) l c'] ∧ Tq w0 W' g (n + 7) ∧ Gr g w W') := Lib.hid (fun W' hW => (SD.out.turn (row := none) ⟨hC.kp.os, hC.kp.tape, hC.kp.output, hC.kp.size, fun i hi _ => hC.kp.block i hi⟩ (fun r hr => by simp at hr) hW).2)
                have BXC : Hid (Blk WC xb 28 #[.slice (some ⟨bb, 0, none⟩) m cap]) := Lib.hid (SD.out.xbk.keep hC.kp)
                have xc := BXC.out.cell 0 rfl; have xcf := BXC.out.free 0
                clear hC hl
                refine hK _ _ ?_
                clear hK KK
                try simp only [Act.put, List.setIfInBounds_toArray, List.set_cons_zero, List.set_cons_succ]
                refine wpAny_ready (rs := [17]) (by kernel_rfl) (by simp) (AllReady.cons rfl (fun KK hK => ?_) AllReady.nil)
                go_simp
                refine hK _ _ ?_
                clear hK KK
                try simp only [Act.put, List.setIfInBounds_toArray, List.set_cons_zero, List.set_cons_succ]
                refine wpAny_ready (rs := [18]) (by kernel_rfl) (by simp) (AllReady.cons rfl (fun KK hK => ?_) AllReady.nil)
                go_simp
                refine hK _ _ ?_
                clear hK KK
                try simp only [Act.put, List.setIfInBounds_toArray, List.set_cons_zero, List.set_cons_succ]
                refine wpAny_done (by kernel_rfl) ?_ _
                have hlen2 := SA.out.len
                obtain ⟨W7, hW7⟩ : ∃ W, W = WC.setCell ⟨xb, 0, none⟩ (.slice (some ad) l c') := ⟨_, rfl⟩
                have HR7 : Hid (Rw W7 (.slice (some ad) l c') (fs.take k ++ ([f] ++ fs.drop k))) := Lib.hid (by rw [hW7]; exact OC.out.rw.beside BXC.out)
                have T7 := Lib.hid (TURN.out W7 hW7)
                have r7 := T7.out.1.cell 0 rfl; have rf7 := T7.out.1.free 0; have x7 := T7.out.2.1.cell 0 rfl
                have HW7 := Lib.hid hW7
                rw [hW7] at r7 rf7 x7
                clear hW7 x6 c0 c1 xc xcf
                go_wp2_with fail
                rw [← HW7.out]
                exact FIN.out _ _ W7 _ _ rfl rfl T7.out.1 (T7.out.2.2.1.less (by omega)) T7.out.2.2.2 HR7.out (by have := SA.out.len; have := SA.out.few; simp [List.length_take, List.length_drop]; omega) rfl
              · refine step_grF (b := ⟨WA.heap.size, 0, none⟩) (a' := a14) (n := 1) (cap := 1) (m := m - k) (c := c14) (fs := [f]) (gs := fs.drop k) rfl (.tmp 61) (.tmp 65) rfl rfl rfl (Rw.one NB.out HFM.out.1 HFM.out.2) (H14.out.keep KB.out) (by have := HK.out; omega) (by have := SA.out.few; omega) ?_
                intro ad1 l1 cc1 WD hD hl1
                have OD : Hid (Rw WD (.slice (some ad1) l1 cc1) ([f] ++ fs.drop k)) := Lib.hid hD.rw
                have SD : Hid (Spo w0 w WD g (n + 7) rb xb bb m cap fs) := Lib.hid (SB.out.keep hD.kp)
                have KD : Hid (Kp WA WD) := Lib.hid (Kp.trans KB.out hD.kp)
                have L1 := Lib.hid hl1
                have x6d := SD.out.xbk.cell 0 rfl
                clear hD hl1
                refine hK _ _ ?_
                clear hK KK
                try simp only [Act.put, List.setIfInBounds_toArray, List.set_cons_zero, List.set_cons_succ]
                refine wpAny_ready (rs := [1]) (by kernel_rfl) (by simp) (AllReady.cons rfl (fun KK hK => ?_) AllReady.nil)
                go_simp
                refine hK _ _ ?_
                clear hK KK
                try simp only [Act.put, List.setIfInBounds_toArray, List.set_cons_zero, List.set_cons_succ]
                refine wpAny_take (i := 4) (v := (.slice (some ⟨bb, 0, none⟩) k k)) rfl (by kernel_rfl) (by kernel_rfl) (by kernel_rfl) (fun _ _ _ h => h) (Or.inl ⟨by rfl, fun wq => ?_⟩) ?_
                · go_simp
                try simp only [Act.put, List.setIfInBounds_toArray, List.set_cons_zero, List.set_cons_succ]
                refine wpAny_ready (rs := [16]) (by kernel_rfl) (by simp) (AllReady.cons rfl (fun KK hK => ?_) AllReady.nil)
                refine step_grF (b := ⟨bb, 0, none⟩) (a' := ad1) (n := k) (cap := k) (m := l1) (c := cc1) (fs := fs.take k) (gs := [f] ++ fs.drop k) rfl (.tmp 55) (.tmp 66) rfl rfl rfl (SD.out.heads (by have := HK.out; omega)) OD.out (by have := L1.out; omega) (by have := SA.out.few; have := L1.out; have := HK.out; omega) ?_
                intro ad l c' WC hC hl
                have OC := Lib.hid hC
                have TURN : Hid (∀ W', W' = WC.setCell ⟨xb, 0, none⟩ (.slice (some ad) l c') → Blk W' rb 28 #[.slice none 0 0] ∧ Blk W' xb 28 #[.slice (some ad) l c'] ∧ Tq w0 W' g (n + 7) ∧ Gr g w W') := Lib.hid (fun W' hW => (SD.out.turn (row := none) ⟨hC.kp.os, hC.kp.tape, hC.kp.output, hC.kp.size, fun i hi _ => hC.kp.block i hi⟩ (fun r hr => by simp at hr) hW).2)
                have BXC : Hid (Blk WC xb 28 #[.slice (some ⟨bb, 0, none⟩) m cap]) := Lib.hid (SD.out.xbk.keep hC.kp)
                have xc := BXC.out.cell 0 rfl; have xcf := BXC.out.free 0
                clear hC hl
                refine hK _ _ ?_
                clear hK KK
                try simp only [Act.put, List.setIfInBounds_toArray, List.set_cons_zero, List.set_cons_succ]
                refine wpAny_ready (rs := [17]) (by kernel_rfl) (by simp) (AllReady.cons rfl (fun KK hK => ?_) AllReady.nil)
                go_simp
                refine hK _ _ ?_
                clear hK KK
                try simp only [Act.put, List.setIfInBounds_toArray, List.set_cons_zero, List.set_cons_succ]
                refine wpAny_ready (rs := [18]) (by kernel_rfl) (by simp) (AllReady.cons rfl (fun KK hK => ?_) AllReady.nil)
                go_simp
                refine hK _ _ ?_
                clear hK KK
                try simp only [Act.put, List.setIfInBounds_toArray, List.set_cons_zero, List.set_cons_succ]
                refine wpAny_done (by kernel_rfl) ?_ _
                have hlen2 := SA.out.len
                obtain ⟨W7, hW7⟩ : ∃ W, W = WC.setCell ⟨xb, 0, none⟩ (.slice (some ad) l c') := ⟨_, rfl⟩
                have HR7 : Hid (Rw W7 (.slice (some ad) l c') (fs.take k ++ ([f] ++ fs.drop k))) := Lib.hid (by rw [hW7]; exact OC.out.rw.beside BXC.out)
                have T7 := Lib.hid (TURN.out W7 hW7)
                have r7 := T7.out.1.cell 0 rfl; have rf7 := T7.out.1.free 0; have x7 := T7.out.2.1.cell 0 rfl
                have HW7 := Lib.hid hW7
                rw [hW7] at r7 rf7 x7
                clear hW7 x6 c0 c1 xc xcf
                go_wp2_with fail
                rw [← HW7.out]
                exact FIN.out _ _ W7 _ _ rfl rfl T7.out.1 (T7.out.2.2.1.less (by omega)) T7.out.2.2.2 HR7.out (by have := SA.out.len; have := SA.out.few; simp [List.length_take, List.length_drop]; omega) rfl
          · go_simp
            refine hK _ _ ?_
            clear hK KK
            try simp only [Act.put, List.setIfInBounds_toArray, List.set_cons_zero, List.set_cons_succ]
            refine wpAny_take (i := 14) (v := (.slice (some a14) (m - k) c14)) rfl (by kernel_rfl) (by kernel_rfl) (by kernel_rfl) (fun _ _ _ h => h) (Or.inl ⟨by rfl, fun wq => ?_⟩) ?_
            · go_simp
            try simp only [Act.put, List.setIfInBounds_toArray, List.set_cons_zero, List.set_cons_succ]
            refine wpAny_ready (rs := [1, 10]) (by kernel_rfl) (by simp) (AllReady.cons rfl (fun KK hK => ?_) (AllReady.cons rfl (fun KK hK => ?_) AllReady.nil))
            · go_simp
              refine hK _ _ ?_
              clear hK KK
              try simp only [Act.put, List.setIfInBounds_toArray, List.set_cons_zero, List.set_cons_succ]
              refine wpAny_take (i := 4) (v := (.slice (some ⟨bb, 0, none⟩) k k)) rfl (by kernel_rfl) (by kernel_rfl) (by kernel_rfl) (fun _ _ _ h => h) (Or.inl ⟨by rfl, fun wq => ?_⟩) ?_
              · go_simp
              try simp only [Act.put, List.setIfInBounds_toArray, List.set_cons_zero, List.set_cons_succ]
              refine wpAny_ready (rs := [10]) (by kernel_rfl) (by simp) (AllReady.cons rfl (fun KK hK => ?_) AllReady.nil)
              refine step_bldF rfl 61 60 rfl rfl rfl ?_
              intro WB hWB
              have SB : Hid (Spo w0 w WB g (n + 7) rb xb bb m cap fs) := Lib.hid (by rw [hWB]; exact SA.out.keep (kp_alloc _ _))
              have NB : Hid (Blk WB WA.heap.size 55 #[.string (st f.1), .string (st f.2)]) := Lib.hid (by rw [hWB, ← E1.out, ← E2.out]; exact Blk.new _ _ _)
              have KB : Hid (Kp WA WB) := Lib.hid (by rw [hWB]; exact kp_alloc _ _)
              have x6b := SB.out.xbk.cell 0 rfl
              clear hWB
              refine hK _ _ ?_
              clear hK KK
              try simp only [Act.put, List.setIfInBounds_toArray, List.set_cons_zero, List.set_cons_succ]
              refine wpAny_ready (rs := [15]) (by kernel_rfl) (by simp) (AllReady.cons rfl (fun KK hK => ?_) AllReady.nil)
              refine step_grF (b := ⟨WA.heap.size, 0, none⟩) (a' := a14) (n := 1) (cap := 1) (m := m - k) (c := c14) (fs := [f]) (gs := fs.drop k) rfl (.tmp 61) (.tmp 65) rfl rfl rfl (Rw.one NB.out HFM.out.1 HFM.out.2) (H14.out.keep KB.out) (by have := HK.out; omega) (by have := SA.out.few; omega) ?_
              intro ad1 l1 cc1 WD hD hl1
              have OD : Hid (Rw WD (.slice (some ad1) l1 cc1) ([f] ++ fs.drop k)) := Lib.hid hD.rw
              have SD : Hid (Spo w0 w WD g (n + 7) rb xb bb m cap fs) := Lib.hid (SB.out.keep hD.kp)
              have KD : Hid (Kp WA WD) := Lib.hid (Kp.trans KB.out hD.kp)
              have L1 := Lib.hid hl1
              have x6d := SD.out.xbk.cell 0 rfl
              clear hD hl1
              refine hK _ _ ?_
              clear hK KK
              try simp only [Act.put, List.setIfInBounds_toArray, List.set_cons_zero, List.set_cons_succ]
              refine wpAny_ready (rs := [16]) (by kernel_rfl) (by simp) (AllReady.cons rfl (fun KK hK => ?_) AllReady.nil)
              refine step_grF (b := ⟨bb, 0, none⟩) (a' := ad1) (n := k) (cap := k) (m := l1) (c := cc1) (fs := fs.take k) (gs := [f] ++ fs.drop k) rfl (.tmp 55) (.tmp 66) rfl rfl rfl (SD.out.heads (by have := HK.out; omega)) OD.out (by have := L1.out; omega) (by have := SA.out.few; have := L1.out; have := HK.out; omega) ?_
              intro ad l c' WC hC hl
              have OC := Lib.hid hC
              have TURN : Hid (∀ W', W' = WC.setCell ⟨xb, 0, none⟩ (.slice (some ad) l c') → Blk W' rb 28 #[.slice none 0 0] ∧ Blk W' xb 28 #[.slice (some ad) l c'] ∧ Tq w0 W' g (n + 7) ∧ Gr g w W') := Lib.hid (fun W' hW => (SD.out.turn (row := none) ⟨hC.kp.os, hC.kp.tape, hC.kp.output, hC.kp.size, fun i hi _ => hC.kp.block i hi⟩ (fun r hr => by simp at hr) hW).2)
              have BXC : Hid (Blk WC xb 28 #[.slice (some ⟨bb, 0, none⟩) m cap]) := Lib.hid (SD.out.xbk.keep hC.kp)
              have xc := BXC.out.cell 0 rfl; have xcf := BXC.out.free 0
              clear hC hl
              refine hK _ _ ?_
              clear hK KK
              try simp only [Act.put, List.setIfInBounds_toArray, List.set_cons_zero, List.set_cons_succ]
              refine wpAny_ready (rs := [17]) (by kernel_rfl) (by simp) (AllReady.cons rfl (fun KK hK => ?_) AllReady.nil)
              go_simp
              refine hK _ _ ?_
              clear hK KK
              try simp only [Act.put, List.setIfInBounds_toArray, List.set_cons_zero, List.set_cons_succ]
              refine wpAny_ready (rs := [18]) (by kernel_rfl) (by simp) (AllReady.cons rfl (fun KK hK => ?_) AllReady.nil)
              go_simp
              refine hK _ _ ?_
              clear hK KK
              try simp only [Act.put, List.setIfInBounds_toArray, List.set_cons_zero, List.set_cons_succ]
              refine wpAny_done (by kernel_rfl) ?_ _
              have hlen2 := SA.out.len
              obtain ⟨W7, hW7⟩ : ∃ W, W = WC.setCell ⟨xb, 0, none⟩ (.slice (some ad) l c') := ⟨_, rfl⟩
              have HR7 : Hid (Rw W7 (.slice (some ad) l c') (fs.take k ++ ([f] ++ fs.drop k))) := Lib.hid (by rw [hW7]; exact OC.out.rw.beside BXC.out)
              have T7 := Lib.hid (TURN.out W7 hW7)
              have r7 := T7.out.1.cell 0 rfl; have rf7 := T7.out.1.free 0; have x7 := T7.out.2.1.cell 0 rfl
              have HW7 := Lib.hid hW7
              rw [hW7] at r7 rf7 x7
              clear hW7 x6 c0 c1 xc xcf
              go_wp2_with fail
              rw [← HW7.out]
              exact FIN.out _ _ W7 _ _ rfl rfl T7.out.1 (T7.out.2.2.1.less (by omega)) T7.out.2.2.2 HR7.out (by have := SA.out.len; have := SA.out.few; simp [List.length_take, List.length_drop]; omega) rfl
            · refine step_bldF rfl 61 60 rfl rfl rfl ?_
              intro WB hWB
              have SB : Hid (Spo w0 w WB g (n + 7) rb xb bb m cap fs) := Lib.hid (by rw [hWB]; exact SA.out.keep (kp_alloc _ _))
              have NB : Hid (Blk WB WA.heap.size 55 #[.string (st f.1), .string (st f.2)]) := Lib.hid (by rw [hWB, ← E1.out, ← E2.out]; exact Blk.new _ _ _)
              have KB : Hid (Kp WA WB) := Lib.hid (by rw [hWB]; exact kp_alloc _ _)
              have x6b := SB.out.xbk.cell 0 rfl
              clear hWB
              refine hK _ _ ?_
              clear hK KK
              try simp only [Act.put, List.setIfInBounds_toArray, List.set_cons_zero, List.set_cons_succ]
              refine wpAny_ready (rs := [1, 15]) (by kernel_rfl) (by simp) (AllReady.cons rfl (fun KK hK => ?_) (AllReady.cons rfl (fun KK hK => ?_) AllReady.nil))
              · go_simp
                refine hK _ _ ?_
                clear hK KK
                try simp only [Act.put, List.setIfInBounds_toArray, List.set_cons_zero, List.set_cons_succ]
                refine wpAny_take (i := 4) (v := (.slice (some ⟨bb, 0, none⟩) k k)) rfl (by kernel_rfl) (by kernel_rfl) (by kernel_rfl) (fun _ _ _ h => h) (Or.inl ⟨by rfl, fun wq => ?_⟩) ?_
                · go_simp
                try simp only [Act.put, List.setIfInBounds_toArray, List.set_cons_zero, List.set_cons_succ]
                refine wpAny_ready (rs := [15]) (by kernel_rfl) (by simp) (AllReady.cons rfl (fun KK hK => ?_) AllReady.nil)
                refine step_grF (b := ⟨WA.heap.size, 0, none⟩) (a' := a14) (n := 1) (cap := 1) (m := m - k) (c := c14) (fs := [f]) (gs := fs.drop k) rfl (.tmp 61) (.tmp 65) rfl rfl rfl (Rw.one NB.out HFM.out.1 HFM.out.2) (H14.out.keep KB.out) (by have := HK.out; omega) (by have := SA.out.few; omega) ?_
                intro ad1 l1 cc1 WD hD hl1
                have OD : Hid (Rw WD (.slice (some ad1) l1 cc1) ([f] ++ fs.drop k)) := Lib.hid hD.rw
                have SD : Hid (Spo w0 w WD g (n + 7) rb xb bb m cap fs) := Lib.hid (SB.out.keep hD.kp)
                have KD : Hid (Kp WA WD) := Lib.hid (Kp.trans KB.out hD.kp)
                have L1 := Lib.hid hl1
                have x6d := SD.out.xbk.cell 0 rfl
                clear hD hl1
                refine hK _ _ ?_
                clear hK KK
                try simp only [Act.put, List.setIfInBounds_toArray, List.set_cons_zero, List.set_cons_succ]
                refine wpAny_ready (rs := [16]) (by kernel_rfl) (by simp) (AllReady.cons rfl (fun KK hK => ?_) AllReady.nil)
                refine step_grF (b := ⟨bb, 0, none⟩) (a' := ad1) (n := k) (cap := k) (m := l1) (c := cc1) (fs := fs.take k) (gs := [f] ++ fs.drop k) rfl (.tmp 55) (.tmp 66) rfl rfl rfl (SD.out.heads (by have := HK.out; omega)) OD.out (by have := L1.out; omega) (by have := SA.out.few; have := L1.out; have := HK.out; omega) ?_
                intro ad l c' WC hC hl
                have OC := Lib.hid hC
                have TURN : Hid (∀ W', W' = WC.setCell ⟨xb, 0, none⟩ (.slice (some ad) l c') → Blk W' rb 28 #[.slice none 0 0] ∧ Blk W' xb 28 #[.slice (some ad) l c'] ∧ Tq w0 W' g (n + 7) ∧ Gr g w W') := Lib.hid (fun W' hW => (SD.out.turn (row := none) ⟨hC.kp.os, hC.kp.tape, hC.kp.output, hC.kp.size, fun i hi _ => hC.kp.block i hi⟩ (fun r hr => by simp at hr) hW).2)
                have BXC : Hid (Blk WC xb 28 #[.slice (some ⟨bb, 0, none⟩) m cap]) := Lib.hid (SD.out.xbk.keep hC.kp)
                have xc := BXC.out.cell 0 rfl; have xcf := BXC.out.free 0
                clear hC hl
                refine hK _ _ ?_
                clear hK KK
                try simp only [Act.put, List.setIfInBounds_toArray, List.set_cons_zero, List.set_cons_succ]
                refine wpAny_ready (rs := [17]) (by kernel_rfl) (by simp) (AllReady.cons rfl (fun KK hK => ?_) AllReady.nil)
                go_simp
                refine hK _ _ ?_
                clear hK KK
                try simp only [Act.put, List.setIfInBounds_toArray, List.set_cons_zero, List.set_cons_succ]
                refine wpAny_ready (rs := [18]) (by kernel_rfl) (by simp) (AllReady.cons rfl (fun KK hK => ?_) AllReady.nil)
                go_simp
                refine hK _ _ ?_
                clear hK KK
                try simp only [Act.put, List.setIfInBounds_toArray, List.set_cons_zero, List.set_cons_succ]
                refine wpAny_done (by kernel_rfl) ?_ _
                have hlen2 := SA.out.len
                obtain ⟨W7, hW7⟩ : ∃ W, W = WC.setCell ⟨xb, 0, none⟩ (.slice (some ad) l c') := ⟨_, rfl⟩
                have HR7 : Hid (Rw W7 (.slice (some ad) l c') (fs.take k ++ ([f] ++ fs.drop k))) := Lib.hid (by rw [hW7]; exact OC.out.rw.beside BXC.out)
                have T7 := Lib.hid (TURN.out W7 hW7)
                have r7 := T7.out.1.cell 0 rfl; have rf7 := T7.out.1.free 0; have x7 := T7.out.2.1.cell 0 rfl
                have HW7 := Lib.hid hW7
                rw [hW7] at r7 rf7 x7
                clear hW7 x6 c0 c1 xc xcf
                go_wp2_with fail
                rw [← HW7.out]
                exact FIN.out _ _ W7 _ _ rfl rfl T7.out.1 (T7.out.2.2.1.less (by omega)) T7.out.2.2.2 HR7.out (by have := SA.out.len; have := SA.out.few; simp [List.length_take, List.length_drop]; omega) rfl
              · refine step_grF (b := ⟨WA.heap.size, 0, none⟩) (a' := a14) (n := 1) (cap := 1) (m := m - k) (c := c14) (fs := [f]) (gs := fs.drop k) rfl (.tmp 61) (.tmp 65) rfl rfl rfl (Rw.one NB.out HFM.out.1 HFM.out.2) (H14.out.keep KB.out) (by have := HK.out; omega) (by have := SA.out.few; omega) ?_
                intro ad1 l1 cc1 WD hD hl1
                have OD : Hid (Rw WD (.slice (some ad1) l1 cc1) ([f] ++ fs.drop k)) := Lib.hid hD.rw
                have SD : Hid (Spo w0 w WD g (n + 7) rb xb bb m cap fs) := Lib.hid (SB.out.keep hD.kp)
                have KD : Hid (Kp WA WD) := Lib.hid (Kp.trans KB.out hD.kp)
                have L1 := Lib.hid hl1
                have x6d := SD.out.xbk.cell 0 rfl
                clear hD hl1
                refine hK _ _ ?_
                clear hK KK
                try simp only [Act.put, List.setIfInBounds_toArray, List.set_cons_zero, List.set_cons_succ]
                refine wpAny_ready (rs := [1]) (by kernel_rfl) (by simp) (AllReady.cons rfl (fun KK hK => ?_) AllReady.nil)
                go_simp
                refine hK _ _ ?_
                clear hK KK
                try simp only [Act.put, List.setIfInBounds_toArray, List.set_cons_zero, List.set_cons_succ]
                refine wpAny_take (i := 4) (v := (.slice (some ⟨bb, 0, none⟩) k k)) rfl (by kernel_rfl) (by kernel_rfl) (by kernel_rfl) (fun _ _ _ h => h) (Or.inl ⟨by rfl, fun wq => ?_⟩) ?_
                · go_simp
                try simp only [Act.put, List.setIfInBounds_toArray, List.set_cons_zero, List.set_cons_succ]
                refine wpAny_ready (rs := [16]) (by kernel_rfl) (by simp) (AllReady.cons rfl (fun KK hK => ?_) AllReady.nil)
                refine step_grF (b := ⟨bb, 0, none⟩) (a' := ad1) (n := k) (cap := k) (m := l1) (c := cc1) (fs := fs.take k) (gs := [f] ++ fs.drop k) rfl (.tmp 55) (.tmp 66) rfl rfl rfl (SD.out.heads (by have := HK.out; omega)) OD.out (by have := L1.out; omega) (by have := SA.out.few; have := L1.out; have := HK.out; omega) ?_
                intro ad l c' WC hC hl
                have OC := Lib.hid hC
                have TURN : Hid (∀ W', W' = WC.setCell ⟨xb, 0, none⟩ (.slice (some ad) l c') → Blk W' rb 28 #[.slice none 0 0] ∧ Blk W' xb 28 #[.slice (some ad) l c'] ∧ Tq w0 W' g (n + 7) ∧ Gr g w W') := Lib.hid (fun W' hW => (SD.out.turn (row := none) ⟨hC.kp.os, hC.kp.tape, hC.kp.output, hC.kp.size, fun i hi _ => hC.kp.block i hi⟩ (fun r hr => by simp at hr) hW).2)
                have BXC : Hid (Blk WC xb 28 #[.slice (some ⟨bb, 0, none⟩) m cap]) := Lib.hid (SD.out.xbk.keep hC.kp)
                have xc := BXC.out.cell 0 rfl; have xcf := BXC.out.free 0
                clear hC hl
                refine hK _ _ ?_
                clear hK KK
                try simp only [Act.put, List.setIfInBounds_toArray, List.set_cons_zero, List.set_cons_succ]
                refine wpAny_ready (rs := [17]) (by kernel_rfl) (by simp) (AllReady.cons rfl (fun KK hK => ?_) AllReady.nil)
                go_simp
                refine hK _ _ ?_
                clear hK KK
                try simp only [Act.put, List.setIfInBounds_toArray, List.set_cons_zero, List.set_cons_succ]
                refine wpAny_ready (rs := [18]) (by kernel_rfl) (by simp) (AllReady.cons rfl (fun KK hK => ?_) AllReady.nil)
                go_simp
                refine hK _ _ ?_
                clear hK KK
                try simp only [Act.put, List.setIfInBounds_toArray, List.set_cons_zero, List.set_cons_succ]
                refine wpAny_done (by kernel_rfl) ?_ _
                have hlen2 := SA.out.len
                obtain ⟨W7, hW7⟩ : ∃ W, W = WC.setCell ⟨xb, 0, none⟩ (.slice (some ad) l c') := ⟨_, rfl⟩
                have HR7 : Hid (Rw W7 (.slice (some ad) l c') (fs.take k ++ ([f] ++ fs.drop k))) := Lib.hid (by rw [hW7]; exact OC.out.rw.beside BXC.out)
                have T7 := Lib.hid (TURN.out W7 hW7)
                have r7 := T7.out.1.cell 0 rfl; have rf7 := T7.out.1.free 0; have x7 := T7.out.2.1.cell 0 rfl
                have HW7 := Lib.hid hW7
                rw [hW7] at r7 rf7 x7
                clear hW7 x6 c0 c1 xc xcf
                go_wp2_with fail
                rw [← HW7.out]
                exact FIN.out _ _ W7 _ _ rfl rfl T7.out.1 (T7.out.2.2.1.less (by omega)) T7.out.2.2.2 HR7.out (by have := SA.out.len; have := SA.out.few; simp [List.length_take, List.length_drop]; omega) rfl
        · go_simp
          refine hK _ _ ?_
          clear hK KK
          try simp only [Act.put, List.setIfInBounds_toArray, List.set_cons_zero, List.set_cons_succ]
          refine wpAny_take (i := 14) (v := (.slice (some a14) (m - k) c14)) rfl (by kernel_rfl) (by kernel_rfl) (by kernel_rfl) (fun _ _ _ h => h) (Or.inl ⟨by rfl, fun wq => ?_⟩) ?_
          · go_simp
          try simp only [Act.put, List.setIfInBounds_toArray, List.set_cons_zero, List.set_cons_succ]
          refine wpAny_ready (rs := [1, 9]) (by kernel_rfl) (by simp) (AllReady.cons rfl (fun KK hK => ?_) (AllReady.cons rfl (fun KK hK => ?_) AllReady.nil))
          · go_simp
            refine hK _ _ ?_
            clear hK KK
            try simp only [Act.put, List.setIfInBounds_toArray, List.set_cons_zero, List.set_cons_succ]
            refine wpAny_take (i := 4) (v := (.slice (some ⟨bb, 0, none⟩) k k)) rfl (by kernel_rfl) (by kernel_rfl) (by kernel_rfl) (fun _ _ _ h => h) (Or.inl ⟨by rfl, fun wq => ?_⟩) ?_
            · go_simp
            try simp only [Act.put, List.setIfInBounds_toArray, List.set_cons_zero, List.set_cons_succ]
            refine wpAny_ready (rs := [9]) (by kernel_rfl) (by simp) (AllReady.cons rfl (fun KK hK => ?_) AllReady.nil)
            go_simp
            refine hK _ _ ?_
            clear hK KK
            try simp only [Act.put, List.setIfInBounds_toArray, List.set_cons_zero, List.set_cons_succ]
            refine wpAny_ready (rs := [10]) (by kernel_rfl) (by simp) (AllReady.cons rfl (fun KK hK => ?_) AllReady.nil)
            refine step_bldF rfl 61 60 rfl rfl rfl ?_
            intro WB hWB
            have SB : Hid (Spo w0 w WB g (n + 7) rb xb bb m cap fs) := Lib.hid (by rw [hWB]; exact SA.out.keep (kp_alloc _ _))
            have NB : Hid (Blk WB WA.heap.size 55 #[.string (st f.1), .string (st f.2)]) := Lib.hid (by rw [hWB, ← E1.out, ← E2.out]; exact Blk.new _ _ _)
            have KB : Hid (Kp WA WB) := Lib.hid (by rw [hWB]; exact kp_alloc _ _)
            have x6b := SB.out.xbk.cell 0 rfl
            clear hWB
            refine hK _ _ ?_
            clear hK KK
            try simp only [Act.put, List.setIfInBounds_toArray, List.set_cons_zero, List.set_cons_succ]
            refine wpAny_ready (rs := [15]) (by kernel_rfl) (by simp) (AllReady.cons rfl (fun KK hK => ?_) AllReady.nil)
            refine step_grF (b := ⟨WA.heap.size, 0, none⟩) (a' := a14) (n := 1) (cap := 1) (m := m - k) (c := c14) (fs := [f]) (gs := fs.drop k) rfl (.tmp 61) (.tmp 65) rfl rfl rfl (Rw.one NB.out HFM.out.1 HFM.out.2) (H14.out.keep KB.out) (by have := HK.out; omega) (by have := SA.out.few; omega) ?_
            intro ad1 l1 cc1 WD hD hl1
            have OD : Hid (Rw WD (.slice (some ad1) l1 cc1) ([f] ++ fs.drop k)) := Lib.hid hD.rw
            have SD : Hid (Spo w0 w WD g (n + 7) rb xb bb m cap fs) := Lib.hid (SB.out.keep hD.kp)
            have KD : Hid (Kp WA WD) := Lib.hid (Kp.trans KB.out hD.kp)
            have L1 := Lib.hid hl1
            have x6d := SD.out.xbk.cell 0 rfl
            clear hD hl1
            refine hK _ _ ?_
            clear hK KK
            try simp only [Act.put, List.setIfInBounds_toArray, List.set_cons_zero, List.set_cons_succ]
            refine wpAny_ready (rs := [16]) (by kernel_rfl) (by simp) (AllReady.cons rfl (fun KK hK => ?_) AllReady.nil)
            refine step_grF (b := ⟨bb, 0, none⟩) (a' := ad1) (n := k) (cap := k) (m := l1) (c := cc1) (fs := fs.take k) (gs := [f] ++ fs.drop k) rfl (.tmp 55) (.tmp 66) rfl rfl rfl (SD.out.heads (by have := HK.out; omega)) OD.out (by have := L1.out; omega) (by have := SA.out.few; have := L1.out; have := HK.out; omega) ?_
            intro ad l c' WC hC hl
            have OC := Lib.hid hC
            have TURN : Hid (∀ W', W' = WC.setCell ⟨xb, 0, none⟩ (.slice (some ad) l c') → Blk W' rb 28 #[.slice none 0 0] ∧ Blk W' xb 28 #[.slice (some ad) l c'] ∧ Tq w0 W' g (n + 7) ∧ Gr g w W') := Lib.hid (fun W' hW => (SD.out.turn (row := none) ⟨hC.kp.os, hC.kp.tape, hC.kp.output, hC.kp.size, fun i hi _ => hC.kp.block i hi⟩ (fun r hr => by simp at hr) hW).2)
            have BXC : Hid (Blk WC xb 28 #[.slice (some ⟨bb, 0, none⟩) m cap]) := Lib.hid (SD.out.xbk.keep hC.kp)
            have xc := BXC.out.cell 0 rfl; have xcf := BXC.out.free 0
            clear hC hl
            refine hK _ _ ?_
            clear hK KK
            try simp only [Act.put, List.setIfInBounds_toArray, List.set_cons_zero, List.set_cons_succ]
            refine wpAny_ready (rs := [17]) (by kernel_rfl) (by simp) (AllReady.cons rfl (fun KK hK => ?_) AllReady.nil)
            go_simp
            refine hK _ _ ?_
            clear hK KK
            try simp only [Act.put, List.setIfInBounds_toArray, List.set_cons_zero, List.set_cons_succ]
            refine wpAny_ready (rs := [18]) (by kernel_rfl) (by simp) (AllReady.cons rfl (fun KK hK => ?_) AllReady.nil)
            go_simp
            refine hK _ _ ?_
            clear hK KK
            try simp only [Act.put, List.setIfInBounds_toArray, List.set_cons_zero, List.set_cons_succ]
            refine wpAny_done (by kernel_rfl) ?_ _
            have hlen2 := SA.out.len
            obtain ⟨W7, hW7⟩ : ∃ W, W = WC.setCell ⟨xb, 0, none⟩ (.slice (some ad) l c') := ⟨_, rfl⟩
            have HR7 : Hid (Rw W7 (.slice (some ad) l c') (fs.take k ++ ([f] ++ fs.drop k))) := Lib.hid (by rw [hW7]; exact OC.out.rw.beside BXC.out)
            have T7 := Lib.hid (TURN.out W7 hW7)
            have r7 := T7.out.1.cell 0 rfl; have rf7 := T7.out.1.free 0; have x7 := T7.out.2.1.cell 0 rfl
            have HW7 := Lib.hid hW7
            rw [hW7] at r7 rf7 x7
            clear hW7 x6 c0 c1 xc xcf
            go_wp2_with fail
            rw [← HW7.out]
            exact FIN.out _ _ W7 _ _ rfl rfl T7.out.1 (T7.out.2.2.1.less (by omega)) T7.out.2.2.2 HR7.out (by have := SA.out.len; have := SA.out.few; simp [List.length_take, List.length_drop]; omega) rfl
          · go_simp
            refine hK _ _ ?_
            clear hK KK
            try simp only [Act.put, List.setIfInBounds_toArray, List.set_cons_zero, List.set_cons_succ]
            refine wpAny_ready (rs := [1, 10]) (by kernel_rfl) (by simp) (AllReady.cons rfl (fun KK hK => ?_) (AllReady.cons rfl (fun KK hK => ?_) AllReady.nil))
            · go_simp
              refine hK _ _ ?_
              clear hK KK
              try simp only [Act.put, List.setIfInBounds_toArray, List.set_cons_zero, List.set_cons_succ]
              refine wpAny_take (i := 4) (v := (.slice (some ⟨bb, 0, none⟩) k k)) rfl (by kernel_rfl) (by kernel_rfl) (by kernel_rfl) (fun _ _ _ h => h) (Or.inl ⟨by rfl, fun wq => ?_⟩) ?_
              · go_simp
              try simp only [Act.put, List.setIfInBounds_toArray, List.set_cons_zero, List.set_cons_succ]
              refine wpAny_ready (rs := [10]) (by kernel_rfl) (by simp) (AllReady.cons rfl (fun KK hK => ?_) AllReady.nil)
              refine step_bldF rfl 61 60 rfl rfl rfl ?_
              intro WB hWB
              have SB : Hid (Spo w0 w WB g (n + 7) rb xb bb m cap fs) := Lib.hid (by rw [hWB]; exact SA.out.keep (kp_alloc _ _))
              have NB : Hid (Blk WB WA.heap.size 55 #[.string (st f.1), .string (st f.2)]) := Lib.hid (by rw [hWB, ← E1.out, ← E2.out]; exact Blk.new _ _ _)
              have KB : Hid (Kp WA WB) := Lib.hid (by rw [hWB]; exact kp_alloc _ _)
              have x6b := SB.out.xbk.cell 0 rfl
              clear hWB
              refine hK _ _ ?_
              clear hK KK
              try simp only [Act.put, List.setIfInBounds_toArray, List.set_cons_zero, List.set_cons_succ]
              refine wpAny_ready (rs := [15]) (by kernel_rfl) (by simp) (AllReady.cons rfl (fun KK hK => ?_) AllReady.nil)
              refine step_grF (b := ⟨WA.heap.size, 0, none⟩) (a' := a14) (n := 1) (cap := 1) (m := m - k) (c := c14) (fs := [f]) (gs := fs.drop k) rfl (.tmp 61) (.tmp 65) rfl rfl rfl (Rw.one NB.out HFM.out.1 HFM.out.2) (H14.out.keep KB.out) (by have := HK.out; omega) (by have := SA.out.few; omega) ?_
              intro ad1 l1 cc1 WD hD hl1
              have OD : Hid (Rw WD (.slice (some ad1) l1 cc1) ([f] ++ fs.drop k)) := Lib.hid hD.rw
              have SD : Hid (Spo w0 w WD g (n + 7) rb xb bb m cap fs) := Lib.hid (SB.out.keep hD.kp)
              have KD : Hid (Kp WA WD) := Lib.hid (Kp.trans KB.out hD.kp)
              have L1 := Lib.hid hl1
              have x6d := SD.out.xbk.cell 0 rfl
              clear hD hl1
              refine hK _ _ ?_
              clear hK KK
              try simp only [Act.put, List.setIfInBounds_toArray, List.set_cons_zero, List.set_cons_succ]
              refine wpAny_ready (rs := [16]) (by kernel_rfl) (by simp) (AllReady.cons rfl (fun KK hK => ?_) AllReady.nil)
              refine step_grF (b := ⟨bb, 0, none⟩) (a' := ad1) (n := k) (cap := k) (m := l1) (c := cc1) (fs := fs.take k) (gs := [f] ++ fs.drop k) rfl (.tmp 55) (.tmp 66) rfl rfl rfl (SD.out.heads (by have := HK.out; omega)) OD.out (by have := L1.out; omega) (by have := SA.out.few; have := L1.out; have := HK.out; omega) ?_
              intro ad l c' WC hC hl
              have OC := Lib.hid hC
              have TURN : Hid (∀ W', W' = WC.setCell ⟨xb, 0, none⟩ (.slice (some ad) l c') → Blk W' rb 28 #[.slice none 0 0] ∧ Blk W' xb 28 #[.slice (some ad) l c'] ∧ Tq w0 W' g (n + 7) ∧ Gr g w W') := Lib.hid (fun W' hW => (SD.out.turn (row := none) ⟨hC.kp.os, hC.kp.tape, hC.kp.output, hC.kp.size, fun i hi _ => hC.kp.block i hi⟩ (fun r hr => by simp at hr) hW).2)
              have BXC : Hid (Blk WC xb 28 #[.slice (some ⟨bb, 0, none⟩) m cap]) := Lib.hid (SD.out.xbk.keep hC.kp)
              have xc := BXC.out.cell 0 rfl; have xcf := BXC.out.free 0
              clear hC hl
              refine hK _ _ ?_
              clear hK KK
              try simp only [Act.put, List.setIfInBounds_toArray, List.set_cons_zero, List.set_cons_succ]
              refine wpAny_ready (rs := [17]) (by kernel_rfl) (by simp) (AllReady.cons rfl (fun KK hK => ?_) AllReady.nil)
              go_simp
              refine hK _ _ ?_
              clear hK KK
              try simp only [Act.put, List.setIfInBounds_toArray, List.set_cons_zero, List.set_cons_succ]
              refine wpAny_ready (rs := [18]) (by kernel_rfl) (by simp) (AllReady.cons rfl (fun KK hK => ?_) AllReady.nil)
              go_simp
              refine hK _ _ ?_
              clear hK KK
              try simp only [Act.put, List.setIfInBounds_toArray, List.set_cons_zero, List.set_cons_succ]
              refine wpAny_done (by kernel_rfl) ?_ _
              have hlen2 := SA.out.len
              obtain ⟨W7, hW7⟩ : ∃ W, W = WC.setCell ⟨xb, 0, none⟩ (.slice (some ad) l c') := ⟨_, rfl⟩
              have HR7 : Hid (Rw W7 (.slice (some ad) l c') (fs.take k ++ ([f] ++ fs.drop k))) := Lib.hid (by rw [hW7]; exact OC.out.rw.beside BXC.out)
              have T7 := Lib.hid (TURN.out W7 hW7)
              have r7 := T7.out.1.cell 0 rfl; have rf7 := T7.out.1.free 0; have x7 := T7.out.2.1.cell 0 rfl
              have HW7 := Lib.hid hW7
              rw [hW7] at r7 rf7 x7
              clear hW7 x6 c0 c1 xc xcf
              go_wp2_with fail
              rw [← HW7.out]
              exact FIN.out _ _ W7 _ _ rfl rfl T7.out.1 (T7.out.2.2.1.less (by omega)) T7.out.2.2.2 HR7.out (by have := SA.out.len; have := SA.out.few; simp [List.length_take, List.length_drop]; omega) rfl
            · refine step_bldF rfl 61 60 rfl rfl rfl ?_
              intro WB hWB
              have SB : Hid (Spo w0 w WB g (n + 7) rb xb bb m cap fs) := Lib.hid (by rw [hWB]; exact SA.out.keep (kp_alloc _ _))
              have NB : Hid (Blk WB WA.heap.size 55 #[.string (st f.1), .string (st f.2)]) := Lib.hid (by rw [hWB, ← E1.out, ← E2.out]; exact Blk.new _ _ _)
              have KB : Hid (Kp WA WB) := Lib.hid (by rw [hWB]; exact kp_alloc _ _)
              have x6b := SB.out.xbk.cell 0 rfl
              clear hWB
              refine hK _ _ ?_
              clear hK KK
              try simp only [Act.put, List.setIfInBounds_toArray, List.set_cons_zero, List.set_cons_succ]
              refine wpAny_ready (rs := [1, 15]) (by kernel_rfl) (by simp) (AllReady.cons rfl (fun KK hK => ?_) (AllReady.cons rfl (fun KK hK => ?_) AllReady.nil))
              · go_simp
                refine hK _ _ ?_
                clear hK KK
                try simp only [Act.put, List.setIfInBounds_toArray, List.set_cons_zero, List.set_cons_succ]
                refine wpAny_take (i := 4) (v := (.slice (some ⟨bb, 0, none⟩) k k)) rfl (by kernel_rfl) (by kernel_rfl) (by kernel_rfl) (fun _ _ _ h => h) (Or.inl ⟨by rfl, fun wq => ?_⟩) ?_
                · go_simp
                try simp only [Act.put, List.setIfInBounds_toArray, List.set_cons_zero, List.set_cons_succ]
                refine wpAny_ready (rs := [15]) (by kernel_rfl) (by simp) (AllReady.cons rfl (fun KK hK => ?_) AllReady.nil)
                refine step_grF (b := ⟨WA.heap.size, 0, none⟩) (a' := a14) (n := 1) (cap := 1) (m := m - k) (c := c14) (fs := [f]) (gs := fs.drop k) rfl (.tmp 61) (.tmp 65) rfl rfl rfl (Rw.one NB.out HFM.out.1 HFM.out.2) (H14.out.keep KB.out) (by have := HK.out; omega) (by have := SA.out.few; omega) ?_
                intro ad1 l1 cc1 WD hD hl1
                have OD : Hid (Rw WD (.slice (some ad1) l1 cc1) ([f] ++ fs.drop k)) := Lib.hid hD.rw
                have SD : Hid (Spo w0 w WD g (n + 7) rb xb bb m cap fs) := Lib.hid (SB.out.keep hD.kp)
                have KD : Hid (Kp WA WD) := Lib.hid (Kp.trans KB.out hD.kp)
                have L1 := Lib.hid hl1
                have x6d := SD.out.xbk.cell 0 rfl
                clear hD hl1
                refine hK _ _ ?_
                clear hK KK
                try simp only [Act.put, List.setIfInBounds_toArray, List.set_cons_zero, List.set_cons_succ]
                refine wpAny_ready (rs := [16]) (by kernel_rfl) (by simp) (AllReady.cons rfl (fun KK hK => ?_) AllReady.nil)
                refine step_grF (b := ⟨bb, 0, none⟩) (a' := ad1) (n := k) (cap := k) (m := l1) (c := cc1) (fs := fs.take k) (gs := [f] ++ fs.drop k) rfl (.tmp 55) (.tmp 66) rfl rfl rfl (SD.out.heads (by have := HK.out; omega)) OD.out (by have := L1.out; omega) (by have := SA.out.few; have := L1.out; have := HK.out; omega) ?_
                intro ad l c' WC hC hl
                have OC := Lib.hid hC
                have TURN : Hid (∀ W', W' = WC.setCell ⟨xb, 0, none⟩ (.slice (some ad) l c') → Blk W' rb 28 #[.slice none 0 0] ∧ Blk W' xb 28 #[.slice (some ad) l c'] ∧ Tq w0 W' g (n + 7) ∧ Gr g w W') := Lib.hid (fun W' hW => (SD.out.turn (row := none) ⟨hC.kp.os, hC.kp.tape, hC.kp.output, hC.kp.size, fun i hi _ => hC.kp.block i hi⟩ (fun r hr => by simp at hr) hW).2)
                have BXC : Hid (Blk WC xb 28 #[.slice (some ⟨bb, 0, none⟩) m cap]) := Lib.hid (SD.out.xbk.keep hC.kp)
                have xc := BXC.out.cell 0 rfl; have xcf := BXC.out.free 0
                clear hC hl
                refine hK _ _ ?_
                clear hK KK
                try simp only [Act.put, List.setIfInBounds_toArray, List.set_cons_zero, List.set_cons_succ]
                refine wpAny_ready (rs := [17]) (by kernel_rfl) (by simp) (AllReady.cons rfl (fun KK hK => ?_) AllReady.nil)
                go_simp
                refine hK _ _ ?_
                clear hK KK
                try simp only [Act.put, List.setIfInBounds_toArray, List.set_cons_zero, List.set_cons_succ]
                refine wpAny_ready (rs := [18]) (by kernel_rfl) (by simp) (AllReady.cons rfl (fun KK hK => ?_) AllReady.nil)
                go_simp
                refine hK _ _ ?_
                clear hK KK
                try simp only [Act.put, List.setIfInBounds_toArray, List.set_cons_zero, List.set_cons_succ]
                refine wpAny_done (by kernel_rfl) ?_ _
                have hlen2 := SA.out.len
                obtain ⟨W7, hW7⟩ : ∃ W, W = WC.setCell ⟨xb, 0, none⟩ (.slice (some ad) l c') := ⟨_, rfl⟩
                have HR7 : Hid (Rw W7 (.slice (some ad) l c') (fs.take k ++ ([f] ++ fs.drop k))) := Lib.hid (by rw [hW7]; exact OC.out.rw.beside BXC.out)
                have T7 := Lib.hid (TURN.out W7 hW7)
                have r7 := T7.out.1.cell 0 rfl; have rf7 := T7.out.1.free 0; have x7 := T7.out.2.1.cell 0 rfl
                have HW7 := Lib.hid hW7
                rw [hW7] at r7 rf7 x7
                clear hW7 x6 c0 c1 xc xcf
                go_wp2_with fail
                rw [← HW7.out]
                exact FIN.out _ _ W7 _ _ rfl rfl T7.out.1 (T7.out.2.2.1.less (by omega)) T7.out.2.2.2 HR7.out (by have := SA.out.len; have := SA.out.few; simp [List.length_take, List.length_drop]; omega) rfl
              · refine step_grF (b := ⟨WA.heap.size, 0, none⟩) (a' := a14) (n := 1) (cap := 1) (m := m - k) (c := c14) (fs := [f]) (gs := fs.drop k) rfl (.tmp 61) (.tmp 65) rfl rfl rfl (Rw.one NB.out HFM.out.1 HFM.out.2) (H14.out.keep KB.out) (by have := HK.out; omega) (by have := SA.out.few; omega) ?_
                intro ad1 l1 cc1 WD hD hl1
                have OD : Hid (Rw WD (.slice (some ad1) l1 cc1) ([f] ++ fs.drop k)) := Lib.hid hD.rw
                have SD : Hid (Spo w0 w WD g (n + 7) rb xb bb m cap fs) := Lib.hid (SB.out.keep hD.kp)
                have KD : Hid (Kp WA WD) := Lib.hid (Kp.trans KB.out hD.kp)
                have L1 := Lib.hid hl1
                have x6d := SD.out.xbk.cell 0 rfl
                clear hD hl1
                refine hK _ _ ?_
                clear hK KK
                try simp only [Act.put, List.setIfInBounds_toArray, List.set_cons_zero, List.set_cons_succ]
                refine wpAny_ready (rs := [1]) (by kernel_rfl) (by simp) (AllReady.cons rfl (fun KK hK => ?_) AllReady.nil)
                go_simp
                refine hK _ _ ?_
                clear hK KK
                try simp only [Act.put, List.setIfInBounds_toArray, List.set_cons_zero, List.set_cons_succ]
                refine wpAny_take (i := 4) (v := (.slice (some ⟨bb, 0, none⟩) k k)) rfl (by kernel_rfl) (by kernel_rfl) (by kernel_rfl) (fun _ _ _ h => h) (Or.inl ⟨by rfl, fun wq => ?_⟩) ?_
                · go_simp
                try simp only [Act.put, List.setIfInBounds_toArray, List.set_cons_zero, List.set_cons_succ]
                refine wpAny_ready (rs := [16]) (by kernel_rfl) (by simp) (AllReady.cons rfl (fun KK hK => ?_) AllReady.nil)
                refine step_grF (b := ⟨bb, 0, none⟩) (a' := ad1) (n := k) (cap := k) (m := l1) (c := cc1) (fs := fs.take k) (gs := [f] ++ fs.drop k) rfl (.tmp 55) (.tmp 66) rfl rfl rfl (SD.out.heads (by have := HK.out; omega)) OD.out (by have := L1.out; omega) (by have := SA.out.few; have := L1.out; have := HK.out; omega) ?_
                intro ad l c' WC hC hl
                have OC := Lib.hid hC
                have TURN : Hid (∀ W', W' = WC.setCell ⟨xb, 0, none⟩ (.slice (some ad) l c') → Blk W' rb 28 #[.slice none 0 0] ∧ Blk W' xb 28 #[.slice (some ad) l c'] ∧ Tq w0 W' g (n + 7) ∧ Gr g w W') := Lib.hid (fun W' hW => (SD.out.turn (row := none) ⟨hC.kp.os, hC.kp.tape, hC.kp.output, hC.kp.size, fun i hi _ => hC.kp.block i hi⟩ (fun r hr => by simp at hr) hW).2)
                have BXC : Hid (Blk WC xb 28 #[.slice (some ⟨bb, 0, none⟩) m cap]) := Lib.hid (SD.out.xbk.keep hC.kp)
                have xc := BXC.out.cell 0 rfl; have xcf := BXC.out.free 0
                clear hC hl
                refine hK _ _ ?_
                clear hK KK
                try simp only [Act.put, List.setIfInBounds_toArray, List.set_cons_zero, List.set_cons_succ]
                refine wpAny_ready (rs := [17]) (by kernel_rfl) (by simp) (AllReady.cons rfl (fun KK hK => ?_) AllReady.nil)
                go_simp
                refine hK _ _ ?_
                clear hK KK
                try simp only [Act.put, List.setIfInBounds_toArray, List.set_cons_zero, List.set_cons_succ]
                refine wpAny_ready (rs := [18]) (by kernel_rfl) (by simp) (AllReady.cons rfl (fun KK hK => ?_) AllReady.nil)
                go_simp
                refine hK _ _ ?_
                clear hK KK
                try simp only [Act.put, List.setIfInBounds_toArray, List.set_cons_zero, List.set_cons_succ]
                refine wpAny_done (by kernel_rfl) ?_ _
                have hlen2 := SA.out.len
                obtain ⟨W7, hW7⟩ : ∃ W, W = WC.setCell ⟨xb, 0, none⟩ (.slice (some ad) l c') := ⟨_, rfl⟩
                have HR7 : Hid (Rw W7 (.slice (some ad) l c') (fs.take k ++ ([f] ++ fs.drop k))) := Lib.hid (by rw [hW7]; exact OC.out.rw.beside BXC.out)
                have T7 := Lib.hid (TURN.out W7 hW7)
                have r7 := T7.out.1.cell 0 rfl; have rf7 := T7.out.1.free 0; have x7 := T7.out.2.1.cell 0 rfl
                have HW7 := Lib.hid hW7
                rw [hW7] at r7 rf7 x7
                clear hW7 x6 c0 c1 xc xcf
                go_wp2_with fail
                rw [← HW7.out]
                exact FIN.out _ _ W7 _ _ rfl rfl T7.out.1 (T7.out.2.2.1.less (by omega)) T7.out.2.2.2 HR7.out (by have := SA.out.len; have := SA.out.few; simp [List.length_take, List.length_drop]; omega) rfl
      · go_simp
        refine hK _ _ ?_
        clear hK KK
        try simp only [Act.put, List.setIfInBounds_toArray, List.set_cons_zero, List.set_cons_succ]
        refine wpAny_take (i := 14) (v := (.slice (some a14) (m - k) c14)) rfl (by kernel_rfl) (by kernel_rfl) (by kernel_rfl) (fun _ _ _ h => h) (Or.inl ⟨by rfl, fun wq => ?_⟩) ?_
        · go_simp
        try simp only [Act.put, List.setIfInBounds_toArray, List.set_cons_zero, List.set_cons_succ]
        refine wpAny_ready (rs := [1, 6]) (by kernel_rfl) (by simp) (AllReady.cons rfl (fun KK hK => ?_) (AllReady.cons rfl (fun KK hK => ?_) AllReady.nil))
        · go_simp
          refine hK _ _ ?_
          clear hK KK
          try simp only [Act.put, List.setIfInBounds_toArray, List.set_cons_zero, List.set_cons_succ]
          refine wpAny_take (i := 4) (v := (.slice (some ⟨bb, 0, none⟩) k k)) rfl (by kernel_rfl) (by kernel_rfl) (by kernel_rfl) (fun _ _ _ h => h) (Or.inl ⟨by rfl, fun wq => ?_⟩) ?_
          · go_simp
          try simp only [Act.put, List.setIfInBounds_toArray, List.set_cons_zero, List.set_cons_succ]
          refine wpAny_ready (rs := [6]) (by kernel_rfl) (by simp) (AllReady.cons rfl (fun KK hK => ?_) AllReady.nil)
          go_simp
          refine hK _ _ ?_
          clear hK KK
          try simp only [Act.put, List.setIfInBounds_toArray, List.set_cons_zero, List.set_cons_succ]
          refine wpAny_take (i := 8) (v := (.pointer (some ⟨bb, 0 + k * 2, none⟩))) rfl (by kernel_rfl) (by kernel_rfl) (by kernel_rfl) (fun _ _ _ h => h) (Or.inl ⟨by rfl, fun wq => ?_⟩) ?_
          · go_simp
          try simp only [Act.put, List.setIfInBounds_toArray, List.set_cons_zero, List.set_cons_succ]
          refine wpAny_ready (rs := [9]) (by kernel_rfl) (by simp) (AllReady.cons rfl (fun KK hK => ?_) AllReady.nil)
          go_simp
          refine hK _ _ ?_
          clear hK KK
          try simp only [Act.put, List.setIfInBounds_toArray, List.set_cons_zero, List.set_cons_succ]
          refine wpAny_ready (rs := [10]) (by kernel_rfl) (by simp) (AllReady.cons rfl (fun KK hK => ?_) AllReady.nil)
          refine step_bldF rfl 61 60 rfl rfl rfl ?_
          intro WB hWB
          have SB : Hid (Spo w0 w WB g (n + 7) rb xb bb m cap fs) := Lib.hid (by rw [hWB]; exact SA.out.keep (kp_alloc _ _))
          have NB : Hid (Blk WB WA.heap.size 55 #[.string (st f.1), .string (st f.2)]) := Lib.hid (by rw [hWB, ← E1.out, ← E2.out]; exact Blk.new _ _ _)
          have KB : Hid (Kp WA WB) := Lib.hid (by rw [hWB]; exact kp_alloc _ _)
          have x6b := SB.out.xbk.cell 0 rfl
          clear hWB
          refine hK _ _ ?_
          clear hK KK
          try simp only [Act.put, List.setIfInBounds_toArray, List.set_cons_zero, List.set_cons_succ]
          refine wpAny_ready (rs := [15]) (by kernel_rfl) (by simp) (AllReady.cons rfl (fun KK hK => ?_) AllReady.nil)
          refine step_grF (b := ⟨WA.heap.size, 0, none⟩) (a' := a14) (n := 1) (cap := 1) (m := m - k) (c := c14) (fs := [f]) (gs := fs.drop k) rfl (.tmp 61) (.tmp 65) rfl rfl rfl (Rw.one NB.out HFM.out.1 HFM.out.2) (H14.out.keep KB.out) (by have := HK.out; omega) (by have := SA.out.few; omega) ?_
          intro ad1 l1 cc1 WD hD hl1
          have OD : Hid (Rw WD (.slice (some ad1) l1 cc1) ([f] ++ fs.drop k)) := Lib.hid hD.rw
          have SD : Hid (Spo w0 w WD g (n + 7) rb xb bb m cap fs) := Lib.hid (SB.out.keep hD.kp)
          have KD : Hid (Kp WA WD) := Lib.hid (Kp.trans KB.out hD.kp)
          have L1 := Lib.hid hl1
          have x6d := SD.out.xbk.cell 0 rfl
          clear hD hl1
          refine hK _ _ ?_
          clear hK KK
          try simp only [Act.put, List.setIfInBounds_toArray, List.set_cons_zero, List.set_cons_succ]
          refine wpAny_ready (rs := [16]) (by kernel_rfl) (by simp) (AllReady.cons rfl (fun KK hK => ?_) AllReady.nil)
          refine step_grF (b := ⟨bb, 0, none⟩) (a' := ad1) (n := k) (cap := k) (m := l1) (c := cc1) (fs := fs.take k) (gs := [f] ++ fs.drop k) rfl (.tmp 55) (.tmp 66) rfl rfl rfl (SD.out.heads (by have := HK.out; omega)) OD.out (by have := L1.out; omega) (by have := SA.out.few; have := L1.out; have := HK.out; omega) ?_
          intro ad l c' WC hC hl
          have OC := Lib.hid hC
          have TURN : Hid (∀ W', W' = WC.setCell ⟨xb, 0, none⟩ (.slice (some ad) l c') → Blk W' rb 28 #[.slice none 0 0] ∧ Blk W' xb 28 #[.slice (some ad) l c'] ∧ Tq w0 W' g (n + 7) ∧ Gr g w W') := Lib.hid (fun W' hW => (SD.out.turn (row := none) ⟨hC.kp.os, hC.kp.tape, hC.kp.output, hC.kp.size, fun i hi _ => hC.kp.block i hi⟩ (fun r hr => by simp at hr) hW).2)
          have BXC : Hid (Blk WC xb 28 #[.slice (some ⟨bb, 0, none⟩) m cap]) := Lib.hid (SD.out.xbk.keep hC.kp)
          have xc := BXC.out.cell 0 rfl; have xcf := BXC.out.free 0
          clear hC hl
          refine hK _ _ ?_
          clear hK KK
          try simp only [Act.put, List.setIfInBounds_toArray, List.set_cons_zero, List.set_cons_succ]
          refine wpAny_ready (rs := [17]) (by kernel_rfl) (by simp) (AllReady.cons rfl (fun KK hK => ?_) AllReady.nil)
          go_simp
          refine hK _ _ ?_
          clear hK KK
          try simp only [Act.put, List.setIfInBounds_toArray, List.set_cons_zero, List.set_cons_succ]
          refine wpAny_ready (rs := [18]) (by kernel_rfl) (by simp) (AllReady.cons rfl (fun KK hK => ?_) AllReady.nil)
          go_simp
          refine hK _ _ ?_
          clear hK KK
          try simp only [Act.put, List.setIfInBounds_toArray, List.set_cons_zero, List.set_cons_succ]
          refine wpAny_done (by kernel_rfl) ?_ _
          have hlen2 := SA.out.len
          obtain ⟨W7, hW7⟩ : ∃ W, W = WC.setCell ⟨xb, 0, none⟩ (.slice (some ad) l c') := ⟨_, rfl⟩
          have HR7 : Hid (Rw W7 (.slice (some ad) l c') (fs.take k ++ ([f] ++ fs.drop k))) := Lib.hid (by rw [hW7]; exact OC.out.rw.beside BXC.out)
          have T7 := Lib.hid (TURN.out W7 hW7)
          have r7 := T7.out.1.cell 0 rfl; have rf7 := T7.out.1.free 0; have x7 := T7.out.2.1.cell 0 rfl
          have HW7 := Lib.hid hW7
          rw [hW7] at r7 rf7 x7
          clear hW7 x6 c0 c1 xc xcf
          go_wp2_with fail
          rw [← HW7.out]
          exact FIN.out _ _ W7 _ _ rfl rfl T7.out.1 (T7.out.2.2.1.less (by omega)) T7.out.2.2.2 HR7.out (by have := SA.out.len; have := SA.out.few; simp [List.length_take, List.length_drop]; omega) rfl
        · go_simp
          refine hK _ _ ?_
          clear hK KK
          try simp only [Act.put, List.setIfInBounds_toArray, List.set_cons_zero, List.set_cons_succ]
          refine wpAny_take (i := 8) (v := (.pointer (some ⟨bb, 0 + k * 2, none⟩))) rfl (by kernel_rfl) (by kernel_rfl) (by kernel_rfl) (fun _ _ _ h => h) (Or.inl ⟨by rfl, fun wq => ?_⟩) ?_
          · go_simp
          try simp only [Act.put, List.setIfInBounds_toArray, List.set_cons_zero, List.set_cons_succ]
          refine wpAny_ready (rs := [1, 9]) (by kernel_rfl) (by simp) (AllReady.cons rfl (fun KK hK => ?_) (AllReady.cons rfl (fun KK hK => ?_) AllReady.nil))
          · go_simp
            refine hK _ _ ?_
            clear hK KK
            try simp only [Act.put, List.setIfInBounds_toArray, List.set_cons_zero, List.set_cons_succ]
            refine wpAny_take (i := 4) (v := (.slice (some ⟨bb, 0, none⟩) k k)) rfl (by kernel_rfl) (by kernel_rfl) (by kernel_rfl) (fun _ _ _ h => h) (Or.inl ⟨by rfl, fun wq => ?_⟩) ?_
            · go_simp
            try simp only [Act.put, List.setIfInBounds_toArray, List.set_cons_zero, List.set_cons_succ]
            refine wpAny_ready (rs := [9]) (by kernel_rfl) (by simp) (AllReady.cons rfl (fun KK hK => ?_) AllReady.nil)
            go_simp
            refine hK _ _ ?_
            clear hK KK
            try simp only [Act.put, List.setIfInBounds_toArray, List.set_cons_zero, List.set_cons_succ]
            refine wpAny_ready (rs := [10]) (by kernel_rfl) (by simp) (AllReady.cons rfl (fun KK hK => ?_) AllReady.nil)
            refine step_bldF rfl 61 60 rfl rfl rfl ?_
            intro WB hWB
            have SB : Hid (Spo w0 w WB g (n + 7) rb xb bb m cap fs) := Lib.hid (by rw [hWB]; exact SA.out.keep (kp_alloc _ _))
            have NB : Hid (Blk WB WA.heap.size 55 #[.string (st f.1), .string (st f.2)]) := Lib.hid (by rw [hWB, ← E1.out, ← E2.out]; exact Blk.new _ _ _)
            have KB : Hid (Kp WA WB) := Lib.hid (by rw [hWB]; exact kp_alloc _ _)
            have x6b := SB.out.xbk.cell 0 rfl
            clear hWB
            refine hK _ _ ?_
            clear hK KK
            try simp only [Act.put, List.setIfInBounds_toArray, List.set_cons_zero, List.set_cons_succ]
            refine wpAny_ready (rs := [15]) (by kernel_rfl) (by simp) (AllReady.cons rfl (fun KK hK => ?_) AllReady.nil)
            refine step_grF (b := ⟨WA.heap.size, 0, none⟩) (a' := a14) (n := 1) (cap := 1) (m := m - k) (c := c14) (fs := [f]) (gs := fs.drop k) rfl (.tmp 61) (.tmp 65) rfl rfl rfl (Rw.one NB.out HFM.out.1 HFM.out.2) (H14.out.keep KB.out) (by have := HK.out; omega) (by have := SA.out.few; omega) ?_
            intro ad1 l1 cc1 WD hD hl1
            have OD : Hid (Rw WD (.slice (some ad1) l1 cc1) ([f] ++ fs.drop k)) := Lib.hid hD.rw
            have SD : Hid (Spo w0 w WD g (n + 7) rb xb bb m cap fs) := Lib.hid (SB.out.keep hD.kp)
            have KD : Hid (Kp WA WD) := Lib.hid (Kp.trans KB.out hD.kp)
            have L1 := Lib.hid hl1
            have x6d := SD.out.xbk.cell 0 rfl
            clear hD hl1
            refine hK _ _ ?_
            clear hK KK
            try simp only [Act.put, List.setIfInBounds_toArray, List.set_cons_zero, List.set_cons_succ]
            refine wpAny_ready (rs := [16]) (by kernel_rfl) (by simp) (AllReady.cons rfl (fun KK hK => ?_) AllReady.nil)
            refine step_grF (b := ⟨bb, 0, none⟩) (a' := ad1) (n := k) (cap := k) (m := l1) (c := cc1) (fs := fs.take k) (gs := [f] ++ fs.drop k) rfl (.tmp 55) (.tmp 66) rfl rfl rfl (SD.out.heads (by have := HK.out; omega)) OD.out (by have := L1.out; omega) (by have := SA.out.few; have := L1.out; have := HK.out; omega) ?_
            intro ad l c' WC hC hl
            have OC := Lib.hid hC
            have TURN : Hid (∀ W', W' = WC.setCell ⟨xb, 0, none⟩ (.slice (some ad) l c') → Blk W' rb 28 #[.slice none 0 0] ∧ Blk W' xb 28 #[.slice (some ad) l c'] ∧ Tq w0 W' g (n + 7) ∧ Gr g w W') := Lib.hid (fun W' hW => (SD.out.turn (row := none) ⟨hC.kp.os, hC.kp.tape, hC.kp.output, hC.kp.size, fun i hi _ => hC.kp.block i hi⟩ (fun r hr => by simp at hr) hW).2)
            have BXC : Hid (Blk WC xb 28 #[.slice (some ⟨bb, 0, none⟩) m cap]) := Lib.hid (SD.out.xbk.keep hC.kp)
            have xc := BXC.out.cell 0 rfl; have xcf := BXC.out.free 0
            clear hC hl
            refine hK _ _ ?_
            clear hK KK
            try simp only [Act.put, List.setIfInBounds_toArray, List.set_cons_zero, List.set_cons_succ]
            refine wpAny_ready (rs := [17]) (by kernel_rfl) (by simp) (AllReady.cons rfl (fun KK hK => ?_) AllReady.nil)
            go_simp
            refine hK _ _ ?_
            clear hK KK
            try simp only [Act.put, List.setIfInBounds_toArray, List.set_cons_zero, List.set_cons_succ]
            refine wpAny_ready (rs := [18]) (by kernel_rfl) (by simp) (AllReady.cons rfl (fun KK hK => ?_) AllReady.nil)
            go_simp
            refine hK _ _ ?_
            clear hK KK
            try simp only [Act.put, List.setIfInBounds_toArray, List.set_cons_zero, List.set_cons_succ]
            refine wpAny_done (by kernel_rfl) ?_ _
            have hlen2 := SA.out.len
            obtain ⟨W7, hW7⟩ : ∃ W, W = WC.setCell ⟨xb, 0, none⟩ (.slice (some ad) l c') := ⟨_, rfl⟩
            have HR7 : Hid (Rw W7 (.slice (some ad) l c') (fs.take k ++ ([f] ++ fs.drop k))) := Lib.hid (by rw [hW7]; exact OC.out.rw.beside BXC.out)
            have T7 := Lib.hid (TURN.out W7 hW7)
            have r7 := T7.out.1.cell 0 rfl; have rf7 := T7.out.1.free 0; have x7 := T7.out.2.1.cell 0 rfl
            have HW7 := Lib.hid hW7
            rw [hW7] at r7 rf7 x7
            clear hW7 x6 c0 c1 xc xcf
            go_wp2_with fail
            rw [← HW7.out]
            exact FIN.out _ _ W7 _ _ rfl rfl T7.out.1 (T7.out.2.2.1.less (by omega)) T7.out.2.2.2 HR7.out (by have := SA.out.len; have := SA.out.few; simp [List.length_take, List.length_drop]; omega) rfl
          · go_simp
            refine hK _ _ ?_
            clear hK KK
            try simp only [Act.put, List.setIfInBounds_toArray, List.set_cons_zero, List.set_cons_succ]
            refine wpAny_ready (rs := [1, 10]) (by kernel_rfl) (by simp) (AllReady.cons rfl (fun KK hK => ?_) (AllReady.cons rfl (fun KK hK => ?_) AllReady.nil))
            · go_simp
              refine hK _ _ ?_
              clear hK KK
              try simp only [Act.put, List.setIfInBounds_toArray, List.set_cons_zero, List.set_cons_succ]
              refine wpAny_take (i := 4) (v := (.slice (some ⟨bb, 0, none⟩) k k)) rfl (by kernel_rfl) (by kernel_rfl) (by kernel_rfl) (fun _ _ _ h => h) (Or.inl ⟨by rfl, fun wq => ?_⟩) ?_
              · go_simp
              try simp only [Act.put, List.setIfInBounds_toArray, List.set_cons_zero, List.set_cons_succ]
              refine wpAny_ready (rs := [10]) (by kernel_rfl) (by simp) (AllReady.cons rfl (fun KK hK => ?_) AllReady.nil)
              refine step_bldF rfl 61 60 rfl rfl rfl ?_
              intro WB hWB
              have SB : Hid (Spo w0 w WB g (n + 7) rb xb bb m cap fs) := Lib.hid (by rw [hWB]; exact SA.out.keep (kp_alloc _ _))
              have NB : Hid (Blk WB WA.heap.size 55 #[.string (st f.1), .string (st f.2)]) := Lib.hid (by rw [hWB, ← E1.out, ← E2.out]; exact Blk.new _ _ _)
              have KB : Hid (Kp WA WB) := Lib.hid (by rw [hWB]; exact kp_alloc _ _)
              have x6b := SB.out.xbk.cell 0 rfl
              clear hWB
              refine hK _ _ ?_
              clear hK KK
              try simp only [Act.put, List.setIfInBounds_toArray, List.set_cons_zero, List.set_cons_succ]
              refine wpAny_ready (rs := [15]) (by kernel_rfl) (by simp) (AllReady.cons rfl (fun KK hK => ?_) AllReady.nil)
              refine step_grF (b := ⟨WA.heap.size, 0, none⟩) (a' := a14) (n := 1) (cap := 1) (m := m - k) (c := c14) (fs := [f]) (gs := fs.drop k) rfl (.tmp 61) (.tmp 65) rfl rfl rfl (Rw.one NB.out HFM.out.1 HFM.out.2) (H14.out.keep KB.out) (by have := HK.out; omega) (by have := SA.out.few; omega) ?_
              intro ad1 l1 cc1 WD hD hl1
              have OD : Hid (Rw WD (.slice (some ad1) l1 cc1) ([f] ++ fs.drop k)) := Lib.hid hD.rw
              have SD : Hid (Spo w0 w WD g (n + 7) rb xb bb m cap fs) := Lib.hid (SB.out.keep hD.kp)
              have KD : Hid (Kp WA WD) := Lib.hid (Kp.trans KB.out hD.kp)
              have L1 := Lib.hid hl1
              have x6d := SD.out.xbk.cell 0 rfl
              clear hD hl1
              refine hK _ _ ?_
              clear hK KK
              try simp only [Act.put, List.setIfInBounds_toArray, List.set_cons_zero, List.set_cons_succ]
              refine wpAny_ready (rs := [16]) (by kernel_rfl) (by simp) (AllReady.cons rfl (fun KK hK => ?_) AllReady.nil)
              refine step_grF (b := ⟨bb, 0, none⟩) (a' := ad1) (n := k) (cap := k) (m := l1) (c := cc1) (fs := fs.take k) (gs := [f] ++ fs.drop k) rfl (.tmp 55) (.tmp 66) rfl rfl rfl (SD.out.heads (by have := HK.out; omega)) OD.out (by have := L1.out; omega) (by have := SA.out.few; have := L1.out; have := HK.out; omega) ?_
              intro ad l c' WC hC hl
              have OC := Lib.hid hC
              have TURN : Hid (∀ W', W' = WC.setCell ⟨xb, 0, none⟩ (.slice (some ad) l c') → Blk W' rb 28 #[.slice none 0 0] ∧ Blk W' xb 28 #[.slice (some ad) l c'] ∧ Tq w0 W' g (n + 7) ∧ Gr g w W') := Lib.hid (fun W' hW => (SD.out.turn (row := none) ⟨hC.kp.os, hC.kp.tape, hC.kp.output, hC.kp.size, fun i hi _ => hC.kp.block i hi⟩ (fun r hr => by simp at hr) hW).2)
              have BXC : Hid (Blk WC xb 28 #[.slice (some ⟨bb, 0, none⟩) m cap]) := Lib.hid (SD.out.xbk.keep hC.kp)
              have xc := BXC.out.cell 0 rfl; have xcf := BXC.out.free 0
              clear hC hl
              refine hK _ _ ?_
              clear hK KK
              try simp only [Act.put, List.setIfInBounds_toArray, List.set_cons_zero, List.set_cons_succ]
              refine wpAny_ready (rs := [17]) (by kernel_rfl) (by simp) (AllReady.cons rfl (fun KK hK => ?_) AllReady.nil)
              go_simp
              refine hK _ _ ?_
              clear hK KK
              try simp only [Act.put, List.setIfInBounds_toArray, List.set_cons_zero, List.set_cons_succ]
              refine wpAny_ready (rs := [18]) (by kernel_rfl) (by simp) (AllReady.cons rfl (fun KK hK => ?_) AllReady.nil)
              go_simp
              refine hK _ _ ?_
              clear hK KK
              try simp only [Act.put, List.setIfInBounds_toArray, List.set_cons_zero, List.set_cons_succ]
              refine wpAny_done (by kernel_rfl) ?_ _
              have hlen2 := SA.out.len
              obtain ⟨W7, hW7⟩ : ∃ W, W = WC.setCell ⟨xb, 0, none⟩ (.slice (some ad) l c') := ⟨_, rfl⟩
              have HR7 : Hid (Rw W7 (.slice (some ad) l c') (fs.take k ++ ([f] ++ fs.drop k))) := Lib.hid (by rw [hW7]; exact OC.out.rw.beside BXC.out)
              have T7 := Lib.hid (TURN.out W7 hW7)
              have r7 := T7.out.1.cell 0 rfl; have rf7 := T7.out.1.free 0; have x7 := T7.out.2.1.cell 0 rfl
              have HW7 := Lib.hid hW7
              rw [hW7] at r7 rf7 x7
              clear hW7 x6 c0 c1 xc xcf
              go_wp2_with fail
              rw [← HW7.out]
              exact FIN.out _ _ W7 _ _ rfl rfl T7.out.1 (T7.out.2.2.1.less (by omega)) T7.out.2.2.2 HR7.out (by have := SA.out.len; have := SA.out.few; simp [List.length_take, List.length_drop]; omega) rfl
            · refine step_bldF rfl 61 60 rfl rfl rfl ?_
              intro WB hWB
              have SB : Hid (Spo w0 w WB g (n + 7) rb xb bb m cap fs) := Lib.hid (by rw [hWB]; exact SA.out.keep (kp_alloc _ _))
              have NB : Hid (Blk WB WA.heap.size 55 #[.string (st f.1), .string (st f.2)]) := Lib.hid (by rw [hWB, ← E1.out, ← E2.out]; exact Blk.new _ _ _)
              have KB : Hid (Kp WA WB) := Lib.hid (by rw [hWB]; exact kp_alloc _ _)
              have x6b := SB.out.xbk.cell 0 rfl
              clear hWB
              refine hK _ _ ?_
              clear hK KK
              try simp only [Act.put, List.setIfInBounds_toArray, List.set_cons_zero, List.set_cons_succ]
              refine wpAny_ready (rs := [1, 15]) (by kernel_rfl) (by simp) (AllReady.cons rfl (fun KK hK => ?_) (AllReady.cons rfl (fun KK hK => ?_) AllReady.nil))
              · go_simp
                refine hK _ _ ?_
                clear hK KK
                try simp only [Act.put, List.setIfInBounds_toArray, List.set_cons_zero, List.set_cons_succ]
                refine wpAny_take (i := 4) (v := (.slice (some ⟨bb, 0, none⟩) k k)) rfl (by kernel_rfl) (by kernel_rfl) (by kernel_rfl) (fun _ _ _ h => h) (Or.inl ⟨by rfl, fun wq => ?_⟩) ?_
                · go_simp
                try simp only [Act.put, List.setIfInBounds_toArray, List.set_cons_zero, List.set_cons_succ]
                refine wpAny_ready (rs := [15]) (by kernel_rfl) (by simp) (AllReady.cons rfl (fun KK hK => ?_) AllReady.nil)
                refine step_grF (b := ⟨WA.heap.size, 0, none⟩) (a' := a14) (n := 1) (cap := 1) (m := m - k) (c := c14) (fs := [f]) (gs := fs.drop k) rfl (.tmp 61) (.tmp 65) rfl rfl rfl (Rw.one NB.out HFM.out.1 HFM.out.2) (H14.out.keep KB.out) (by have := HK.out; omega) (by have := SA.out.few; omega) ?_
                intro ad1 l1 cc1 WD hD hl1
                have OD : Hid (Rw WD (.slice (some ad1) l1 cc1) ([f] ++ fs.drop k)) := Lib.hid hD.rw
                have SD : Hid (Spo w0 w WD g (n + 7) rb xb bb m cap fs) := Lib.hid (SB.out.keep hD.kp)
                have KD : Hid (Kp WA WD) := Lib.hid (Kp.trans KB.out hD.kp)
                have L1 := Lib.hid hl1
                have x6d := SD.out.xbk.cell 0 rfl
                clear hD hl1
                refine hK _ _ ?_
                clear hK KK
                try simp only [Act.put, List.setIfInBounds_toArray, List.set_cons_zero, List.set_cons_succ]
                refine wpAny_ready (rs := [16]) (by kernel_rfl) (by simp) (AllReady.cons rfl (fun KK hK => ?_) AllReady.nil)
                refine step_grF (b := ⟨bb, 0, none⟩) (a' := ad1) (n := k) (cap := k) (m := l1) (c := cc1) (fs := fs.take k) (gs := [f] ++ fs.drop k) rfl (.tmp 55) (.tmp 66) rfl rfl rfl (SD.out.heads (by have := HK.out; omega)) OD.out (by have := L1.out; omega) (by have := SA.out.few; have := L1.out; have := HK.out; omega) ?_
                intro ad l c' WC hC hl
                have OC := Lib.hid hC
                have TURN : Hid (∀ W', W' = WC.setCell ⟨xb, 0, none⟩ (.slice (some ad) l c') → Blk W' rb 28 #[.slice none 0 0] ∧ Blk W' xb 28 #[.slice (some ad) l c'] ∧ Tq w0 W' g (n + 7) ∧ Gr g w W') := Lib.hid (fun W' hW => (SD.out.turn (row := none) ⟨hC.kp.os, hC.kp.tape, hC.kp.output, hC.kp.size, fun i hi _ => hC.kp.block i hi⟩ (fun r hr => by simp at hr) hW).2)
                have BXC : Hid (Blk WC xb 28 #[.slice (some ⟨bb, 0, none⟩) m cap]) := Lib.hid (SD.out.xbk.keep hC.kp)
                have xc := BXC.out.cell 0 rfl; have xcf := BXC.out.free 0
                clear hC hl
                refine hK _ _ ?_
                clear hK KK
                try simp only [Act.put, List.setIfInBounds_toArray, List.set_cons_zero, List.set_cons_succ]
                refine wpAny_ready (rs := [17]) (by kernel_rfl) (by simp) (AllReady.cons rfl (fun KK hK => ?_) AllReady.nil)
                go_simp
                refine hK _ _ ?_
                clear hK KK
                try simp only [Act.put, List.setIfInBounds_toArray, List.set_cons_zero, List.set_cons_succ]
                refine wpAny_ready (rs := [18]) (by kernel_rfl) (by simp) (AllReady.cons rfl (fun KK hK => ?_) AllReady.nil)
                go_simp
                refine hK _ _ ?_
                clear hK KK
                try simp only [Act.put, List.setIfInBounds_toArray, List.set_cons_zero, List.set_cons_succ]
                refine wpAny_done (by kernel_rfl) ?_ _
                have hlen2 := SA.out.len
                obtain ⟨W7, hW7⟩ : ∃ W, W = WC.setCell ⟨xb, 0, none⟩ (.slice (some ad) l c') := ⟨_, rfl⟩
                have HR7 : Hid (Rw W7 (.slice (some ad) l c') (fs.take k ++ ([f] ++ fs.drop k))) := Lib.hid (by rw [hW7]; exact OC.out.rw.beside BXC.out)
                have T7 := Lib.hid (TURN.out W7 hW7)
                have r7 := T7.out.1.cell 0 rfl; have rf7 := T7.out.1.free 0; have x7 := T7.out.2.1.cell 0 rfl
                have HW7 := Lib.hid hW7
                rw [hW7] at r7 rf7 x7
                clear hW7 x6 c0 c1 xc xcf
                go_wp2_with fail
                rw [← HW7.out]
                exact FIN.out _ _ W7 _ _ rfl rfl T7.out.1 (T7.out.2.2.1.less (by omega)) T7.out.2.2.2 HR7.out (by have := SA.out.len; have := SA.out.few; simp [List.length_take, List.length_drop]; omega) rfl
              · refine step_grF (b := ⟨WA.heap.size, 0, none⟩) (a' := a14) (n := 1) (cap := 1) (m := m - k) (c := c14) (fs := [f]) (gs := fs.drop k) rfl (.tmp 61) (.tmp 65) rfl rfl rfl (Rw.one NB.out HFM.out.1 HFM.out.2) (H14.out.keep KB.out) (by have := HK.out; omega) (by have := SA.out.few; omega) ?_
                intro ad1 l1 cc1 WD hD hl1
                have OD : Hid (Rw WD (.slice (some ad1) l1 cc1) ([f] ++ fs.drop k)) := Lib.hid hD.rw
                have SD : Hid (Spo w0 w WD g (n + 7) rb xb bb m cap fs) := Lib.hid (SB.out.keep hD.kp)
                have KD : Hid (Kp WA WD) := Lib.hid (Kp.trans KB.out hD.kp)
                have L1 := Lib.hid hl1
                have x6d := SD.out.xbk.cell 0 rfl
                clear hD hl1
                refine hK _ _ ?_
                clear hK KK
                try simp only [Act.put, List.setIfInBounds_toArray, List.set_cons_zero, List.set_cons_succ]
                refine wpAny_ready (rs := [1]) (by kernel_rfl) (by simp) (AllReady.cons rfl (fun KK hK => ?_) AllReady.nil)
                go_simp
                refine hK _ _ ?_
                clear hK KK
                try simp only [Act.put, List.setIfInBounds_toArray, List.set_cons_zero, List.set_cons_succ]
                refine wpAny_take (i := 4) (v := (.slice (some ⟨bb, 0, none⟩) k k)) rfl (by kernel_rfl) (by kernel_rfl) (by kernel_rfl) (fun _ _ _ h => h) (Or.inl ⟨by rfl, fun wq => ?_⟩) ?_
                · go_simp
                try simp only [Act.put, List.setIfInBounds_toArray, List.set_cons_zero, List.set_cons_succ]
                refine wpAny_ready (rs := [16]) (by kernel_rfl) (by simp) (AllReady.cons rfl (fun KK hK => ?_) AllReady.nil)
                refine step_grF (b := ⟨bb, 0, none⟩) (a' := ad1) (n := k) (cap := k) (m := l1) (c := cc1) (fs := fs.take k) (gs := [f] ++ fs.drop k) rfl (.tmp 55) (.tmp 66) rfl rfl rfl (SD.out.heads (by have := HK.out; omega)) OD.out (by have := L1.out; omega) (by have := SA.out.few; have := L1.out; have := HK.out; omega) ?_
                intro ad l c' WC hC hl
                have OC := Lib.hid hC
                have TURN : Hid (∀ W', W' = WC.setCell ⟨xb, 0, none⟩ (.slice (some ad) l c') → Blk W' rb 28 #[.slice none 0 0] ∧ Blk W' xb 28 #[.slice (some ad) l c'] ∧ Tq w0 W' g (n + 7) ∧ Gr g w W') := Lib.hid (fun W' hW => (SD.out.turn (row := none) ⟨hC.kp.os, hC.kp.tape, hC.kp.output, hC.kp.size, fun i hi _ => hC.kp.block i hi⟩ (fun r hr => by simp at hr) hW).2)
                have BXC : Hid (Blk WC xb 28 #[.slice (some ⟨bb, 0, none⟩) m cap]) := Lib.hid (SD.out.xbk.keep hC.kp)
                have xc := BXC.out.cell 0 rfl; have xcf := BXC.out.free 0
                clear hC hl
                refine hK _ _ ?_
                clear hK KK
                try simp only [Act.put, List.setIfInBounds_toArray, List.set_cons_zero, List.set_cons_succ]
                refine wpAny_ready (rs := [17]) (by kernel_rfl) (by simp) (AllReady.cons rfl (fun KK hK => ?_) AllReady.nil)
                go_simp
                refine hK _ _ ?_
                clear hK KK
                try simp only [Act.put, List.setIfInBounds_toArray, List.set_cons_zero, List.set_cons_succ]
                refine wpAny_ready (rs := [18]) (by kernel_rfl) (by simp) (AllReady.cons rfl (fun KK hK => ?_) AllReady.nil)
                go_simp
                refine hK _ _ ?_
                clear hK KK
                try simp only [Act.put, List.setIfInBounds_toArray, List.set_cons_zero, List.set_cons_succ]
                refine wpAny_done (by kernel_rfl) ?_ _
                have hlen2 := SA.out.len
                obtain ⟨W7, hW7⟩ : ∃ W, W = WC.setCell ⟨xb, 0, none⟩ (.slice (some ad) l c') := ⟨_, rfl⟩
                have HR7 : Hid (Rw W7 (.slice (some ad) l c') (fs.take k ++ ([f] ++ fs.drop k))) := Lib.hid (by rw [hW7]; exact OC.out.rw.beside BXC.out)
                have T7 := Lib.hid (TURN.out W7 hW7)
                have r7 := T7.out.1.cell 0 rfl; have rf7 := T7.out.1.free 0; have x7 := T7.out.2.1.cell 0 rfl
                have HW7 := Lib.hid hW7
                rw [hW7] at r7 rf7 x7
                clear hW7 x6 c0 c1 xc xcf
                go_wp2_with fail
                rw [← HW7.out]
                exact FIN.out _ _ W7 _ _ rfl rfl T7.out.1 (T7.out.2.2.1.less (by omega)) T7.out.2.2.2 HR7.out (by have := SA.out.len; have := SA.out.few; simp [List.length_take, List.length_drop]; omega) rfl
    · -- great bytes
      have x6 := S6.out.xbk.cell 0 rfl
      have S6b := Lib.hid (S6.out.less (k := n + 5 + 1) (by omega))
      go_wp2_with fail
      have x6d := cell_kept x6 (kp_drew w6)
      go_region_with
        (first
          | (go_at_call 33; refine (Next_q (w0 := w0) (n := n + 5) (by first | exact S6b.out.tq | exact S6b.out.tq.keep (kp_drew _)) 2 (by omega) (by omega)).mono ?_; rintro e wB ⟨⟨r, hr2, rfl⟩, hqB, hgB⟩; have hgB2 : Gr g w6 wB := (by first | exact hgB | exact Gr.trans ((kp_drew _).gr g) hgB); obtain ⟨M, MC, ZS, hMM, hwr, hzs, hmk, hcv⟩ := HMK.out r hr2; have sB0 := S6b.out.draw hgB2 hqB; have xB := sB0.xbk.cell 0 rfl; have sB := sB0.keep (kp_alloc wB (.cells MC 5)); obtain ⟨cB, cB2, fB, fB2⟩ := sB.cells HF.out; have xA := sB.xbk.cell 0 rfl)
          | fail "no arm")
      all_goals
        have SB := Lib.hid sB; have HZS := Lib.hid hzs
        obtain ⟨W7, hW7⟩ : ∃ W, W = (wB.alloc (.cells MC 5)).setCell ⟨bb, k * 2 + 1, none⟩ (.string ZS) := ⟨_, rfl⟩
        have o7 : Only bb (wB.alloc (.cells MC 5)) W7 := by rw [hW7]; exact (Only.refl _ _).set _ _
        have HR7 : Hid (Rw W7 (.slice (some ⟨bb, 0, none⟩) m cap) (fs.set k (f.1, bs ZS))) := Lib.hid (by rw [hW7]; exact (SB.out.own.put SB.out.len SB.out.pos k f HF.out ZS HZS.out).2)
        have T7 := Lib.hid (SB.out.stored o7)
        have r7 := T7.out.1.cell 0 rfl; have rf7 := T7.out.1.free 0; have x7 := T7.out.2.1.cell 0 rfl
        have HW7 := Lib.hid hW7
        rw [hW7] at r7 rf7 x7
        clear x6 x6d hqB hgB hgB2 sB sB0 xB xA cB cB2 fB fB2 hzs hW7 o7 hMM hwr hmk hcv
        go_wp2_with fail
        rw [← HW7.out]
        exact FIN.out _ _ W7 _ _ rfl rfl T7.out.1 (T7.out.2.2.1.less (by omega)) T7.out.2.2.2 HR7.out (by rw [List.length_set]; have := SB.out.len; have := SB.out.few; omega) rfl
    · -- as it is
      have x6 := S6.out.xbk.cell 0 rfl; have r6 := S6.out.rbk.cell 0 rfl; have rf6 := S6.out.rbk.free 0
      go_wp2_with fail
      exact FIN.out _ _ w6 _ fs rfl rfl S6.out.rbk (S6.out.tq.less (by omega)) S6.out.gr S6.out.own.rw (by have := S6.out.len; have := S6.out.few; omega) rfl
end By
end Go.Proofs.YtmkijkaabcgcbaaGreatDoor
