/- The parser's file: package, imports, declarations. Condition: the parser lies in memory as it is named. -/
import Derived.Test.YtmflgfojicaecaaGreatDoorMSh
namespace Go.Proofs.YtmflgfojicaecaaGreatDoor
namespace By
open Go.RowKit WireN LexN SrcN
set_option linter.unusedVariables false
set_option linter.unusedSimpArgs false

def dcellS (SN : ByteArray) (k : Int) (pv bv : Value) : List Value := [.int .i64 k, .string SN, pv, bv]
set_option maxRecDepth 100000 in
set_option maxHeartbeats 16000000 in
theorem file_st {F : Nat → Prop} {g p n : Nat} {W : World} {s : St} (h : PI F g p W s) {r : Out Src} (hr : file n s = some r) :
    Calls Tryz.prog 50 #[.pointer (some ⟨p, 0, none⟩)] W (AnsF F r W) := by
  obtain ⟨Q, hQ⟩ : ∃ Q, Q = AnsF F r W := ⟨_, rfl⟩
  rw [← hQ]
  have HQ := Lib.hid hQ
  have H := Lib.hid h
  obtain ⟨rb, hrb⟩ : ∃ rb, rb = W.heap.size := ⟨_, rfl⟩
  obtain ⟨W0, hW0⟩ : ∃ W0, W0 = W.alloc (Obj.cells #[.string ⟨#[]⟩, .slice none 0 0, .slice none 0 0] 29) := ⟨_, rfl⟩
  have k0 : Kp W W0 := by rw [hW0]; exact kp_alloc W _
  have hs0 : W0.heap.size = W.heap.size + 1 := by rw [hW0]; simp
  have K0 := Lib.hid k0
  have RB : Hid (Blk W0 rb 29 #[.string ⟨#[]⟩, .slice none 0 0, .slice none 0 0]) := Lib.hid (by rw [hW0, hrb]; exact Blk.new _ _ _)
  obtain ⟨F0, hF0⟩ : ∃ F0, F0 = Mine F W W0 := ⟨_, rfl⟩
  have HFF : Hid (∀ k, F k → F0 k) := Lib.hid (fun k hk => by rw [hF0]; exact .inl hk)
  have MR : Hid (F0 rb) := Lib.hid (by rw [hF0]; exact .inr ⟨by omega, by omega⟩)
  have P0 : Hid (PI F0 g p W0 s) := Lib.hid (by rw [hF0]; exact h.fresh k0)
  have BS0 : Hid (∀ b, Bs g b → F0 b) := Lib.hid P0.out.tok
  have DOM0 : Hid (∀ b, F0 b → b < W0.heap.size) := Lib.hid (fun b hb => by obtain ⟨_, _, _, _, _, hp⟩ := P0.out; exact hp.dom b hb)
  have DOMF : Hid (∀ b, F b → b < W.heap.size) := Lib.hid (fun b hb => by obtain ⟨_, _, _, _, _, hp⟩ := h; exact hp.dom b hb)
  have KF : Hid (∀ W', Keep F0 W0 W' → Keep F W W') := Lib.hid (fun W' hk => (Kp.keep K0.out DOMF.out).trans (hk.mono HFF.out))
  have BAD : Hid (∀ a e W', Keep F0 W0 W' → r = .bad a e → Q (pan a e) W') := Lib.hid (by
    intro a e W' hk he
    rw [HQ.out, he]
    exact ⟨rfl, KF.out W' hk⟩)
  have ERB := Lib.hid hrb; have HW0 := Lib.hid hW0
  have H0 : Hid (bnd (expt [112, 97, 99, 107, 97, 103, 101]) (fun _ => bnd name fun t => bnd (expt [59]) fun _ => bnd (imports t.2.1 n []) fun im => bnd (decls n n []) fun ds => ret (⟨t.2.1, im, ds⟩ : Src)) s = some r) := hr
  clear hQ h hrb hW0 k0 hs0 hF0 hr
  go_enter Tryz.func50, Tryz.ntmps50
  go_wp2_with fail
  rw [← HW0.out, ← ERB.out]
  rcases bnd_some H0.out with ⟨a, e, hm, he⟩ | ⟨u, s1, hm, hk1⟩
  · have C := Lib.hid (expect_st P0.out (X := ⟨#[112, 97, 99, 107, 97, 103, 101]⟩) (w := [112, 97, 99, 107, 97, 103, 101]) rfl (lt_mem (by decide)) (by decide) hm)
    have HE := Lib.hid he
    clear hm he
    refine C.out.mono ?_
    rintro e1 W1 ⟨rfl, hk⟩
    exact ⟨rfl, BAD.out _ _ _ hk HE.out⟩
  have C := Lib.hid (expect_st P0.out (X := ⟨#[112, 97, 99, 107, 97, 103, 101]⟩) (w := [112, 97, 99, 107, 97, 103, 101]) rfl (lt_mem (by decide)) (by decide) hm)
  have H1 := Lib.hid hk1
  clear hm hk1
  refine C.out.mono ?_
  rintro e1 W1 ⟨⟨v, rfl, rfl⟩, hpi, hke⟩
  have P1 := Lib.hid hpi; have E1 := Lib.hid hke
  clear hpi hke C
  go_wp2_with fail
  rcases bnd_some H1.out with ⟨a, e, hm, he⟩ | ⟨t, s2, hm, hk2⟩
  · have C := Lib.hid (name_st P1.out hm)
    have HE := Lib.hid he
    clear hm he
    refine C.out.mono ?_
    rintro e1 W2 ⟨rfl, hk⟩
    exact ⟨rfl, BAD.out _ _ _ (E1.out.trans hk) HE.out⟩
  have C := Lib.hid (name_st P1.out hm)
  obtain ⟨K, T, NM, AT⟩ := t
  have H2 : Hid (bnd (expt [59]) (fun _ => bnd (imports T n []) fun im => bnd (decls n n []) fun ds => ret (⟨T, im, ds⟩ : Src)) s2 = some r) := hk2
  clear hm hk2
  refine C.out.mono ?_
  rintro e1 W2 ⟨⟨v, rfl, rfl, htok⟩, hpi, hke⟩
  have hf1 := fun w => fld1 (K : Nat) (NM : Nat) (AT : Nat) (st T) w
  have LT : Hid (Lt T ∧ T.length ≤ 100000) := Lib.hid ⟨htok.1, htok.2.1⟩
  obtain ⟨TS, hTS⟩ : ∃ x, x = st T := ⟨_, rfl⟩
  obtain ⟨fb, hfb⟩ : ∃ fb, fb = W2.heap.size := ⟨_, rfl⟩
  obtain ⟨W3, hW3⟩ : ∃ W3, W3 = W2.alloc (Obj.cells #[.string (st T), .slice none 0 0, .slice none 0 0] 29) := ⟨_, rfl⟩
  have k3 : Kp W2 W3 := by rw [hW3]; exact kp_alloc W2 _
  have hs3 : W3.heap.size = W2.heap.size + 1 := by rw [hW3]; simp
  have FB3 : Hid (Blk W3 fb 29 #[.string TS, .slice none 0 0, .slice none 0 0]) := Lib.hid (by rw [hW3, hfb, hTS]; exact Blk.new _ _ _)
  have P3 := Lib.hid (hpi.fresh k3)
  have DOM2 : ∀ b, F0 b → b < W2.heap.size := fun b hb => by obtain ⟨_, _, _, _, _, hp⟩ := hpi; exact hp.dom b hb
  have INI : Hid (Mine F0 W2 W3 fb ∧ ¬ F0 fb) := Lib.hid ⟨.inr ⟨by omega, by omega⟩, fun hx => by have := DOM2 fb hx; omega⟩
  have E3 : Hid (Keep F0 W0 W3) := Lib.hid ((E1.out.trans hke).trans (Kp.keep k3 DOM2))
  have HTS := Lib.hid hTS; have HW3 := Lib.hid hW3; have HFB := Lib.hid hfb
  clear hpi hke htok hTS hfb hW3 k3 hs3 DOM2 C
  go_wp2_with fail
  rw [← HW3.out, ← HFB.out]
  clear hf1
  rcases bnd_some H2.out with ⟨a, e, hm, he⟩ | ⟨u, s3, hm, hk3⟩
  · have C := Lib.hid (expect_st P3.out (X := ⟨#[59]⟩) (w := [59]) rfl (lt_mem (by decide)) (by decide) hm)
    have HE := Lib.hid he
    clear hm he
    refine C.out.mono ?_
    rintro e1 W4 ⟨rfl, hk⟩
    exact ⟨rfl, BAD.out _ _ _ (E3.out.trans (hk.mono (fun k hk => .inl hk))) HE.out⟩
  have C := Lib.hid (expect_st P3.out (X := ⟨#[59]⟩) (w := [59]) rfl (lt_mem (by decide)) (by decide) hm)
  obtain ⟨RST, hRST⟩ : ∃ R : List (List Nat) → SrcN.P Src, R = fun im => bnd (decls n n []) fun ds => ret (⟨T, im, ds⟩ : Src) := ⟨_, rfl⟩
  have H3 : Hid (bnd (imports T n []) RST s3 = some r) := Lib.hid (by rw [hRST]; exact hk3)
  have HRST := Lib.hid hRST
  clear hm hk3 hRST
  refine C.out.mono ?_
  rintro e1 W4 ⟨⟨v, rfl, rfl⟩, hpi, hke⟩
  have ST0 : Hid (∃ (s : St) (im : List (List Nat)) (iv : Value) (G : Nat → Prop), F1 F0 G g p fb TS W4 s im iv ∧ Keep F0 W0 W4 ∧ bnd (imports T n im) RST s = some r) := Lib.hid ⟨s3, [], .slice none 0 0, _, ⟨hpi, FB3.out.kept hke INI.out.1, ⟨World.ownsRow_nil _ _ _ _, fun b hb => by simp [Value.ownBlock] at hb, by simp, fun n hn => by simp at hn⟩, fun b hb => by simp [Value.ownBlock] at hb, INI.out, fun k hk => .inl hk, BS0.out⟩, E3.out.trans (hke.mono (fun k hk => .inl hk)), H3.out⟩
  clear hpi hke C
  go_wp2_with fail
  go_loopg [13] n (fun m tv wy => Hid (∃ (s : St) (im : List (List Nat)) (iv : Value) (G : Nat → Prop), F1 F0 G g p fb TS wy s im iv ∧ Keep F0 W0 wy ∧ bnd (imports T m im) RST s = some r))
  case atStart => exact ST0.out
  case round =>
    obtain ⟨s, im, iv, G, hf, hk0, hh⟩ := hrel.out
    rename World => wy
    cases gk with
    | zero => rw [imports_zero] at hh; cases hh
    | succ m =>
    rw [imports_step] at hh
    have C := Lib.hid (is_st hf.pi (X := ⟨#[105, 109, 112, 111, 114, 116]⟩) (w := [105, 109, 112, 111, 114, 116]) rfl (lt_mem (by decide)))
    have HF := Lib.hid hf; have HK0 := Lib.hid hk0
    clear hrel hf hk0
    cases hb : isW [105, 109, 112, 111, 114, 116] s with
    | true =>
      rw [hb] at C
      rw [hb, if_pos rfl] at hh
      have HH : Hid (bnd (imported T im) (fun q => bnd (imports T m (im ++ [q])) RST) s = some r) := Lib.hid hh
      clear hb hh
      go_wp2_with fail
      refine C.out.mono ?_
      intro e Wa hs2
      obtain rfl := hs2.e
      have HFA := Lib.hid (HF.out.keep hs2.kp hs2.pi)
      have HKA := Lib.hid (HK0.out.trans (hs2.kp.mono HF.out.sub))
      clear hs2 C
      obtain ⟨io, ic, hiv⟩ := row_open HFA.out.row.own
      obtain ⟨il, hil⟩ : ∃ il, il = im.length := ⟨_, rfl⟩
      rw [← hil] at hiv
      subst hiv
      have HIL := Lib.hid hil
      have hdG : Hid (∀ b, G b → b < Wa.heap.size) := Lib.hid (fun b hb => by obtain ⟨_, _, _, _, _, hp⟩ := HFA.out.pi; exact hp.dom b hb)
      have BASE : Hid (∀ W4, W4 = World.drew Wa → Kp Wa W4 ∧ W4.cell? ⟨fb, 0, none⟩ = some (.string TS) ∧ W4.cell? ⟨fb, 1, none⟩ = some (.slice io il ic) ∧ W4.cell? ⟨fb, 2, none⟩ = some (.slice none 0 0)) := Lib.hid (by
        intro W4 e
        have k : Kp Wa W4 := by rw [e]; exact kp_drew Wa
        have b := HFA.out.fbk.keep k
        exact ⟨k, b.cell 0 rfl, b.cell 1 rfl, b.cell 2 rfl⟩)
      have CK : Hid (∀ W4 W5, Kp Wa W4 → Keep G W4 W5 → W5.cell? ⟨fb, 1, none⟩ = some (.slice io il ic)) := Lib.hid (fun W4 W5 k hk => ((HFA.out.fbk.keep k).kept hk HFA.out.inG.1).cell 1 rfl)
      clear hil
      rcases bnd_some HH.out with ⟨a, e, hm, he⟩ | ⟨N, s', hm, hk2⟩
      · have CB : Hid (∀ W4, Kp Wa W4 → Calls Tryz.prog 91 #[.pointer (some ⟨p, 0, none⟩), .agg #[.string TS, .slice io il ic, .slice none 0 0]] W4 (Ans' G g p vS (.bad a e) W4)) := Lib.hid (fun W4 k => by
          have h := imported_st (F := G) (dO := none) (dl := 0) (dc := 0) (HFA.out.pi.kp k) LT.out.1 (HFA.out.row.kp k) hm
          rw [← HTS.out] at h
          exact h)
        have FB : Hid (∀ W4 W5, Kp Wa W4 → Keep G W4 W5 → Q (pan a e) W5) := Lib.hid (by
          intro W4 W5 k hk
          exact BAD.out _ _ _ (HKA.out.trans (((Kp.keep k hdG.out).trans hk).mono HFA.out.sub)) he)
        clear hm he HH
        go_upto_region 5 with fail
        refine wp_region_any (by kernel_rfl) ?_
        change wpAny _ _ _ _ _ _ _ (World.drew _)
        obtain ⟨W4, hW4⟩ : ∃ W, W = Wa.drew := ⟨_, rfl⟩
        rw [← hW4]
        obtain ⟨KW4, x0, x1, x2⟩ := BASE.out W4 hW4
        clear hW4
        refine wpAny_take (i := 0) (v := (.pointer (some ⟨fb, 1, none⟩))) rfl (by kernel_rfl) (by kernel_rfl) (by kernel_rfl) (fun _ _ _ h => h) (Or.inl ⟨by rfl, fun wq => ?_⟩) ?_
        · go_simp
        try simp only [Act.put, List.setIfInBounds_toArray, List.set_cons_zero, List.set_cons_succ]
        refine wpAny_take (i := 2) (v := (.pointer (some ⟨p, 0, none⟩))) rfl (by kernel_rfl) (by kernel_rfl) (by kernel_rfl) (fun _ _ _ h => h) (Or.inl ⟨by rfl, fun wq => ?_⟩) ?_
        · go_simp
        try simp only [Act.put, List.setIfInBounds_toArray, List.set_cons_zero, List.set_cons_succ]
        refine wpAny_ready (rs := [1, 3]) (by kernel_rfl) (by simp) (AllReady.cons rfl (fun KK hK => ?_) (AllReady.cons rfl (fun KK hK => ?_) AllReady.nil))
        · go_simp
          refine hK _ _ ?_
          clear hK KK
          try simp only [Act.put, List.setIfInBounds_toArray, List.set_cons_zero, List.set_cons_succ]
          refine wpAny_ready (rs := [3]) (by kernel_rfl) (by simp) (AllReady.cons rfl (fun KK hK => ?_) AllReady.nil)
          go_simp
          refine hK _ _ ?_
          clear hK KK
          try simp only [Act.put, List.setIfInBounds_toArray, List.set_cons_zero, List.set_cons_succ]
          refine wpAny_ready (rs := [4]) (by kernel_rfl) (by simp) (AllReady.cons rfl (fun KK hK => ?_) AllReady.nil)
          go_simp
          go_at_call 91
          refine (CB.out W4 KW4).mono ?_
          rintro e1 W5 ⟨rfl, hk5⟩
          exact ⟨rfl, FB.out W4 W5 KW4 hk5⟩
        · go_simp
          refine hK _ _ ?_
          clear hK KK
          try simp only [Act.put, List.setIfInBounds_toArray, List.set_cons_zero, List.set_cons_succ]
          refine wpAny_ready (rs := [1, 4]) (by kernel_rfl) (by simp) (AllReady.cons rfl (fun KK hK => ?_) (AllReady.cons rfl (fun KK hK => ?_) AllReady.nil))
          · go_simp
            refine hK _ _ ?_
            clear hK KK
            try simp only [Act.put, List.setIfInBounds_toArray, List.set_cons_zero, List.set_cons_succ]
            refine wpAny_ready (rs := [4]) (by kernel_rfl) (by simp) (AllReady.cons rfl (fun KK hK => ?_) AllReady.nil)
            go_simp
            go_at_call 91
            refine (CB.out W4 KW4).mono ?_
            rintro e1 W5 ⟨rfl, hk5⟩
            exact ⟨rfl, FB.out W4 W5 KW4 hk5⟩
          · go_simp
            go_at_call 91
            refine (CB.out W4 KW4).mono ?_
            rintro e1 W5 ⟨rfl, hk5⟩
            exact ⟨rfl, FB.out W4 W5 KW4 hk5⟩
      · obtain ⟨SN, hSN⟩ : ∃ x, x = st N := ⟨_, rfl⟩
        have HSN : Hid (st N = SN) := Lib.hid hSN.symm
        have hil8 : il < 8 := by have := imported_lt hm; have := HIL.out; omega
        have HK2 : Hid (bnd (imports T m (im ++ [N])) RST s' = some r) := Lib.hid hk2
        have CB : Hid (∀ W4, Kp Wa W4 → Calls Tryz.prog 91 #[.pointer (some ⟨p, 0, none⟩), .agg #[.string TS, .slice io il ic, .slice none 0 0]] W4 (Ans' G g p vS (.ok N s') W4)) := Lib.hid (fun W4 k => by
          have h := imported_st (F := G) (dO := none) (dl := 0) (dc := 0) (HFA.out.pi.kp k) LT.out.1 (HFA.out.row.kp k) hm
          rw [← HTS.out] at h
          exact h)
        have AL : Hid (∀ W4 W5 W6, Kp Wa W4 → Keep G W4 W5 → W6 = W5.alloc (.cells #[.string SN] 9) → W6.cell? ⟨fb, 1, none⟩ = some (.slice io il ic) ∧ W6.ownsRow 0 9 1 (.slice io il ic) il (im.map fun n => Value.string (st n)) ∧ W6.cell? ⟨W5.heap.size, 0, none⟩ = some (.string SN)) := Lib.hid (by
          intro W4 W5 W6 k hk e
          have k6 : Kp W5 W6 := by rw [e]; exact kp_alloc W5 _
          have b : Blk W6 W5.heap.size 9 #[.string SN] := by rw [e]; exact Blk.new _ _ _
          have hr := HFA.out.row.own
          rw [← HIL.out] at hr
          refine ⟨(((HFA.out.fbk.keep k).kept hk HFA.out.inG.1).keep k6).cell 1 rfl, own_keep hr (fun b hv => ?_), b.cell 0 rfl⟩
          have h1 := (hr.lt b hv).2
          have h2 := hk.block b (HFA.out.row.inF b hv)
          exact (k6.block b (Nat.lt_of_lt_of_le h1 (Nat.le_trans k.size hk.size))).trans (h2.trans (k.block b h1)))
        have GR : Hid (∀ W4 W5 W6 W7, Kp Wa W4 → Keep G W4 W5 → W6 = W5.alloc (.cells #[.string SN] 9) → W6.grownBy W7 (Value.slice io il ic).ownBlock → W7.frozen? ⟨fb, 1, none⟩ = false ∧ W7.cell? ⟨fb, 1, none⟩ = some (.slice io il ic)) := Lib.hid (by
          intro W4 W5 W6 W7 k hk e g7
          have k6 : Kp W5 W6 := by rw [e]; exact kp_alloc W5 _
          have b6 := ((HFA.out.fbk.keep k).kept hk HFA.out.inG.1).keep k6
          have b7 : Blk W7 fb 29 #[.string TS, .slice io il ic, .slice none 0 0] := (g7.block fb b6.lt (fun e => (HFA.out.nof fb e.symm).2 rfl)).trans b6
          exact ⟨b7.free 1, b7.cell 1 rfl⟩)
        have FIN : Hid (∀ W4 W5 W6 W7 v7, Kp Wa W4 → PI G g p W5 s' → Keep G W4 W5 → Lt N → W6 = W5.alloc (.cells #[.string SN] 9) → W7.ownsRow 0 9 1 v7 (il + 1) ((im.map fun n => Value.string (st n)) ++ [.string SN]) → W6.grownBy W7 (Value.slice io il ic).ownBlock → (v7.ownBlock = (Value.slice io il ic).ownBlock ∨ v7.ownBlock = some W6.heap.size) →
            ∀ X, X = W7.setCell ⟨fb, 1, none⟩ v7 → (∃ G', F1 F0 G' g p fb TS X s' (im ++ [N]) v7) ∧ Keep F0 W0 X) := Lib.hid (by
          intro W4 W5 W6 W7 v7 k hpi hk hN e r7 g7 h7 X hX
          rw [hSN] at e r7
          obtain ⟨h1, h2⟩ := F1.push ((HFA.out.kp k).keep hk hpi) HIL.out hil8 hN e r7 g7 h7 hX
          exact ⟨h1, (HKA.out.trans (((Kp.keep k hdG.out).trans hk).mono HFA.out.sub)).trans h2⟩)
        clear hm hk2 HH hSN
        go_upto_region 5 with fail
        refine wp_region_any (by kernel_rfl) ?_
        change wpAny _ _ _ _ _ _ _ (World.drew _)
        obtain ⟨W4, hW4⟩ : ∃ W, W = Wa.drew := ⟨_, rfl⟩
        rw [← hW4]
        obtain ⟨KW4, x0, x1, x2⟩ := BASE.out W4 hW4
        clear hW4
        refine wpAny_take (i := 0) (v := (.pointer (some ⟨fb, 1, none⟩))) rfl (by kernel_rfl) (by kernel_rfl) (by kernel_rfl) (fun _ _ _ h => h) (Or.inl ⟨by rfl, fun wq => ?_⟩) ?_
        · go_simp
        try simp only [Act.put, List.setIfInBounds_toArray, List.set_cons_zero, List.set_cons_succ]
        refine wpAny_take (i := 2) (v := (.pointer (some ⟨p, 0, none⟩))) rfl (by kernel_rfl) (by kernel_rfl) (by kernel_rfl) (fun _ _ _ h => h) (Or.inl ⟨by rfl, fun wq => ?_⟩) ?_
        · go_simp
        try simp only [Act.put, List.setIfInBounds_toArray, List.set_cons_zero, List.set_cons_succ]
        refine wpAny_ready (rs := [1, 3]) (by kernel_rfl) (by simp) (AllReady.cons rfl (fun KK hK => ?_) (AllReady.cons rfl (fun KK hK => ?_) AllReady.nil))
        · go_simp
          refine hK _ _ ?_
          clear hK KK
          try simp only [Act.put, List.setIfInBounds_toArray, List.set_cons_zero, List.set_cons_succ]
          refine wpAny_ready (rs := [3]) (by kernel_rfl) (by simp) (AllReady.cons rfl (fun KK hK => ?_) AllReady.nil)
          go_simp
          refine hK _ _ ?_
          clear hK KK
          try simp only [Act.put, List.setIfInBounds_toArray, List.set_cons_zero, List.set_cons_succ]
          refine wpAny_ready (rs := [4]) (by kernel_rfl) (by simp) (AllReady.cons rfl (fun KK hK => ?_) AllReady.nil)
          go_simp
          go_at_call 91
          refine (CB.out W4 KW4).mono ?_
          rintro e1 W5 ⟨⟨v5, rfl, rfl, hv5⟩, hpi5, hke5⟩
          have a5 := CK.out W4 W5 KW4 hke5
          rw [HSN.out]
          have hS := Lib.hid hK
          clear hK
          go_wp2_with fail
          have hK := hS.out
          clear hS
          refine hK _ _ ?_
          clear hK KK
          try simp only [Act.put, List.setIfInBounds_toArray, List.set_cons_zero, List.set_cons_succ]
          refine wpAny_ready (rs := [5]) (by kernel_rfl) (by simp) (AllReady.cons rfl (fun KK hK => ?_) AllReady.nil)
          refine step_bldS rfl 19 18 rfl rfl rfl ?_
          intro W6 hW6
          obtain ⟨a6, rr6, i6⟩ := AL.out W4 W5 W6 KW4 hke5 hW6
          have HW6 := Lib.hid hW6
          clear hW6
          refine hK _ _ ?_
          clear hK KK
          try simp only [Act.put, List.setIfInBounds_toArray, List.set_cons_zero, List.set_cons_succ]
          refine wpAny_ready (rs := [6]) (by kernel_rfl) (by simp) (AllReady.cons rfl (fun KK hK => ?_) AllReady.nil)
          refine step_row rfl (.tmp 15) (.tmp 19) 26 rfl 0 9 _ 1 16 Tryz.underlying26 infoS rfl (by omega) _ il (im.map fun n => Value.string (st n)) rfl rr6 ⟨W5.heap.size, 0, none⟩ 1 1 [.string SN] rfl rfl ?_ (by intro u hu; simp at hu; subst hu; rfl) (by unfold maxLen; omega) (by omega) (Nat.zero_le _) ?_
          · (intro j u hu; rw [Addr.add_lit, Nat.zero_add]; match j, hu with | 0, hu => (injection hu with hu; rw [← hu]; exact i6))
          intro v7 W7 r7 g7 h7
          obtain ⟨b7, c7, rfl⟩ := row_open r7
          obtain ⟨fp, cp⟩ := GR.out W4 W5 W6 W7 KW4 hke5 HW6.out g7
          have F7 := Lib.hid (FIN.out W4 W5 W6 W7 _ KW4 hpi5 hke5 hv5.1 HW6.out r7 g7 h7)
          clear r7 g7 h7 HW6 rr6 i6 a6 hpi5 hke5 hv5
          refine hK _ _ ?_
          clear hK KK
          try simp only [Act.put, List.setIfInBounds_toArray, List.set_cons_zero, List.set_cons_succ]
          refine wpAny_ready (rs := [7]) (by kernel_rfl) (by simp) (AllReady.cons rfl (fun KK hK => ?_) AllReady.nil)
          go_simp
          refine hK _ _ ?_
          clear hK KK
          try simp only [Act.put, List.setIfInBounds_toArray, List.set_cons_zero, List.set_cons_succ]
          refine wpAny_ready (rs := [8]) (by kernel_rfl) (by simp) (AllReady.cons rfl (fun KK hK => ?_) AllReady.nil)
          go_simp
          refine hK _ _ ?_
          clear hK KK
          try simp only [Act.put, List.setIfInBounds_toArray, List.set_cons_zero, List.set_cons_succ]
          refine wpAny_done (by kernel_rfl) ?_ _
          obtain ⟨X, hX⟩ : ∃ X, X = W7.setCell ⟨fb, 1, none⟩ (.slice b7 (il + 1) c7) := ⟨_, rfl⟩
          have HX := Lib.hid hX
          clear hX fp cp x0 x1 x2
          go_wp2_with fail
          rw [← HX.out]
          go_roundg m
          case rel =>
            obtain ⟨⟨G', h1⟩, h2⟩ := F7.out X HX.out
            exact ⟨_, _, _, G', h1, h2, HK2.out⟩
          case measure => omega
        · go_simp
          refine hK _ _ ?_
          clear hK KK
          try simp only [Act.put, List.setIfInBounds_toArray, List.set_cons_zero, List.set_cons_succ]
          refine wpAny_ready (rs := [1, 4]) (by kernel_rfl) (by simp) (AllReady.cons rfl (fun KK hK => ?_) (AllReady.cons rfl (fun KK hK => ?_) AllReady.nil))
          · go_simp
            refine hK _ _ ?_
            clear hK KK
            try simp only [Act.put, List.setIfInBounds_toArray, List.set_cons_zero, List.set_cons_succ]
            refine wpAny_ready (rs := [4]) (by kernel_rfl) (by simp) (AllReady.cons rfl (fun KK hK => ?_) AllReady.nil)
            go_simp
            go_at_call 91
            refine (CB.out W4 KW4).mono ?_
            rintro e1 W5 ⟨⟨v5, rfl, rfl, hv5⟩, hpi5, hke5⟩
            have a5 := CK.out W4 W5 KW4 hke5
            rw [HSN.out]
            have hS := Lib.hid hK
            clear hK
            go_wp2_with fail
            have hK := hS.out
            clear hS
            refine hK _ _ ?_
            clear hK KK
            try simp only [Act.put, List.setIfInBounds_toArray, List.set_cons_zero, List.set_cons_succ]
            refine wpAny_ready (rs := [5]) (by kernel_rfl) (by simp) (AllReady.cons rfl (fun KK hK => ?_) AllReady.nil)
            refine step_bldS rfl 19 18 rfl rfl rfl ?_
            intro W6 hW6
            obtain ⟨a6, rr6, i6⟩ := AL.out W4 W5 W6 KW4 hke5 hW6
            have HW6 := Lib.hid hW6
            clear hW6
            refine hK _ _ ?_
            clear hK KK
            try simp only [Act.put, List.setIfInBounds_toArray, List.set_cons_zero, List.set_cons_succ]
            refine wpAny_ready (rs := [6]) (by kernel_rfl) (by simp) (AllReady.cons rfl (fun KK hK => ?_) AllReady.nil)
            refine step_row rfl (.tmp 15) (.tmp 19) 26 rfl 0 9 _ 1 16 Tryz.underlying26 infoS rfl (by omega) _ il (im.map fun n => Value.string (st n)) rfl rr6 ⟨W5.heap.size, 0, none⟩ 1 1 [.string SN] rfl rfl ?_ (by intro u hu; simp at hu; subst hu; rfl) (by unfold maxLen; omega) (by omega) (Nat.zero_le _) ?_
            · (intro j u hu; rw [Addr.add_lit, Nat.zero_add]; match j, hu with | 0, hu => (injection hu with hu; rw [← hu]; exact i6))
            intro v7 W7 r7 g7 h7
            obtain ⟨b7, c7, rfl⟩ := row_open r7
            obtain ⟨fp, cp⟩ := GR.out W4 W5 W6 W7 KW4 hke5 HW6.out g7
            have F7 := Lib.hid (FIN.out W4 W5 W6 W7 _ KW4 hpi5 hke5 hv5.1 HW6.out r7 g7 h7)
            clear r7 g7 h7 HW6 rr6 i6 a6 hpi5 hke5 hv5
            refine hK _ _ ?_
            clear hK KK
            try simp only [Act.put, List.setIfInBounds_toArray, List.set_cons_zero, List.set_cons_succ]
            refine wpAny_ready (rs := [7]) (by kernel_rfl) (by simp) (AllReady.cons rfl (fun KK hK => ?_) AllReady.nil)
            go_simp
            refine hK _ _ ?_
            clear hK KK
            try simp only [Act.put, List.setIfInBounds_toArray, List.set_cons_zero, List.set_cons_succ]
            refine wpAny_ready (rs := [8]) (by kernel_rfl) (by simp) (AllReady.cons rfl (fun KK hK => ?_) AllReady.nil)
            go_simp
            refine hK _ _ ?_
            clear hK KK
            try simp only [Act.put, List.setIfInBounds_toArray, List.set_cons_zero, List.set_cons_succ]
            refine wpAny_done (by kernel_rfl) ?_ _
            obtain ⟨X, hX⟩ : ∃ X, X = W7.setCell ⟨fb, 1, none⟩ (.slice b7 (il + 1) c7) := ⟨_, rfl⟩
            have HX := Lib.hid hX
            clear hX fp cp x0 x1 x2
            go_wp2_with fail
            rw [← HX.out]
            go_roundg m
            case rel =>
              obtain ⟨⟨G', h1⟩, h2⟩ := F7.out X HX.out
              exact ⟨_, _, _, G', h1, h2, HK2.out⟩
            case measure => omega
          · go_simp
            go_at_call 91
            refine (CB.out W4 KW4).mono ?_
            rintro e1 W5 ⟨⟨v5, rfl, rfl, hv5⟩, hpi5, hke5⟩
            have a5 := CK.out W4 W5 KW4 hke5
            rw [HSN.out]
            have hS := Lib.hid hK
            clear hK
            go_wp2_with fail
            have hK := hS.out
            clear hS
            refine hK _ _ ?_
            clear hK KK
            try simp only [Act.put, List.setIfInBounds_toArray, List.set_cons_zero, List.set_cons_succ]
            refine wpAny_ready (rs := [1, 5]) (by kernel_rfl) (by simp) (AllReady.cons rfl (fun KK hK => ?_) (AllReady.cons rfl (fun KK hK => ?_) AllReady.nil))
            · go_simp
              refine hK _ _ ?_
              clear hK KK
              try simp only [Act.put, List.setIfInBounds_toArray, List.set_cons_zero, List.set_cons_succ]
              refine wpAny_ready (rs := [5]) (by kernel_rfl) (by simp) (AllReady.cons rfl (fun KK hK => ?_) AllReady.nil)
              refine step_bldS rfl 19 18 rfl rfl rfl ?_
              intro W6 hW6
              obtain ⟨a6, rr6, i6⟩ := AL.out W4 W5 W6 KW4 hke5 hW6
              have HW6 := Lib.hid hW6
              clear hW6
              refine hK _ _ ?_
              clear hK KK
              try simp only [Act.put, List.setIfInBounds_toArray, List.set_cons_zero, List.set_cons_succ]
              refine wpAny_ready (rs := [6]) (by kernel_rfl) (by simp) (AllReady.cons rfl (fun KK hK => ?_) AllReady.nil)
              refine step_row rfl (.tmp 15) (.tmp 19) 26 rfl 0 9 _ 1 16 Tryz.underlying26 infoS rfl (by omega) _ il (im.map fun n => Value.string (st n)) rfl rr6 ⟨W5.heap.size, 0, none⟩ 1 1 [.string SN] rfl rfl ?_ (by intro u hu; simp at hu; subst hu; rfl) (by unfold maxLen; omega) (by omega) (Nat.zero_le _) ?_
              · (intro j u hu; rw [Addr.add_lit, Nat.zero_add]; match j, hu with | 0, hu => (injection hu with hu; rw [← hu]; exact i6))
              intro v7 W7 r7 g7 h7
              obtain ⟨b7, c7, rfl⟩ := row_open r7
              obtain ⟨fp, cp⟩ := GR.out W4 W5 W6 W7 KW4 hke5 HW6.out g7
              have F7 := Lib.hid (FIN.out W4 W5 W6 W7 _ KW4 hpi5 hke5 hv5.1 HW6.out r7 g7 h7)
              clear r7 g7 h7 HW6 rr6 i6 a6 hpi5 hke5 hv5
              refine hK _ _ ?_
              clear hK KK
              try simp only [Act.put, List.setIfInBounds_toArray, List.set_cons_zero, List.set_cons_succ]
              refine wpAny_ready (rs := [7]) (by kernel_rfl) (by simp) (AllReady.cons rfl (fun KK hK => ?_) AllReady.nil)
              go_simp
              refine hK _ _ ?_
              clear hK KK
              try simp only [Act.put, List.setIfInBounds_toArray, List.set_cons_zero, List.set_cons_succ]
              refine wpAny_ready (rs := [8]) (by kernel_rfl) (by simp) (AllReady.cons rfl (fun KK hK => ?_) AllReady.nil)
              go_simp
              refine hK _ _ ?_
              clear hK KK
              try simp only [Act.put, List.setIfInBounds_toArray, List.set_cons_zero, List.set_cons_succ]
              refine wpAny_done (by kernel_rfl) ?_ _
              obtain ⟨X, hX⟩ : ∃ X, X = W7.setCell ⟨fb, 1, none⟩ (.slice b7 (il + 1) c7) := ⟨_, rfl⟩
              have HX := Lib.hid hX
              clear hX fp cp x0 x1 x2
              go_wp2_with fail
              rw [← HX.out]
              go_roundg m
              case rel =>
                obtain ⟨⟨G', h1⟩, h2⟩ := F7.out X HX.out
                exact ⟨_, _, _, G', h1, h2, HK2.out⟩
              case measure => omega
            · refine step_bldS rfl 19 18 rfl rfl rfl ?_
              intro W6 hW6
              obtain ⟨a6, rr6, i6⟩ := AL.out W4 W5 W6 KW4 hke5 hW6
              have HW6 := Lib.hid hW6
              clear hW6
              refine hK _ _ ?_
              clear hK KK
              try simp only [Act.put, List.setIfInBounds_toArray, List.set_cons_zero, List.set_cons_succ]
              refine wpAny_ready (rs := [1]) (by kernel_rfl) (by simp) (AllReady.cons rfl (fun KK hK => ?_) AllReady.nil)
              go_simp
              refine hK _ _ ?_
              clear hK KK
              try simp only [Act.put, List.setIfInBounds_toArray, List.set_cons_zero, List.set_cons_succ]
              refine wpAny_ready (rs := [6]) (by kernel_rfl) (by simp) (AllReady.cons rfl (fun KK hK => ?_) AllReady.nil)
              refine step_row rfl (.tmp 15) (.tmp 19) 26 rfl 0 9 _ 1 16 Tryz.underlying26 infoS rfl (by omega) _ il (im.map fun n => Value.string (st n)) rfl rr6 ⟨W5.heap.size, 0, none⟩ 1 1 [.string SN] rfl rfl ?_ (by intro u hu; simp at hu; subst hu; rfl) (by unfold maxLen; omega) (by omega) (Nat.zero_le _) ?_
              · (intro j u hu; rw [Addr.add_lit, Nat.zero_add]; match j, hu with | 0, hu => (injection hu with hu; rw [← hu]; exact i6))
              intro v7 W7 r7 g7 h7
              obtain ⟨b7, c7, rfl⟩ := row_open r7
              obtain ⟨fp, cp⟩ := GR.out W4 W5 W6 W7 KW4 hke5 HW6.out g7
              have F7 := Lib.hid (FIN.out W4 W5 W6 W7 _ KW4 hpi5 hke5 hv5.1 HW6.out r7 g7 h7)
              clear r7 g7 h7 HW6 rr6 i6 a6 hpi5 hke5 hv5
              refine hK _ _ ?_
              clear hK KK
              try simp only [Act.put, List.setIfInBounds_toArray, List.set_cons_zero, List.set_cons_succ]
              refine wpAny_ready (rs := [7]) (by kernel_rfl) (by simp) (AllReady.cons rfl (fun KK hK => ?_) AllReady.nil)
              go_simp
              refine hK _ _ ?_
              clear hK KK
              try simp only [Act.put, List.setIfInBounds_toArray, List.set_cons_zero, List.set_cons_succ]
              refine wpAny_ready (rs := [8]) (by kernel_rfl) (by simp) (AllReady.cons rfl (fun KK hK => ?_) AllReady.nil)
              go_simp
              refine hK _ _ ?_
              clear hK KK
              try simp only [Act.put, List.setIfInBounds_toArray, List.set_cons_zero, List.set_cons_succ]
              refine wpAny_done (by kernel_rfl) ?_ _
              obtain ⟨X, hX⟩ : ∃ X, X = W7.setCell ⟨fb, 1, none⟩ (.slice b7 (il + 1) c7) := ⟨_, rfl⟩
              have HX := Lib.hid hX
              clear hX fp cp x0 x1 x2
              go_wp2_with fail
              rw [← HX.out]
              go_roundg m
              case rel =>
                obtain ⟨⟨G', h1⟩, h2⟩ := F7.out X HX.out
                exact ⟨_, _, _, G', h1, h2, HK2.out⟩
              case measure => omega
    | false =>
      rw [hb] at C
      rw [hb, if_neg (by simp), HRST.out] at hh
      have HH : Hid (bnd (decls n n []) (fun ds => ret (⟨T, im, ds⟩ : Src)) s = some r) := Lib.hid hh
      clear hb hh
      go_wp2_with fail
      refine C.out.mono ?_
      intro e Wb hs2
      obtain rfl := hs2.e
      have ST1 : Hid (∃ (s : St) (ds : List Dc) (xs : List (Value × Value)) (dv : Value) (G D : Nat → Prop), F2 F0 G D g p fb TS im iv Wb s ds xs dv ∧ Keep F0 W0 Wb ∧ bnd (decls n n ds) (fun ds => ret (⟨T, im, ds⟩ : Src)) s = some r) := Lib.hid ⟨s, [], [], _, G, _, (HF.out.keep hs2.kp hs2.pi).two, HK0.out.trans (hs2.kp.mono HF.out.sub), HH.out⟩
      obtain ⟨io, ic, hiv⟩ := row_open HF.out.row.own
      obtain ⟨il, hil⟩ : ∃ il, il = im.length := ⟨_, rfl⟩
      rw [← hil] at hiv
      subst hiv
      clear hs2 C HF HK0 HH hil
      go_wp2_with fail
      go_loopg [29] n (fun m tv wy => Hid (∃ (s : St) (ds : List Dc) (xs : List (Value × Value)) (dv : Value) (G D : Nat → Prop), F2 F0 G D g p fb TS im (.slice io il ic) wy s ds xs dv ∧ Keep F0 W0 wy ∧ bnd (decls n m ds) (fun ds => ret (⟨T, im, ds⟩ : Src)) s = some r))
      case atStart => exact ST1.out
      case round =>
        obtain ⟨s, ds, xs, dv, G, D, hf, hk0, hh⟩ := hrel.out
        cases gk with
        | zero => rw [decls_zero] at hh; cases hh
        | succ m =>
        rw [decls_step] at hh
        obtain ⟨Wa, hWa⟩ : ∃ W, W = wr := ⟨_, rfl⟩
        subst hWa
        obtain ⟨o, len, rc, pv, bv, K5, T5, N5, A5, hhd, hT5, hpc⟩ := hf.pi.hd
        have HFA := Lib.hid hf; have HKA := Lib.hid hk0
        obtain ⟨dvo, dvc, hdv⟩ := row_open hf.decs.row.own
        obtain ⟨dl, hdl⟩ : ∃ dl, dl = ds.length := ⟨_, rfl⟩
        rw [← hdl] at hdv
        subst hdv
        obtain ⟨c0, c1, c2, f0, t0, t1, t2, t3, hp, hlen⟩ := hpc
        have hrr : (len : Int) ≠ 0 := by omega
        rw [hhd] at hh
        have HDL := Lib.hid hdl
        have hdG : Hid (∀ b, G b → b < Wa.heap.size) := Lib.hid (fun b hb => by obtain ⟨_, _, _, _, _, hp⟩ := HFA.out.pi; exact hp.dom b hb)
        have ff := HFA.out.fbk
        have z0 := ff.cell 0 rfl; have z1 := ff.cell 1 rfl; have z2 := ff.cell 2 rfl
        clear hrel hf hk0 hdl hhd hT5 c1 c2 f0 t1 t2 t3 ff
        by_cases hK5 : K5 = 5
        · subst hK5
          rw [if_pos rfl] at hh
          have HR : Hid (r = .ok ⟨T, im, ds⟩ s) := Lib.hid (by
            unfold ret at hh
            injection hh with hh
            exact hh.symm)
          have hrb0 := HKA.out.block rb MR.out
          have rbk : Blk Wa rb 29 #[.string ⟨#[]⟩, .slice none 0 0, .slice none 0 0] := hrb0.trans RB.out
          have RBK := Lib.hid rbk
          have v0 := rbk.cell 0 rfl; have v1 := rbk.cell 1 rfl; have v2 := rbk.cell 2 rfl
          have u0 := rbk.free 0; have u1 := rbk.free 1; have u2 := rbk.free 2
          have FIN : Hid (∀ V, V = ((Wa.setCell ⟨rb, 0, none⟩ (.string TS)).setCell ⟨rb, 1, none⟩ (.slice io il ic)).setCell ⟨rb, 2, none⟩ (.slice dvo dl dvc) → Q (.returned (.agg #[.string TS, .slice io il ic, .slice dvo dl dvc])) V) := Lib.hid (by
            intro V hV
            have ov : Only rb Wa V := by rw [hV]; exact (((Only.refl _ Wa).set 0 _).set 1 _).set 2 _
            have kv : Keep (fun b => b ≠ rb) Wa V := ⟨ov.os, ov.tape, ov.output, Nat.le_of_eq ov.size, fun b hb => ov.block b hb⟩
            rw [HQ.out, HR.out]
            refine ⟨_, _, xs, by rw [HTS.out], ⟨⟨D, ?_, HFA.out.decs.kept kv (fun b hb e => (HFA.out.dsub b hb).2.1 (e ▸ MR.out)) (fun b hb e => (HFA.out.dvG b hb).2.1 (e ▸ MR.out)), fun b hb hf => (HFA.out.dsub b hb).2.1 (HFF.out b hf), fun b hb => ⟨fun hf => (HFA.out.dvG b hb).2.1 (HFF.out b hf), (HFA.out.dvG b hb).2.2.2⟩⟩, LT.out⟩, ?_⟩
            · exact ⟨own_keep HFA.out.row.own (fun b hb => kv.block b (fun e => (HFA.out.row.inF b hb).2.1 (e ▸ MR.out))), fun b hb => ⟨fun hf => (HFA.out.row.inF b hb).2.1 (HFF.out b hf), (HFA.out.row.inF b hb).2.2.2⟩, HFA.out.row.few, HFA.out.row.ok⟩
            · exact (KF.out Wa HKA.out).trans ⟨ov.os, ov.tape, ov.output, Nat.le_of_eq ov.size, fun b hb => ov.block b (fun e => by have := DOMF.out b hb; have := ERB.out; omega)⟩)
          clear hh hrb0 rbk
          go_wp2_with fail
          obtain ⟨V, hV⟩ : ∃ V, V = ((Wa.setCell ⟨rb, 0, none⟩ (.string TS)).setCell ⟨rb, 1, none⟩ (.slice io il ic)).setCell ⟨rb, 2, none⟩ (.slice dvo dl dvc) := ⟨_, rfl⟩
          rw [← hV]
          have bV : Blk V rb 29 #[.string TS, .slice io il ic, .slice dvo dl dvc] := by rw [hV]; exact ((RBK.out.set 0 _).set 1 _).set 2 _
          exact bodyPost_ret (results_cell_row rfl _ V rb _ _ _ _ rfl bV Tryz.underlying29 rfl (by kernel_rfl)) rfl (FIN.out V hV)
        · rw [if_neg hK5] at hh
          have q5 : ((K5 : Int) == 5) = false := beq_eq_false_iff_ne.2 (by omega)
          have HH : Hid (bnd (decl n ds) (fun d => bnd (decls n m (ds ++ [d])) fun ds => ret (⟨T, im, ds⟩ : Src)) s = some r) := Lib.hid hh
          have BASE : Hid (∀ W4, W4 = World.drew Wa → Kp Wa W4 ∧ W4.cell? ⟨fb, 0, none⟩ = some (.string TS) ∧ W4.cell? ⟨fb, 1, none⟩ = some (.slice io il ic) ∧ W4.cell? ⟨fb, 2, none⟩ = some (.slice dvo dl dvc)) := Lib.hid (by
            intro W4 e
            have k : Kp Wa W4 := by rw [e]; exact kp_drew Wa
            have b := HFA.out.fbk.keep k
            exact ⟨k, b.cell 0 rfl, b.cell 1 rfl, b.cell 2 rfl⟩)
          have CK : Hid (∀ W4 W5, Kp Wa W4 → Keep G W4 W5 → W5.cell? ⟨fb, 2, none⟩ = some (.slice dvo dl dvc)) := Lib.hid (fun W4 W5 k hk => ((HFA.out.fbk.keep k).kept hk HFA.out.inG.1).cell 2 rfl)
          clear hh hK5
          rcases bnd_some HH.out with ⟨a, e, hm, he⟩ | ⟨d, s', hm, hk2⟩
          · have CB : Hid (∀ W4, Kp Wa W4 → Calls Tryz.prog 92 #[.pointer (some ⟨p, 0, none⟩), .slice dvo dl dvc] W4 (AnsD G g p (.bad a e) W4)) := Lib.hid (fun W4 k => decl_st (F := G) (HFA.out.pi.kp k) (HFA.out.decs.row.kp k) (fun b hb => (HFA.out.dvG b hb).1) hm)
            have FB : Hid (∀ W4 W5, Kp Wa W4 → Keep G W4 W5 → Q (pan a e) W5) := Lib.hid (by
              intro W4 W5 k hk
              exact BAD.out _ _ _ (HKA.out.trans (((Kp.keep k hdG.out).trans hk).mono HFA.out.sub)) he)
            clear hm he HH
            go_upto_region 7 with fail
            clear c0 t0 z0 z1 z2
            refine wp_region_any (by kernel_rfl) ?_
            change wpAny _ _ _ _ _ _ _ (World.drew _)
            obtain ⟨W4, hW4⟩ : ∃ W, W = Wa.drew := ⟨_, rfl⟩
            rw [← hW4]
            obtain ⟨KW4, x0, x1, x2⟩ := BASE.out W4 hW4
            clear hW4
            refine wpAny_take (i := 0) (v := (.pointer (some ⟨fb, 2, none⟩))) rfl (by kernel_rfl) (by kernel_rfl) (by kernel_rfl) (fun _ _ _ h => h) (Or.inl ⟨by rfl, fun wq => ?_⟩) ?_
            · go_simp
            try simp only [Act.put, List.setIfInBounds_toArray, List.set_cons_zero, List.set_cons_succ]
            refine wpAny_take (i := 2) (v := (.pointer (some ⟨p, 0, none⟩))) rfl (by kernel_rfl) (by kernel_rfl) (by kernel_rfl) (fun _ _ _ h => h) (Or.inl ⟨by rfl, fun wq => ?_⟩) ?_
            · go_simp
            try simp only [Act.put, List.setIfInBounds_toArray, List.set_cons_zero, List.set_cons_succ]
            refine wpAny_take (i := 3) (v := (.pointer (some ⟨fb, 2, none⟩))) rfl (by kernel_rfl) (by kernel_rfl) (by kernel_rfl) (fun _ _ _ h => h) (Or.inl ⟨by rfl, fun wq => ?_⟩) ?_
            · go_simp
            try simp only [Act.put, List.setIfInBounds_toArray, List.set_cons_zero, List.set_cons_succ]
            refine wpAny_ready (rs := [1, 4]) (by kernel_rfl) (by simp) (AllReady.cons rfl (fun KK hK => ?_) (AllReady.cons rfl (fun KK hK => ?_) AllReady.nil))
            · go_simp
              refine hK _ _ ?_
              clear hK KK
              try simp only [Act.put, List.setIfInBounds_toArray, List.set_cons_zero, List.set_cons_succ]
              refine wpAny_ready (rs := [4]) (by kernel_rfl) (by simp) (AllReady.cons rfl (fun KK hK => ?_) AllReady.nil)
              go_simp
              refine hK _ _ ?_
              clear hK KK
              try simp only [Act.put, List.setIfInBounds_toArray, List.set_cons_zero, List.set_cons_succ]
              refine wpAny_ready (rs := [5]) (by kernel_rfl) (by simp) (AllReady.cons rfl (fun KK hK => ?_) AllReady.nil)
              go_simp
              go_at_call 92
              refine (CB.out W4 KW4).mono ?_
              rintro e1 W5 ⟨rfl, hk5⟩
              exact ⟨rfl, FB.out W4 W5 KW4 hk5⟩
            · go_simp
              refine hK _ _ ?_
              clear hK KK
              try simp only [Act.put, List.setIfInBounds_toArray, List.set_cons_zero, List.set_cons_succ]
              refine wpAny_ready (rs := [1, 5]) (by kernel_rfl) (by simp) (AllReady.cons rfl (fun KK hK => ?_) (AllReady.cons rfl (fun KK hK => ?_) AllReady.nil))
              · go_simp
                refine hK _ _ ?_
                clear hK KK
                try simp only [Act.put, List.setIfInBounds_toArray, List.set_cons_zero, List.set_cons_succ]
                refine wpAny_ready (rs := [5]) (by kernel_rfl) (by simp) (AllReady.cons rfl (fun KK hK => ?_) AllReady.nil)
                go_simp
                go_at_call 92
                refine (CB.out W4 KW4).mono ?_
                rintro e1 W5 ⟨rfl, hk5⟩
                exact ⟨rfl, FB.out W4 W5 KW4 hk5⟩
              · go_simp
                go_at_call 92
                refine (CB.out W4 KW4).mono ?_
                rintro e1 W5 ⟨rfl, hk5⟩
                exact ⟨rfl, FB.out W4 W5 KW4 hk5⟩
          · obtain ⟨SN, hSN⟩ : ∃ x, x = st d.nm := ⟨_, rfl⟩
            have HSN : Hid (st d.nm = SN) := Lib.hid hSN.symm
            have hdl64 : dl < 64 := by have := decl_lt hm; have := HDL.out; omega
            have HK2 : Hid (bnd (decls n m (ds ++ [d])) (fun ds => ret (⟨T, im, ds⟩ : Src)) s' = some r) := Lib.hid hk2
            have CB : Hid (∀ W4, Kp Wa W4 → Calls Tryz.prog 92 #[.pointer (some ⟨p, 0, none⟩), .slice dvo dl dvc] W4 (AnsD G g p (.ok d s') W4)) := Lib.hid (fun W4 k => decl_st (F := G) (HFA.out.pi.kp k) (HFA.out.decs.row.kp k) (fun b hb => (HFA.out.dvG b hb).1) hm)
            have AL : Hid (∀ W4 W5 W6 (po : Option Addr) (pl pc : Nat) (bo : Option Addr) (bl bc : Nat), Kp Wa W4 → Keep G W4 W5 → W6 = W5.alloc (.cells #[.int .i64 (d.k : Nat), .string SN, .slice po pl pc, .slice bo bl bc] 38) →
                W6.cell? ⟨fb, 2, none⟩ = some (.slice dvo dl dvc) ∧ W6.ownsRow 0 38 4 (.slice dvo dl dvc) dl (dcells ds xs) ∧ W6.cell? ⟨W5.heap.size, 0, none⟩ = some (.int .i64 (d.k : Nat)) ∧ W6.cell? ⟨W5.heap.size, 1, none⟩ = some (.string SN) ∧ W6.cell? ⟨W5.heap.size, 2, none⟩ = some (.slice po pl pc) ∧ W6.cell? ⟨W5.heap.size, 3, none⟩ = some (.slice bo bl bc)) := Lib.hid (by
              intro W4 W5 W6 po pl pc bo bl bc k hk e
              have k6 : Kp W5 W6 := by rw [e]; exact kp_alloc W5 _
              have b : Blk W6 W5.heap.size 38 #[.int .i64 (d.k : Nat), .string SN, .slice po pl pc, .slice bo bl bc] := by rw [e]; exact Blk.new _ _ _
              have hr := HFA.out.decs.row.own
              rw [← HDL.out] at hr
              refine ⟨(((HFA.out.fbk.keep k).kept hk HFA.out.inG.1).keep k6).cell 2 rfl, own_keep hr (fun b hv => ?_), b.cell 0 rfl, b.cell 1 rfl, b.cell 2 rfl, b.cell 3 rfl⟩
              have h1 := (hr.lt b hv).2
              have h2 := hk.block b (HFA.out.dvG b hv).1
              exact (k6.block b (Nat.lt_of_lt_of_le h1 (Nat.le_trans k.size hk.size))).trans (h2.trans (k.block b h1)))
            have GR : Hid (∀ W4 W5 W6 W7, Kp Wa W4 → Keep G W4 W5 → Kp W5 W6 → W6.grownBy W7 (Value.slice dvo dl dvc).ownBlock → W7.frozen? ⟨fb, 2, none⟩ = false ∧ W7.cell? ⟨fb, 2, none⟩ = some (.slice dvo dl dvc)) := Lib.hid (by
              intro W4 W5 W6 W7 k hk k6 g7
              have b6 := ((HFA.out.fbk.keep k).kept hk HFA.out.inG.1).keep k6
              have b7 : Blk W7 fb 29 #[.string TS, .slice io il ic, .slice dvo dl dvc] := (g7.block fb b6.lt (fun e => (HFA.out.dvG fb e.symm).2.2.1 rfl)).trans b6
              exact ⟨b7.free 2, b7.cell 2 rfl⟩)
            have FIN : Hid (∀ W4 W5 W6 W7 v7 (G' E : Nat → Prop) (po : Option Addr) (pl pc : Nat) (bo : Option Addr) (bl bc : Nat), Kp Wa W4 → (∀ k, G k → G' k) → PI G' g p W5 s' → DcAt E W5 d (.slice po pl pc) (.slice bo bl bc) → (∀ b, E b → G' b ∧ ¬ G b ∧ b < W5.heap.size) → Lt d.nm → Keep G W4 W5 → W6 = W5.alloc (.cells #[.int .i64 (d.k : Nat), .string SN, .slice po pl pc, .slice bo bl bc] 38) →
                W7.ownsRow 0 38 4 v7 (dl + 1) (dcells ds xs ++ dcellS SN (d.k : Int) (.slice po pl pc) (.slice bo bl bc)) → W6.grownBy W7 (Value.slice dvo dl dvc).ownBlock → (v7.ownBlock = (Value.slice dvo dl dvc).ownBlock ∨ v7.ownBlock = some W6.heap.size) →
                ∀ X, X = W7.setCell ⟨fb, 2, none⟩ v7 → (∃ G2 D2, F2 F0 G2 D2 g p fb TS im (.slice io il ic) X s' (ds ++ [d]) (xs ++ [(.slice po pl pc, .slice bo bl bc)]) v7) ∧ Keep F0 W0 X) := Lib.hid (by
              intro W4 W5 W6 W7 v7 G' E po pl pc bo bl bc k hGG hpi hdc hE hN hk e r7 g7 h7 X hX
              rw [hSN] at e r7
              have hpi5 : PI G g p W5 s' := hpi.less hGG (fun b hb => HFA.out.sub b (HFA.out.bs b hb))
              obtain ⟨h1, h2⟩ := F2.push ((HFA.out.kp k).keep hk hpi5) hGG hpi HDL.out hdl64 hdc hE hN e r7 g7 h7 hX
              exact ⟨h1, (HKA.out.trans (((Kp.keep k hdG.out).trans hk).mono HFA.out.sub)).trans h2⟩)
            clear hm hk2 HH hSN
            go_upto_region 7 with fail
            clear c0 t0 z0 z1 z2
            refine wp_region_any (by kernel_rfl) ?_
            change wpAny _ _ _ _ _ _ _ (World.drew _)
            obtain ⟨W4, hW4⟩ : ∃ W, W = Wa.drew := ⟨_, rfl⟩
            rw [← hW4]
            obtain ⟨KW4, x0, x1, x2⟩ := BASE.out W4 hW4
            clear hW4
            refine wpAny_take (i := 0) (v := (.pointer (some ⟨fb, 2, none⟩))) rfl (by kernel_rfl) (by kernel_rfl) (by kernel_rfl) (fun _ _ _ h => h) (Or.inl ⟨by rfl, fun wq => ?_⟩) ?_
            · go_simp
            try simp only [Act.put, List.setIfInBounds_toArray, List.set_cons_zero, List.set_cons_succ]
            refine wpAny_take (i := 2) (v := (.pointer (some ⟨p, 0, none⟩))) rfl (by kernel_rfl) (by kernel_rfl) (by kernel_rfl) (fun _ _ _ h => h) (Or.inl ⟨by rfl, fun wq => ?_⟩) ?_
            · go_simp
            try simp only [Act.put, List.setIfInBounds_toArray, List.set_cons_zero, List.set_cons_succ]
            refine wpAny_take (i := 3) (v := (.pointer (some ⟨fb, 2, none⟩))) rfl (by kernel_rfl) (by kernel_rfl) (by kernel_rfl) (fun _ _ _ h => h) (Or.inl ⟨by rfl, fun wq => ?_⟩) ?_
            · go_simp
            try simp only [Act.put, List.setIfInBounds_toArray, List.set_cons_zero, List.set_cons_succ]
            refine wpAny_ready (rs := [1, 4]) (by kernel_rfl) (by simp) (AllReady.cons rfl (fun KK hK => ?_) (AllReady.cons rfl (fun KK hK => ?_) AllReady.nil))
            · go_simp
              refine hK _ _ ?_
              clear hK KK
              try simp only [Act.put, List.setIfInBounds_toArray, List.set_cons_zero, List.set_cons_succ]
              refine wpAny_ready (rs := [4]) (by kernel_rfl) (by simp) (AllReady.cons rfl (fun KK hK => ?_) AllReady.nil)
              go_simp
              refine hK _ _ ?_
              clear hK KK
              try simp only [Act.put, List.setIfInBounds_toArray, List.set_cons_zero, List.set_cons_succ]
              refine wpAny_ready (rs := [5]) (by kernel_rfl) (by simp) (AllReady.cons rfl (fun KK hK => ?_) AllReady.nil)
              go_simp
              go_at_call 92
              refine (CB.out W4 KW4).mono ?_
              rintro e1 W5 ⟨pv, bv, G', E, rfl, hGG, hpi5, hdc5, hE5, hlt5, hln5, hke5⟩
              obtain ⟨po, pc, rfl⟩ := row_open hdc5.prow
              obtain ⟨bo, bc, rfl⟩ : ∃ a c, bv = .slice a _ c := by obtain ⟨_, _, h2, _⟩ := hdc5.brow; exact row_open h2
              have a5 := CK.out W4 W5 KW4 hke5
              rw [HSN.out]
              obtain ⟨pl, hpl⟩ : ∃ x, x = d.ps.length := ⟨_, rfl⟩
              obtain ⟨bl, hbl⟩ : ∃ x, x = d.bd.length := ⟨_, rfl⟩
              rw [← hpl, ← hbl]
              rw [← hpl, ← hbl] at hdc5
              clear hpl hbl
              have hS := Lib.hid hK
              clear hK
              go_wp2_with fail
              have hK := hS.out
              clear hS
              refine hK _ _ ?_
              clear hK KK
              try simp only [Act.put, List.setIfInBounds_toArray, List.set_cons_zero, List.set_cons_succ]
              refine wpAny_ready (rs := [6]) (by kernel_rfl) (by simp) (AllReady.cons rfl (fun KK hK => ?_) AllReady.nil)
              refine step_bldD rfl 36 35 rfl rfl rfl ?_
              intro W6 hW6
              obtain ⟨a6, rr6, i0, i1, i2, i3⟩ := AL.out W4 W5 W6 po pl pc bo bl bc KW4 hke5 hW6
              have HW6 := Lib.hid hW6
              clear hW6
              refine hK _ _ ?_
              clear hK KK
              try simp only [Act.put, List.setIfInBounds_toArray, List.set_cons_zero, List.set_cons_succ]
              refine wpAny_ready (rs := [7]) (by kernel_rfl) (by simp) (AllReady.cons rfl (fun KK hK => ?_) AllReady.nil)
              refine step_row rfl (.tmp 31) (.tmp 36) 27 rfl 0 38 _ 4 72 Tryz.underlying27 infoD rfl (by omega) _ dl (dcells ds xs) rfl rr6 ⟨W5.heap.size, 0, none⟩ 1 1 (dcellS SN (d.k : Int) (.slice po pl pc) (.slice bo bl bc)) rfl rfl ?_ (by intro u hu; simp [dcellS] at hu; rcases hu with rfl | rfl | rfl | rfl <;> rfl) (by unfold maxLen; omega) (by omega) (Nat.zero_le _) ?_
              · (intro j u hu; rw [Addr.add_lit, Nat.zero_add]; match j, hu with | 0, hu => (injection hu with hu; rw [← hu]; exact i0) | 1, hu => (injection hu with hu; rw [← hu]; exact i1) | 2, hu => (injection hu with hu; rw [← hu]; exact i2) | 3, hu => (injection hu with hu; rw [← hu]; exact i3))
              intro v7 W7 r7 g7 h7
              obtain ⟨b7, c7, rfl⟩ := row_open r7
              obtain ⟨fp, cp⟩ := GR.out W4 W5 W6 W7 KW4 hke5 (by rw [HW6.out]; exact kp_alloc _ _) g7
              have F7 := Lib.hid (FIN.out W4 W5 W6 W7 _ G' E po pl pc bo bl bc KW4 hGG hpi5 hdc5 hE5 hlt5 hke5 HW6.out r7 g7 h7)
              clear r7 g7 h7 HW6 rr6 i0 i1 i2 i3 a6 hGG hpi5 hdc5 hE5 hlt5 hln5 hke5
              refine hK _ _ ?_
              clear hK KK
              try simp only [Act.put, List.setIfInBounds_toArray, List.set_cons_zero, List.set_cons_succ]
              refine wpAny_ready (rs := [8]) (by kernel_rfl) (by simp) (AllReady.cons rfl (fun KK hK => ?_) AllReady.nil)
              go_simp
              refine hK _ _ ?_
              clear hK KK
              try simp only [Act.put, List.setIfInBounds_toArray, List.set_cons_zero, List.set_cons_succ]
              refine wpAny_ready (rs := [9]) (by kernel_rfl) (by simp) (AllReady.cons rfl (fun KK hK => ?_) AllReady.nil)
              go_simp
              refine hK _ _ ?_
              clear hK KK
              try simp only [Act.put, List.setIfInBounds_toArray, List.set_cons_zero, List.set_cons_succ]
              refine wpAny_done (by kernel_rfl) ?_ _
              obtain ⟨X, hX⟩ : ∃ X, X = W7.setCell ⟨fb, 2, none⟩ (.slice b7 (dl + 1) c7) := ⟨_, rfl⟩
              have HX := Lib.hid hX
              clear hX fp cp x0 x1 x2
              go_wp2_with fail
              rw [← HX.out]
              go_roundg m
              case rel =>
                obtain ⟨⟨G2, D2, h1⟩, h2⟩ := F7.out X HX.out
                exact ⟨_, _, _, _, G2, D2, h1, h2, HK2.out⟩
              case measure => omega
            · go_simp
              refine hK _ _ ?_
              clear hK KK
              try simp only [Act.put, List.setIfInBounds_toArray, List.set_cons_zero, List.set_cons_succ]
              refine wpAny_ready (rs := [1, 5]) (by kernel_rfl) (by simp) (AllReady.cons rfl (fun KK hK => ?_) (AllReady.cons rfl (fun KK hK => ?_) AllReady.nil))
              · go_simp
                refine hK _ _ ?_
                clear hK KK
                try simp only [Act.put, List.setIfInBounds_toArray, List.set_cons_zero, List.set_cons_succ]
                refine wpAny_ready (rs := [5]) (by kernel_rfl) (by simp) (AllReady.cons rfl (fun KK hK => ?_) AllReady.nil)
                go_simp
                go_at_call 92
                refine (CB.out W4 KW4).mono ?_
                rintro e1 W5 ⟨pv, bv, G', E, rfl, hGG, hpi5, hdc5, hE5, hlt5, hln5, hke5⟩
                obtain ⟨po, pc, rfl⟩ := row_open hdc5.prow
                obtain ⟨bo, bc, rfl⟩ : ∃ a c, bv = .slice a _ c := by obtain ⟨_, _, h2, _⟩ := hdc5.brow; exact row_open h2
                have a5 := CK.out W4 W5 KW4 hke5
                rw [HSN.out]
                obtain ⟨pl, hpl⟩ : ∃ x, x = d.ps.length := ⟨_, rfl⟩
                obtain ⟨bl, hbl⟩ : ∃ x, x = d.bd.length := ⟨_, rfl⟩
                rw [← hpl, ← hbl]
                rw [← hpl, ← hbl] at hdc5
                clear hpl hbl
                have hS := Lib.hid hK
                clear hK
                go_wp2_with fail
                have hK := hS.out
                clear hS
                refine hK _ _ ?_
                clear hK KK
                try simp only [Act.put, List.setIfInBounds_toArray, List.set_cons_zero, List.set_cons_succ]
                refine wpAny_ready (rs := [6]) (by kernel_rfl) (by simp) (AllReady.cons rfl (fun KK hK => ?_) AllReady.nil)
                refine step_bldD rfl 36 35 rfl rfl rfl ?_
                intro W6 hW6
                obtain ⟨a6, rr6, i0, i1, i2, i3⟩ := AL.out W4 W5 W6 po pl pc bo bl bc KW4 hke5 hW6
                have HW6 := Lib.hid hW6
                clear hW6
                refine hK _ _ ?_
                clear hK KK
                try simp only [Act.put, List.setIfInBounds_toArray, List.set_cons_zero, List.set_cons_succ]
                refine wpAny_ready (rs := [7]) (by kernel_rfl) (by simp) (AllReady.cons rfl (fun KK hK => ?_) AllReady.nil)
                refine step_row rfl (.tmp 31) (.tmp 36) 27 rfl 0 38 _ 4 72 Tryz.underlying27 infoD rfl (by omega) _ dl (dcells ds xs) rfl rr6 ⟨W5.heap.size, 0, none⟩ 1 1 (dcellS SN (d.k : Int) (.slice po pl pc) (.slice bo bl bc)) rfl rfl ?_ (by intro u hu; simp [dcellS] at hu; rcases hu with rfl | rfl | rfl | rfl <;> rfl) (by unfold maxLen; omega) (by omega) (Nat.zero_le _) ?_
                · (intro j u hu; rw [Addr.add_lit, Nat.zero_add]; match j, hu with | 0, hu => (injection hu with hu; rw [← hu]; exact i0) | 1, hu => (injection hu with hu; rw [← hu]; exact i1) | 2, hu => (injection hu with hu; rw [← hu]; exact i2) | 3, hu => (injection hu with hu; rw [← hu]; exact i3))
                intro v7 W7 r7 g7 h7
                obtain ⟨b7, c7, rfl⟩ := row_open r7
                obtain ⟨fp, cp⟩ := GR.out W4 W5 W6 W7 KW4 hke5 (by rw [HW6.out]; exact kp_alloc _ _) g7
                have F7 := Lib.hid (FIN.out W4 W5 W6 W7 _ G' E po pl pc bo bl bc KW4 hGG hpi5 hdc5 hE5 hlt5 hke5 HW6.out r7 g7 h7)
                clear r7 g7 h7 HW6 rr6 i0 i1 i2 i3 a6 hGG hpi5 hdc5 hE5 hlt5 hln5 hke5
                refine hK _ _ ?_
                clear hK KK
                try simp only [Act.put, List.setIfInBounds_toArray, List.set_cons_zero, List.set_cons_succ]
                refine wpAny_ready (rs := [8]) (by kernel_rfl) (by simp) (AllReady.cons rfl (fun KK hK => ?_) AllReady.nil)
                go_simp
                refine hK _ _ ?_
                clear hK KK
                try simp only [Act.put, List.setIfInBounds_toArray, List.set_cons_zero, List.set_cons_succ]
                refine wpAny_ready (rs := [9]) (by kernel_rfl) (by simp) (AllReady.cons rfl (fun KK hK => ?_) AllReady.nil)
                go_simp
                refine hK _ _ ?_
                clear hK KK
                try simp only [Act.put, List.setIfInBounds_toArray, List.set_cons_zero, List.set_cons_succ]
                refine wpAny_done (by kernel_rfl) ?_ _
                obtain ⟨X, hX⟩ : ∃ X, X = W7.setCell ⟨fb, 2, none⟩ (.slice b7 (dl + 1) c7) := ⟨_, rfl⟩
                have HX := Lib.hid hX
                clear hX fp cp x0 x1 x2
                go_wp2_with fail
                rw [← HX.out]
                go_roundg m
                case rel =>
                  obtain ⟨⟨G2, D2, h1⟩, h2⟩ := F7.out X HX.out
                  exact ⟨_, _, _, _, G2, D2, h1, h2, HK2.out⟩
                case measure => omega
              · go_simp
                go_at_call 92
                refine (CB.out W4 KW4).mono ?_
                rintro e1 W5 ⟨pv, bv, G', E, rfl, hGG, hpi5, hdc5, hE5, hlt5, hln5, hke5⟩
                obtain ⟨po, pc, rfl⟩ := row_open hdc5.prow
                obtain ⟨bo, bc, rfl⟩ : ∃ a c, bv = .slice a _ c := by obtain ⟨_, _, h2, _⟩ := hdc5.brow; exact row_open h2
                have a5 := CK.out W4 W5 KW4 hke5
                rw [HSN.out]
                obtain ⟨pl, hpl⟩ : ∃ x, x = d.ps.length := ⟨_, rfl⟩
                obtain ⟨bl, hbl⟩ : ∃ x, x = d.bd.length := ⟨_, rfl⟩
                rw [← hpl, ← hbl]
                rw [← hpl, ← hbl] at hdc5
                clear hpl hbl
                have hS := Lib.hid hK
                clear hK
                go_wp2_with fail
                have hK := hS.out
                clear hS
                refine hK _ _ ?_
                clear hK KK
                try simp only [Act.put, List.setIfInBounds_toArray, List.set_cons_zero, List.set_cons_succ]
                refine wpAny_ready (rs := [1, 6]) (by kernel_rfl) (by simp) (AllReady.cons rfl (fun KK hK => ?_) (AllReady.cons rfl (fun KK hK => ?_) AllReady.nil))
                · go_simp
                  refine hK _ _ ?_
                  clear hK KK
                  try simp only [Act.put, List.setIfInBounds_toArray, List.set_cons_zero, List.set_cons_succ]
                  refine wpAny_ready (rs := [6]) (by kernel_rfl) (by simp) (AllReady.cons rfl (fun KK hK => ?_) AllReady.nil)
                  refine step_bldD rfl 36 35 rfl rfl rfl ?_
                  intro W6 hW6
                  obtain ⟨a6, rr6, i0, i1, i2, i3⟩ := AL.out W4 W5 W6 po pl pc bo bl bc KW4 hke5 hW6
                  have HW6 := Lib.hid hW6
                  clear hW6
                  refine hK _ _ ?_
                  clear hK KK
                  try simp only [Act.put, List.setIfInBounds_toArray, List.set_cons_zero, List.set_cons_succ]
                  refine wpAny_ready (rs := [7]) (by kernel_rfl) (by simp) (AllReady.cons rfl (fun KK hK => ?_) AllReady.nil)
                  refine step_row rfl (.tmp 31) (.tmp 36) 27 rfl 0 38 _ 4 72 Tryz.underlying27 infoD rfl (by omega) _ dl (dcells ds xs) rfl rr6 ⟨W5.heap.size, 0, none⟩ 1 1 (dcellS SN (d.k : Int) (.slice po pl pc) (.slice bo bl bc)) rfl rfl ?_ (by intro u hu; simp [dcellS] at hu; rcases hu with rfl | rfl | rfl | rfl <;> rfl) (by unfold maxLen; omega) (by omega) (Nat.zero_le _) ?_
                  · (intro j u hu; rw [Addr.add_lit, Nat.zero_add]; match j, hu with | 0, hu => (injection hu with hu; rw [← hu]; exact i0) | 1, hu => (injection hu with hu; rw [← hu]; exact i1) | 2, hu => (injection hu with hu; rw [← hu]; exact i2) | 3, hu => (injection hu with hu; rw [← hu]; exact i3))
                  intro v7 W7 r7 g7 h7
                  obtain ⟨b7, c7, rfl⟩ := row_open r7
                  obtain ⟨fp, cp⟩ := GR.out W4 W5 W6 W7 KW4 hke5 (by rw [HW6.out]; exact kp_alloc _ _) g7
                  have F7 := Lib.hid (FIN.out W4 W5 W6 W7 _ G' E po pl pc bo bl bc KW4 hGG hpi5 hdc5 hE5 hlt5 hke5 HW6.out r7 g7 h7)
                  clear r7 g7 h7 HW6 rr6 i0 i1 i2 i3 a6 hGG hpi5 hdc5 hE5 hlt5 hln5 hke5
                  refine hK _ _ ?_
                  clear hK KK
                  try simp only [Act.put, List.setIfInBounds_toArray, List.set_cons_zero, List.set_cons_succ]
                  refine wpAny_ready (rs := [8]) (by kernel_rfl) (by simp) (AllReady.cons rfl (fun KK hK => ?_) AllReady.nil)
                  go_simp
                  refine hK _ _ ?_
                  clear hK KK
                  try simp only [Act.put, List.setIfInBounds_toArray, List.set_cons_zero, List.set_cons_succ]
                  refine wpAny_ready (rs := [9]) (by kernel_rfl) (by simp) (AllReady.cons rfl (fun KK hK => ?_) AllReady.nil)
                  go_simp
                  refine hK _ _ ?_
                  clear hK KK
                  try simp only [Act.put, List.setIfInBounds_toArray, List.set_cons_zero, List.set_cons_succ]
                  refine wpAny_done (by kernel_rfl) ?_ _
                  obtain ⟨X, hX⟩ : ∃ X, X = W7.setCell ⟨fb, 2, none⟩ (.slice b7 (dl + 1) c7) := ⟨_, rfl⟩
                  have HX := Lib.hid hX
                  clear hX fp cp x0 x1 x2
                  go_wp2_with fail
                  rw [← HX.out]
                  go_roundg m
                  case rel =>
                    obtain ⟨⟨G2, D2, h1⟩, h2⟩ := F7.out X HX.out
                    exact ⟨_, _, _, _, G2, D2, h1, h2, HK2.out⟩
                  case measure => omega
                · refine step_bldD rfl 36 35 rfl rfl rfl ?_
                  intro W6 hW6
                  obtain ⟨a6, rr6, i0, i1, i2, i3⟩ := AL.out W4 W5 W6 po pl pc bo bl bc KW4 hke5 hW6
                  have HW6 := Lib.hid hW6
                  clear hW6
                  refine hK _ _ ?_
                  clear hK KK
                  try simp only [Act.put, List.setIfInBounds_toArray, List.set_cons_zero, List.set_cons_succ]
                  refine wpAny_ready (rs := [1]) (by kernel_rfl) (by simp) (AllReady.cons rfl (fun KK hK => ?_) AllReady.nil)
                  go_simp
                  refine hK _ _ ?_
                  clear hK KK
                  try simp only [Act.put, List.setIfInBounds_toArray, List.set_cons_zero, List.set_cons_succ]
                  refine wpAny_ready (rs := [7]) (by kernel_rfl) (by simp) (AllReady.cons rfl (fun KK hK => ?_) AllReady.nil)
                  refine step_row rfl (.tmp 31) (.tmp 36) 27 rfl 0 38 _ 4 72 Tryz.underlying27 infoD rfl (by omega) _ dl (dcells ds xs) rfl rr6 ⟨W5.heap.size, 0, none⟩ 1 1 (dcellS SN (d.k : Int) (.slice po pl pc) (.slice bo bl bc)) rfl rfl ?_ (by intro u hu; simp [dcellS] at hu; rcases hu with rfl | rfl | rfl | rfl <;> rfl) (by unfold maxLen; omega) (by omega) (Nat.zero_le _) ?_
                  · (intro j u hu; rw [Addr.add_lit, Nat.zero_add]; match j, hu with | 0, hu => (injection hu with hu; rw [← hu]; exact i0) | 1, hu => (injection hu with hu; rw [← hu]; exact i1) | 2, hu => (injection hu with hu; rw [← hu]; exact i2) | 3, hu => (injection hu with hu; rw [← hu]; exact i3))
                  intro v7 W7 r7 g7 h7
                  obtain ⟨b7, c7, rfl⟩ := row_open r7
                  obtain ⟨fp, cp⟩ := GR.out W4 W5 W6 W7 KW4 hke5 (by rw [HW6.out]; exact kp_alloc _ _) g7
                  have F7 := Lib.hid (FIN.out W4 W5 W6 W7 _ G' E po pl pc bo bl bc KW4 hGG hpi5 hdc5 hE5 hlt5 hke5 HW6.out r7 g7 h7)
                  clear r7 g7 h7 HW6 rr6 i0 i1 i2 i3 a6 hGG hpi5 hdc5 hE5 hlt5 hln5 hke5
                  refine hK _ _ ?_
                  clear hK KK
                  try simp only [Act.put, List.setIfInBounds_toArray, List.set_cons_zero, List.set_cons_succ]
                  refine wpAny_ready (rs := [8]) (by kernel_rfl) (by simp) (AllReady.cons rfl (fun KK hK => ?_) AllReady.nil)
                  go_simp
                  refine hK _ _ ?_
                  clear hK KK
                  try simp only [Act.put, List.setIfInBounds_toArray, List.set_cons_zero, List.set_cons_succ]
                  refine wpAny_ready (rs := [9]) (by kernel_rfl) (by simp) (AllReady.cons rfl (fun KK hK => ?_) AllReady.nil)
                  go_simp
                  refine hK _ _ ?_
                  clear hK KK
                  try simp only [Act.put, List.setIfInBounds_toArray, List.set_cons_zero, List.set_cons_succ]
                  refine wpAny_done (by kernel_rfl) ?_ _
                  obtain ⟨X, hX⟩ : ∃ X, X = W7.setCell ⟨fb, 2, none⟩ (.slice b7 (dl + 1) c7) := ⟨_, rfl⟩
                  have HX := Lib.hid hX
                  clear hX fp cp x0 x1 x2
                  go_wp2_with fail
                  rw [← HX.out]
                  go_roundg m
                  case rel =>
                    obtain ⟨⟨G2, D2, h1⟩, h2⟩ := F7.out X HX.out
                    exact ⟨_, _, _, _, G2, D2, h1, h2, HK2.out⟩
                  case measure => omega
end By
end Go.Proofs.YtmflgfojicaecaaGreatDoor
