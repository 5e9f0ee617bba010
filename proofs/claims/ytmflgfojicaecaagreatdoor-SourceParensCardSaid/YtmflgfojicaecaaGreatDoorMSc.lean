/- The parser's flip and read. Condition: the parser lies in memory as it is named; of read: what expressions answer. -/
import Derived.Test.YtmflgfojicaecaaGreatDoorMSb
namespace Go.Proofs.YtmflgfojicaecaaGreatDoor
namespace By
open Go.RowKit WireN LexN SrcN
set_option linter.unusedVariables false
set_option linter.unusedSimpArgs false

theorem PI.outer {F : Nat → Prop} {g p : Nat} {W W' : World} {s : St} (h : PI F g p W s) (hz : W.heap.size ≤ W'.heap.size) (hb : ∀ b, b < W.heap.size → ¬ F b → W'.heap[b]? = W.heap[b]?) (hg : ∀ b, Bs g b → W'.heap[b]? = W.heap[b]?) : PI F g p W' s := by
  obtain ⟨o, rc, pv, bv, vs, h⟩ := h
  exact ⟨_, _, _, _, _, h.outer hz hb hg⟩
set_option maxRecDepth 100000 in
set_option maxHeartbeats 2000000 in
theorem flip_st {F : Nat → Prop} {g p : Nat} {W : World} {s : St} (h : PI F g p W s) {r : Out Nd} (hr : SrcN.flip s = some r) :
    Calls Tryz.prog 174 #[.pointer (some ⟨p, 0, none⟩)] W (AnsX F g p r W) := by
  obtain ⟨Q, hQ⟩ : ∃ Q, Q = AnsX F g p r W := ⟨_, rfl⟩
  rw [← hQ]
  have HQ := Lib.hid hQ
  have H := Lib.hid h
  obtain ⟨W0, hW0⟩ : ∃ W0, W0 = W.alloc (Obj.cells #[.int .i64 0, .int .i64 0, .int .i64 0, .string ⟨#[]⟩, .slice none 0 0] 57) := ⟨_, rfl⟩
  have hs0 : W0.heap.size = W.heap.size + 1 := by rw [hW0]; simp
  have K0 : Hid (Kp W W0) := by show Kp W W0; rw [hW0]; exact kp_alloc W _
  have B0 : Hid (Blk W0 W.heap.size 57 #[.int .i64 0, .int .i64 0, .int .i64 0, .string ⟨#[]⟩, .slice none 0 0]) := by show Blk _ _ _ _; rw [hW0]; exact Blk.new _ _ _
  have HW0 := Lib.hid hW0; have Z0 := Lib.hid hs0
  have MB : Hid (Mine F W W0 W.heap.size) := by show Mine _ _ _ _; exact .inr ⟨Nat.le_refl _, by omega⟩
  have BAD : Hid (∀ a e W', Keep (Mine F W W0) W0 W' → r = .bad a e → Q (pan a e) W') := by
    intro a e W' hk he
    rw [HQ.out, he]
    exact ⟨rfl, (Kp.keep K0.out H.out.dom).trans (hk.mono (fun k hk => .inl hk))⟩
  clear hQ h hW0 hs0
  unfold SrcN.flip at hr
  rcases bnd_some hr with ⟨a, e, hm, he⟩ | ⟨_, s1, hm, hk1⟩
  · have C := Lib.hid (expect_st (H.out.fresh K0.out) (X := ⟨#[40]⟩) (w := [40]) rfl (lt_mem (by decide)) (by decide) hm)
    have HE := Lib.hid he
    clear hr hm he
    go_enter Tryz.func174, Tryz.ntmps174
    go_wp2_with fail
    rw [← HW0.out]
    refine C.out.mono ?_
    rintro e1 W1 ⟨rfl, hk⟩
    exact ⟨rfl, BAD.out _ _ _ hk HE.out⟩
  · have C := Lib.hid (expect_st (H.out.fresh K0.out) (X := ⟨#[40]⟩) (w := [40]) rfl (lt_mem (by decide)) (by decide) hm)
    have HK1 := Lib.hid hk1
    clear hr hm hk1
    go_enter Tryz.func174, Tryz.ntmps174
    go_wp2_with fail
    rw [← HW0.out]
    refine C.out.mono ?_
    rintro e1 W1 ⟨⟨v, rfl, rfl⟩, hpi, hke⟩
    have PI1 := Lib.hid hpi; have KE1 := Lib.hid hke
    clear hpi hke C
    rcases bnd_some HK1.out with ⟨a, e, hm, he⟩ | ⟨⟨K, T, NM, AT⟩, s2, hm, hk2⟩
    · have C := Lib.hid (take_st PI1.out (by decide : (2 : Nat) ≠ 5) hm)
      have HE := Lib.hid he
      clear hm he
      go_wp2_with fail
      refine C.out.mono ?_
      rintro e1 W2 ⟨rfl, hk⟩
      exact ⟨rfl, BAD.out _ _ _ (KE1.out.trans hk) HE.out⟩
    · have C := Lib.hid (take_st PI1.out (by decide : (2 : Nat) ≠ 5) hm)
      have HK2 := Lib.hid hk2
      clear hm hk2
      go_wp2_with fail
      refine C.out.mono ?_
      rintro e1 W2 ⟨⟨v, rfl, rfl, hT⟩, hpi, hke⟩
      have PI2 := Lib.hid hpi; have KE2 := Lib.hid (KE1.out.trans hke)
      clear hpi hke C hT
      obtain ⟨W3, hW3⟩ : ∃ W3, W3 = W2.alloc (Obj.cells #[.int .i64 (K : Nat), .string (st T), .int .i64 (NM : Nat), .int .i64 (AT : Nat)] 111) := ⟨_, rfl⟩
      have K3 : Hid (Kp W2 W3) := by show Kp W2 W3; rw [hW3]; exact kp_alloc W2 _
      have B3 : Hid (Blk W3 W2.heap.size 111 #[.int .i64 (K : Nat), .string (st T), .int .i64 (NM : Nat), .int .i64 (AT : Nat)]) := by show Blk _ _ _ _; rw [hW3]; exact Blk.new _ _ _
      have MB3 : Hid (Mine (Mine F W W0) W2 W3 W2.heap.size) := by show Mine _ _ _ _; exact .inr ⟨Nat.le_refl _, by rw [hW3]; simp⟩
      have q0 := B3.out.cell 0 rfl; have q1 := B3.out.cell 1 rfl; have q2 := B3.out.cell 2 rfl; have q3 := B3.out.cell 3 rfl
      have HW3 := Lib.hid hW3
      rw [hW3] at q0 q1 q2 q3
      clear hW3
      by_cases hn : 64 ≤ NM
      · have FIN : Hid (∀ W4, Kp W3 W4 → Q (pan AT 9) W4) := by
          intro W4 hk4
          have hk := HK2.out
          simp only [if_pos hn] at hk
          unfold SrcN.fail at hk
          injection hk with hk
          rw [HQ.out, ← hk]
          exact ⟨rfl, (PI.back H.out K0.out PI2.out KE2.out (W2 := W4) (Nat.le_trans K3.out.size hk4.size) ⟨hk4.os.trans K3.out.os, hk4.tape.trans K3.out.tape, hk4.output.trans K3.out.output⟩ (fun b hb _ => (hk4.block b (Nat.lt_of_lt_of_le hb K3.out.size)).trans (K3.out.block b hb))).2⟩
        have hni : (64 : Int) ≤ (NM : Int) := by omega
        go_wp2_with fail
        rw [← HW3.out]
        refine (fail_any K NM AT (st T) 9 W3).mono ?_
        rintro e W4 ⟨rfl, hk⟩
        exact ⟨rfl, FIN.out W4 hk⟩
      · have hni : (NM : Int) < 64 := by omega
        have HK2' : Hid (bnd (expt [41]) (fun _ => ret ⟨10, (NM : Nat), 0, [], []⟩) s2 = some r) := by
          have := HK2.out
          rw [if_neg hn] at this
          exact this
        clear HK2
        rcases bnd_some HK2'.out with ⟨a, e, hm, he⟩ | ⟨_, s3, hm, hk3⟩
        · have C := Lib.hid (expect_st (PI2.out.fresh K3.out) (X := ⟨#[41]⟩) (w := [41]) rfl (lt_mem (by decide)) (by decide) hm)
          have HE := Lib.hid he
          clear hm he
          go_wp2_with fail
          rw [← HW3.out]
          refine C.out.mono ?_
          rintro e1 W4 ⟨rfl, hk⟩
          exact ⟨rfl, BAD.out _ _ _ ((KE2.out.trans (Kp.keep K3.out PI2.out.dom)).trans (hk.mono (fun k hk => .inl hk))) HE.out⟩
        · have C := Lib.hid (expect_st (PI2.out.fresh K3.out) (X := ⟨#[41]⟩) (w := [41]) rfl (lt_mem (by decide)) (by decide) hm)
          have HK3 := Lib.hid hk3
          clear hm hk3
          go_wp2_with fail
          rw [← HW3.out]
          clear q0 q1 q2 q3
          refine C.out.mono ?_
          rintro e1 W4 ⟨⟨v, rfl, rfl⟩, hpi, hke⟩
          have b4 := B3.out.kept hke MB3.out
          have b0 := (B0.out.kept KE2.out MB.out).keep K3.out |>.kept hke (.inl MB.out)
          have hbk := PI.back PI2.out K3.out hpi hke (W2 := W4) (Nat.le_refl _) ⟨rfl, rfl, rfl⟩ (fun _ _ _ => rfl)
          have FIN : Hid (∀ Y, Only W.heap.size W4 Y → Q (.returned (.agg #[.int .i64 10, .int .i64 (NM : Nat), .int .i64 0, .string ⟨#[]⟩, .slice none 0 0])) Y) := by
            intro Y ho
            have hk := HK3.out
            unfold ret at hk
            injection hk with hk
            have hb2 := PI.back H.out K0.out hbk.1 (KE2.out.trans hbk.2) (W2 := Y) (Nat.le_of_eq ho.size) ⟨ho.os, ho.tape, ho.output⟩ (fun b hb hn => ho.block b (fun e => hn ⟨by omega, by have := Z0.out; omega⟩))
            rw [HQ.out, ← hk]
            exact ⟨_, F, rfl, fun k hk => hk, hb2.1, Ints.nil _ _, hb2.2⟩
          have q0 := b4.cell 0 rfl; have q1 := b4.cell 1 rfl; have q2 := b4.cell 2 rfl; have q3 := b4.cell 3 rfl
          have z0 := b0.cell 0 rfl; have z1 := b0.cell 1 rfl; have z2 := b0.cell 2 rfl; have z3 := b0.cell 3 rfl; have z4 := b0.cell 4 rfl
          have g0 := b0.free 0; have g1 := b0.free 1; have g2 := b0.free 2; have g3 := b0.free 3; have g4 := b0.free 4
          have BX := Lib.hid b0
          clear hpi hke b4 b0 hbk C
          go_wp2_with fail
          clear q0 q1 q2 q3 z0 z1 z2 z3 z4 g0 g1 g2 g3 g4
          obtain ⟨Y, hY⟩ : ∃ Y, Y = ((((W4.setCell ⟨W.heap.size, 0, none⟩ (.int .i64 10)).setCell ⟨W.heap.size, 1, none⟩ (.int .i64 (NM : Nat))).setCell ⟨W.heap.size, 2, none⟩ (.int .i64 0)).setCell ⟨W.heap.size, 3, none⟩ (.string ⟨#[]⟩)).setCell ⟨W.heap.size, 4, none⟩ (.slice none 0 0) := ⟨_, rfl⟩
          have oy : Only W.heap.size W4 Y := by rw [hY]; exact (((((Only.refl _ W4).set 0 _).set 1 _).set 2 _).set 3 _).set 4 _
          have by5 : Blk Y W.heap.size 57 #[.int .i64 10, .int .i64 (NM : Nat), .int .i64 0, .string ⟨#[]⟩, .slice none 0 0] := by rw [hY]; exact ((((BX.out.set 0 _).set 1 _).set 2 _).set 3 _).set 4 _
          rw [← hY]
          have c0 := by5.cell 0 rfl; have c1 := by5.cell 1 rfl; have c2 := by5.cell 2 rfl; have c3 := by5.cell 3 rfl; have c4 := by5.cell 4 rfl
          exact bodyPost_ret (by simp [results, Tryz.results174, go_sem, c0, c1, c2, c3, c4]) rfl (FIN.out Y oy)
set_option maxRecDepth 100000 in
set_option maxHeartbeats 4000000 in
theorem read_st {F : Nat → Prop} {g p d : Nat} {W : World} {s : St} (h : PI F g p W s) (hd : d ≤ 40) {rec' : Nat → P Nat} (sub : Part 132 (rec' (d + 1)) [.int .i64 ((d + 1 : Nat) : Int)]) {r : Out Nd} (hr : SrcN.read rec' d s = some r) :
    Calls Tryz.prog 172 #[.pointer (some ⟨p, 0, none⟩), .int .i64 (d : Nat)] W (AnsX F g p r W) := by
  have SUB : Hid (∀ (F : Nat → Prop) (g p : Nat) (W : World) (s : St) (r : Out Nat), PI F g p W s → rec' (d + 1) s = some r → Calls Tryz.prog 132 #[.pointer (some ⟨p, 0, none⟩), .int .i64 ((d + 1 : Nat) : Int)] W (Ans' F g p vN r W)) := sub
  obtain ⟨rc', hrc'⟩ : ∃ rc', rc' = rec' (d + 1) := ⟨_, rfl⟩
  unfold SrcN.read at hr
  rw [← hrc'] at SUB hr
  clear sub hrc'
  obtain ⟨Q, hQ⟩ : ∃ Q, Q = AnsX F g p r W := ⟨_, rfl⟩
  rw [← hQ]
  have HQ := Lib.hid hQ
  have H := Lib.hid h
  obtain ⟨W0, hW0⟩ : ∃ W0, W0 = W.alloc (Obj.cells #[.int .i64 0, .int .i64 0, .int .i64 0, .string ⟨#[]⟩, .slice none 0 0] 57) := ⟨_, rfl⟩
  have hs0 : W0.heap.size = W.heap.size + 1 := by rw [hW0]; simp
  have K0 : Hid (Kp W W0) := by show Kp W W0; rw [hW0]; exact kp_alloc W _
  have B0 : Hid (Blk W0 W.heap.size 57 #[.int .i64 0, .int .i64 0, .int .i64 0, .string ⟨#[]⟩, .slice none 0 0]) := by show Blk _ _ _ _; rw [hW0]; exact Blk.new _ _ _
  have HW0 := Lib.hid hW0; have Z0 := Lib.hid hs0
  have MB : Hid (Mine F W W0 W.heap.size) := by show Mine _ _ _ _; exact .inr ⟨Nat.le_refl _, by omega⟩
  have BAD : Hid (∀ a e W', Keep (Mine F W W0) W0 W' → r = .bad a e → Q (pan a e) W') := by
    intro a e W' hk he
    rw [HQ.out, he]
    exact ⟨rfl, (Kp.keep K0.out H.out.dom).trans (hk.mono (fun k hk => .inl hk))⟩
  clear hQ h hW0 hs0
  rcases bnd_some hr with ⟨a, e, hm, he⟩ | ⟨_, s1, hm, hk1⟩
  · have C := Lib.hid (expect_st (H.out.fresh K0.out) (X := ⟨#[40]⟩) (w := [40]) rfl (lt_mem (by decide)) (by decide) hm)
    have HE := Lib.hid he
    clear hr hm he
    go_enter Tryz.func172, Tryz.ntmps172
    go_wp2_with fail
    rw [← HW0.out]
    refine C.out.mono ?_
    rintro e1 W1 ⟨rfl, hk⟩
    exact ⟨rfl, BAD.out _ _ _ hk HE.out⟩
  · have C := Lib.hid (expect_st (H.out.fresh K0.out) (X := ⟨#[40]⟩) (w := [40]) rfl (lt_mem (by decide)) (by decide) hm)
    have HK1 := Lib.hid hk1
    clear hr hm hk1
    go_enter Tryz.func172, Tryz.ntmps172
    go_wp2_with fail
    rw [← HW0.out]
    refine C.out.mono ?_
    rintro e1 W1 ⟨⟨v, rfl, rfl⟩, hpi, hke⟩
    have PI1 := Lib.hid hpi; have KE1 := Lib.hid hke
    clear hpi hke C
    rcases bnd_some HK1.out with ⟨a, e, hm, he⟩ | ⟨⟨K, T, NM, AT⟩, s2, hm, hk2⟩
    · have C := Lib.hid (text_st PI1.out fitsP hm)
      have HE := Lib.hid he
      clear hm he
      go_wp2_with fail
      refine C.out.mono ?_
      rintro e1 W2 ⟨rfl, hk⟩
      exact ⟨rfl, BAD.out _ _ _ (KE1.out.trans hk) HE.out⟩
    · have C := Lib.hid (text_st PI1.out fitsP hm)
      have HK2 := Lib.hid hk2
      clear hm hk2
      go_wp2_with fail
      refine C.out.mono ?_
      rintro e1 W2 ⟨⟨v, rfl, rfl, hT⟩, hpi, hke⟩
      have PI2 := Lib.hid hpi; have KE2 := Lib.hid (KE1.out.trans hke)
      clear hpi hke C hT
      obtain ⟨W3, hW3⟩ : ∃ W3, W3 = W2.alloc (Obj.cells #[.int .i64 6, .int .i64 0, .int .i64 0, .string (st T), .slice none 0 0] 57) := ⟨_, rfl⟩
      have K3 : Hid (Kp W2 W3) := by show Kp W2 W3; rw [hW3]; exact kp_alloc W2 _
      have B3 : Hid (Blk W3 W2.heap.size 57 #[.int .i64 6, .int .i64 0, .int .i64 0, .string (st T), .slice none 0 0]) := by show Blk _ _ _ _; rw [hW3]; exact Blk.new _ _ _
      have MB3 : Hid (Mine (Mine F W W0) W2 W3 W2.heap.size) := by show Mine _ _ _ _; exact .inr ⟨Nat.le_refl _, by rw [hW3]; simp⟩
      have KE3 := Lib.hid (KE2.out.trans (Kp.keep K3.out PI2.out.dom))
      have HW3 := Lib.hid hW3
      have hf1 := fun w => fld1 (K : Nat) (NM : Nat) (AT : Nat) (st T) w
      clear hW3
      rcases bnd_some HK2.out with ⟨a, e, hm, he⟩ | ⟨_, s3, hm, hk3⟩
      · have C := Lib.hid (expect_st (PI2.out.fresh K3.out) (X := ⟨#[44]⟩) (w := [44]) rfl (lt_mem (by decide)) (by decide) hm)
        have HE := Lib.hid he
        clear hm he
        go_wp2_with fail
        rw [← HW3.out]
        refine C.out.mono ?_
        rintro e1 W4 ⟨rfl, hk⟩
        exact ⟨rfl, BAD.out _ _ _ (KE3.out.trans (hk.mono (fun k hk => .inl hk))) HE.out⟩
      · have C := Lib.hid (expect_st (PI2.out.fresh K3.out) (X := ⟨#[44]⟩) (w := [44]) rfl (lt_mem (by decide)) (by decide) hm)
        have HK3 := Lib.hid hk3
        clear hm hk3
        go_wp2_with fail
        rw [← HW3.out]
        refine C.out.mono ?_
        rintro e1 W4 ⟨⟨v, rfl, rfl⟩, hpi, hke⟩
        have PI4 := Lib.hid hpi; have KE4 := Lib.hid hke
        clear hpi hke C
        rcases bnd_some HK3.out with ⟨a, e, hm, he⟩ | ⟨i, s5, hm, hk5⟩
        · have C := Lib.hid (SUB.out _ _ _ _ _ _ PI4.out hm)
          have HE := Lib.hid he
          clear hm he
          go_wp2_with fail
          refine C.out.mono ?_
          rintro e1 W5 ⟨rfl, hk⟩
          exact ⟨rfl, BAD.out _ _ _ (KE3.out.trans ((KE4.out.trans hk).mono (fun k hk => .inl hk))) HE.out⟩
        · have C := Lib.hid (SUB.out _ _ _ _ _ _ PI4.out hm)
          have HK5 := Lib.hid hk5
          clear hm hk5
          go_wp2_with fail
          refine C.out.mono ?_
          rintro e1 W5 ⟨⟨v, rfl, rfl⟩, hpi, hke⟩
          have PI5 := Lib.hid hpi; have KE5 := Lib.hid (KE4.out.trans hke)
          clear hpi hke C
          obtain ⟨W6, hW6⟩ : ∃ W6, W6 = W5.alloc (Obj.cells #[.int .i64 (i : Nat)] 3) := ⟨_, rfl⟩
          have K6 : Hid (Kp W5 W6) := by show Kp W5 W6; rw [hW6]; exact kp_alloc W5 _
          have I6 : Hid (Ints (fun b => Mine (Mine (Mine F W W0) W2 W3) W5 W6 b ∧ ¬ Mine (Mine F W W0) W2 W3 b) W6 (.slice (some ⟨W5.heap.size, 0, none⟩) 1 1) [i]) := by
            show Ints _ _ _ _
            exact Ints.made (xs := [i]) hW6 ⟨.inr ⟨Nat.le_refl _, by rw [hW6]; simp⟩, fun hx => absurd (PI5.out.dom _ hx) (Nat.lt_irrefl _)⟩
          have b3 := (B3.out.kept KE5.out MB3.out).keep K6.out
          have w3 : W2.heap.size < W5.heap.size := (B3.out.kept KE5.out MB3.out).lt
          obtain ⟨W7, hW7⟩ : ∃ W7, W7 = W6.setCell ⟨W2.heap.size, 4, none⟩ (.slice (some ⟨W5.heap.size, 0, none⟩) 1 1) := ⟨_, rfl⟩
          have b7 : Blk W7 W2.heap.size 57 #[.int .i64 6, .int .i64 0, .int .i64 0, .string (st T), .slice (some ⟨W5.heap.size, 0, none⟩) 1 1] := by rw [hW7]; exact b3.set 4 _
          have o7 : Only W2.heap.size W6 W7 := by rw [hW7]; exact (Only.refl _ W6).set 4 _
          have p7 : PI (Mine (Mine (Mine F W W0) W2 W3) W5 W6) g p W7 s5 := (PI5.out.fresh K6.out).outer (Nat.le_of_eq o7.size) (fun b _ hn => o7.block b (fun e => hn (e ▸ .inl MB3.out))) (fun b hb => o7.block b (fun e => by
            have hbF := H.out.dom b (H.out.tok b hb)
            have := K0.out.size; have := KE2.out.size
            omega))
          have BZ := Lib.hid b7; have OZ := Lib.hid o7; have P7 := Lib.hid p7
          have x4 := b3.free 4; have y4 := b3.cell 4 rfl
          rw [hW6] at x4 y4
          have HW6 := Lib.hid hW6; have HW7 := Lib.hid hW7; have WZ := Lib.hid w3
          clear hW6 hW7 b3 b7 o7 p7 w3
          have KM : Hid (Keep (Mine F W W0) W0 W7) := by
            show Keep _ _ _
            refine (KE3.out.trans (KE5.out.mono (fun k hk => .inl hk))).trans ⟨OZ.out.os.trans K6.out.os, OZ.out.tape.trans K6.out.tape, OZ.out.output.trans K6.out.output, Nat.le_trans K6.out.size (Nat.le_of_eq OZ.out.size), fun k hk => ?_⟩
            have hk2 := PI2.out.dom k hk
            exact (OZ.out.block k (by omega)).trans (K6.out.block k (by have := WZ.out; omega))
          rcases bnd_some HK5.out with ⟨a, e, hm, he⟩ | ⟨_, s6, hm, hk6⟩
          · have C := Lib.hid (expect_st P7.out (X := ⟨#[41]⟩) (w := [41]) rfl (lt_mem (by decide)) (by decide) hm)
            have HE := Lib.hid he
            clear hm he
            go_wp2_with fail
            rw [← HW6.out, ← HW7.out]
            refine C.out.mono ?_
            rintro e1 W8 ⟨rfl, hk⟩
            exact ⟨rfl, BAD.out _ _ _ (KM.out.trans (hk.mono (fun k hk => .inl (.inl hk)))) HE.out⟩
          · have C := Lib.hid (expect_st P7.out (X := ⟨#[41]⟩) (w := [41]) rfl (lt_mem (by decide)) (by decide) hm)
            have HK6 := Lib.hid hk6
            clear hm hk6
            go_wp2_with fail
            rw [← HW6.out, ← HW7.out]
            clear x4 y4
            refine C.out.mono ?_
            rintro e1 W8 ⟨⟨v, rfl, rfl⟩, hpi, hke⟩
            have b4 := BZ.out.kept hke (.inl MB3.out)
            have b0 := (B0.out.kept KM.out MB.out).kept hke (.inl (.inl MB.out))
            have FIN : Hid (∀ Y, Only W.heap.size W8 Y → Q (.returned (.agg #[.int .i64 6, .int .i64 0, .int .i64 0, .string (st T), .slice (some ⟨W5.heap.size, 0, none⟩) 1 1])) Y) := by
              intro Y ho
              have hk := HK6.out
              unfold ret at hk
              injection hk with hk
              have hwz : W.heap.size < W0.heap.size := by have := Z0.out; omega
              have hy : PI (Mine (Mine (Mine F W W0) W2 W3) W5 W6) g p Y s6 := hpi.outer (Nat.le_of_eq ho.size) (fun b _ hn => ho.block b (fun e => hn (e ▸ .inl (.inl MB.out)))) (fun b hb => ho.block b (fun e => by
                have hbF := H.out.dom b (H.out.tok b hb)
                omega))
              rw [HQ.out, ← hk]
              refine ⟨_, _, rfl, fun k hk => .inl (.inl (.inl hk)), hy, I6.out.mono (fun b hb hlt => ⟨⟨hb.1, fun hf => hb.2 (.inl (.inl hf))⟩, ?_⟩) ?_, ?_⟩
              · have h1 : b ≠ W.heap.size := fun e => hb.2 (.inl (e ▸ MB.out))
                have h2 : b ≠ W2.heap.size := fun e => hb.2 (e ▸ MB3.out)
                exact (ho.block b h1).trans ((hke.block b hb.1).trans (OZ.out.block b h2))
              · exact Nat.le_trans (Nat.le_of_eq OZ.out.size) (Nat.le_trans hke.size (Nat.le_of_eq ho.size))
              · refine ((Kp.keep K0.out H.out.dom).trans ((KM.out.trans (hke.mono (fun k hk => .inl (.inl hk)))).mono (fun k hk => .inl hk))).trans ⟨ho.os, ho.tape, ho.output, Nat.le_of_eq ho.size, fun k hk => ho.block k (fun e => ?_)⟩
                have := H.out.dom k hk
                omega
            have q0 := b4.cell 0 rfl; have q1 := b4.cell 1 rfl; have q2 := b4.cell 2 rfl; have q3 := b4.cell 3 rfl; have q4 := b4.cell 4 rfl
            have z0 := b0.cell 0 rfl; have z1 := b0.cell 1 rfl; have z2 := b0.cell 2 rfl; have z3 := b0.cell 3 rfl; have z4 := b0.cell 4 rfl
            have g0 := b0.free 0; have g1 := b0.free 1; have g2 := b0.free 2; have g3 := b0.free 3; have g4 := b0.free 4
            have BX := Lib.hid b0
            clear hpi hke b4 b0 C
            go_wp2_with fail
            clear q0 q1 q2 q3 q4 z0 z1 z2 z3 z4 g0 g1 g2 g3 g4
            obtain ⟨Y, hY⟩ : ∃ Y, Y = ((((W8.setCell ⟨W.heap.size, 0, none⟩ (.int .i64 6)).setCell ⟨W.heap.size, 1, none⟩ (.int .i64 0)).setCell ⟨W.heap.size, 2, none⟩ (.int .i64 0)).setCell ⟨W.heap.size, 3, none⟩ (.string (st T))).setCell ⟨W.heap.size, 4, none⟩ (.slice (some ⟨W5.heap.size, 0, none⟩) 1 1) := ⟨_, rfl⟩
            have oy : Only W.heap.size W8 Y := by rw [hY]; exact (((((Only.refl _ W8).set 0 _).set 1 _).set 2 _).set 3 _).set 4 _
            have by5 : Blk Y W.heap.size 57 #[.int .i64 6, .int .i64 0, .int .i64 0, .string (st T), .slice (some ⟨W5.heap.size, 0, none⟩) 1 1] := by rw [hY]; exact ((((BX.out.set 0 _).set 1 _).set 2 _).set 3 _).set 4 _
            rw [← hY]
            have c0 := by5.cell 0 rfl; have c1 := by5.cell 1 rfl; have c2 := by5.cell 2 rfl; have c3 := by5.cell 3 rfl; have c4 := by5.cell 4 rfl
            exact bodyPost_ret (by simp [results, Tryz.results172, go_sem, c0, c1, c2, c3, c4]) rfl (FIN.out Y oy)
end By
end Go.Proofs.YtmflgfojicaecaaGreatDoor

/- The parser's list, given what its items answer. Condition: the parser lies in memory as it is named. -/
namespace Go.Proofs.YtmflgfojicaecaaGreatDoor
namespace By
open Go.RowKit WireN LexN SrcN
set_option linter.unusedVariables false
set_option linter.unusedSimpArgs false

/-- What a part answers that gathers: what is gathered lies in the frame. -/
def AnsL {β : Type} (F : Nat → Prop) (g p : Nat) (Stab : β → (Nat → Prop) → World → Prop) (r : Out β) (W : World) (e : Ending) (W' : World) : Prop :=
  match r with
  | .ok b s => e = .returned (.tuple #[]) ∧ ∃ G, (∀ k, F k → G k) ∧ PI G g p W' s ∧ Stab b G W' ∧ Keep F W W'
  | .bad at' n => e = pan at' n ∧ Keep F W W'
/-- A closure that reads an item. -/
structure ItemOk {β : Type} (F : Nat → Prop) (g p f : Nat) (caps : Array Value) (Stab : β → (Nat → Prop) → World → Prop) (item : β → P β) : Prop where
  stab : ∀ (b : β) (G : Nat → Prop) (W W' : World), Stab b G W → Keep G W W' → Stab b G W'
  enter : ∀ (args : Array Value) (w : World), (callFunc f args).run Tryz.prog w = .ok (.enter f args) w
  any : ∀ (b : β) (G : Nat → Prop) (W : World) (s : St) (r : Out β), (∀ k, F k → G k) → PI G g p W s → Stab b G W → item b s = some r → Calls Tryz.prog f caps W (AnsL F g p Stab r W)
set_option maxRecDepth 100000 in
set_option maxHeartbeats 4000000 in
theorem list_st {β : Type} {F G : Nat → Prop} {g p f n : Nat} {caps : Array Value} {Stab : β → (Nat → Prop) → World → Prop} {item : β → P β} (hit : ItemOk F g p f caps Stab item) {W : World} {s : St} {b : β} (hs : ∀ k, F k → G k) (h : PI G g p W s) (hst : Stab b G W) {r : Out β} (hr : list n item b s = some r) :
    Calls Tryz.prog 130 #[.pointer (some ⟨p, 0, none⟩), .func (.func f) #[] caps] W (AnsL F g p Stab r W) := by
  obtain ⟨Q, hQ⟩ : ∃ Q, Q = AnsL F g p Stab r W := ⟨_, rfl⟩
  rw [← hQ]
  have HQ := Lib.hid hQ
  have H := Lib.hid h; have HIT := Lib.hid hit; have HS := Lib.hid hs; have ST := Lib.hid hst
  have hin := hit.enter
  have BAD : Hid (∀ a e W', Keep F W W' → r = .bad a e → Q (pan a e) W') := by
    intro a e W' hk he
    rw [HQ.out, he]
    exact ⟨rfl, hk⟩
  have GOOD : Hid (∀ b' s' G' W', (∀ k, F k → G' k) → PI G' g p W' s' → Stab b' G' W' → Keep F W W' → r = .ok b' s' → Q (.returned (.tuple #[])) W') := by
    intro b' s' G' W' h1 h2 h3 h4 he
    rw [HQ.out, he]
    exact ⟨rfl, G', h1, h2, h3, h4⟩
  clear hQ h hit hs hst
  unfold list at hr
  rcases bnd_some hr with ⟨a, e, hm, he⟩ | ⟨_, s1, hm, hk1⟩
  · have C := Lib.hid (expect_st H.out (X := ⟨#[40]⟩) (w := [40]) rfl (lt_mem (by decide)) (by decide) hm)
    have HE := Lib.hid he
    clear hr hm he
    go_enter Tryz.func130, Tryz.ntmps130
    go_wp2_with fail
    refine C.out.mono ?_
    rintro e1 W1 ⟨rfl, hk⟩
    exact ⟨rfl, BAD.out _ _ _ (hk.mono HS.out) HE.out⟩
  · have C := Lib.hid (expect_st H.out (X := ⟨#[40]⟩) (w := [40]) rfl (lt_mem (by decide)) (by decide) hm)
    have HK1 := Lib.hid hk1
    clear hr hm hk1
    go_enter Tryz.func130, Tryz.ntmps130
    go_wp2_with fail
    refine C.out.mono ?_
    rintro e1 W1 ⟨⟨v, rfl, rfl⟩, hpi, hke⟩
    have PI1 := Lib.hid hpi; have KE1 := Lib.hid hke
    clear hpi hke C
    have C := Lib.hid (accept_st PI1.out (X := ⟨#[41]⟩) (w := [41]) rfl (lt_mem (by decide)) (by decide))
    have hk1 := HK1.out
    unfold bnd SrcN.acc at hk1
    cases hb : isW [41] s1 with
    | true =>
      rw [hb, if_pos rfl] at C
      simp only [hb, if_true] at hk1
      have hr1 : r = .ok b (SrcN.adv s1) := by
        unfold ret at hk1
        injection hk1 with hk1
        exact hk1.symm
      have HR1 := Lib.hid hr1
      clear hb hk1 hr1 HK1
      go_wp2_with fail
      refine C.out.mono ?_
      intro e W2 hs2
      obtain rfl := hs2.e
      have F2 := Lib.hid (GOOD.out _ _ _ W2 HS.out hs2.pi (HIT.out.stab _ _ _ _ (HIT.out.stab _ _ _ _ ST.out KE1.out) hs2.kp) ((KE1.out.trans hs2.kp).mono HS.out) HR1.out)
      clear hs2
      go_wp2_with fail
      exact ⟨rfl, _, results_none rfl _ _ _, F2.out⟩
    | false =>
      rw [hb, if_neg (by simp)] at C
      simp only [hb, if_false, Bool.false_eq_true] at hk1
      have HK2 : Hid (bnd (item b) (fun b' => listL item n b') s1 = some r) := hk1
      clear hb hk1 HK1
      go_wp2_with fail
      refine C.out.mono ?_
      intro e W2 hs2
      obtain rfl := hs2.e
      have PI2 := Lib.hid hs2.pi
      have ST2 := Lib.hid (HIT.out.stab _ _ _ _ (HIT.out.stab _ _ _ _ ST.out KE1.out) hs2.kp)
      have KE2 := Lib.hid ((KE1.out.trans hs2.kp).mono HS.out)
      clear hs2 C
      rcases bnd_some HK2.out with ⟨a, e, hm, he⟩ | ⟨b1, s2, hm, hk2⟩
      · have C := Lib.hid (HIT.out.any _ _ _ _ _ HS.out PI2.out ST2.out hm)
        have HE := Lib.hid he
        clear hm he
        go_wp2_with fail
        refine C.out.mono ?_
        rintro e1 W3 ⟨rfl, hk⟩
        exact ⟨rfl, BAD.out _ _ _ (KE2.out.trans hk) HE.out⟩
      · have C := Lib.hid (HIT.out.any _ _ _ _ _ HS.out PI2.out ST2.out hm)
        have HK3 := Lib.hid hk2
        clear hm hk2
        go_wp2_with fail
        refine C.out.mono ?_
        rintro e1 W3 ⟨rfl, G3, g1, g2, g3, g4⟩
        have INI : Hid (∃ (b : β) (s : St) (G : Nat → Prop), (∀ k, F k → G k) ∧ PI G g p W3 s ∧ Stab b G W3 ∧ Keep F W W3 ∧ listL item n b s = some r) := ⟨b1, s2, G3, g1, g2, g3, KE2.out.trans g4, HK3.out⟩
        clear g1 g2 g3 g4 C
        go_wp2_with fail
        go_loopg [10] n (fun m tv wy => Hid (∃ (b : β) (s : St) (G : Nat → Prop), (∀ k, F k → G k) ∧ PI G g p wy s ∧ Stab b G wy ∧ Keep F W wy ∧ listL item m b s = some r))
        case atStart => exact INI.out
        case round =>
          obtain ⟨b, s, G, h1, h2, h3, h4, hlp⟩ := hrel.out
          cases gk with
          | zero => unfold listL at hlp; cases hlp
          | succ m =>
          have hk1 : bnd (acc [41]) (fun c => if c then ret b else bnd (expt [44]) fun _ => bnd (item b) fun b' => listL item m b') s = some r := hlp
          have C := Lib.hid (accept_st h2 (X := ⟨#[41]⟩) (w := [41]) rfl (lt_mem (by decide)) (by decide))
          have HF := Lib.hid h1; have ST := Lib.hid h3; have KE := Lib.hid h4
          clear hrel hlp h1 h2 h3 h4
          unfold bnd SrcN.acc at hk1
          cases hb : isW [41] s with
          | true =>
            rw [hb, if_pos rfl] at C
            simp only [hb, if_true] at hk1
            have hr1 : r = .ok b (SrcN.adv s) := by
              unfold ret at hk1
              injection hk1 with hk1
              exact hk1.symm
            have HR1 := Lib.hid hr1
            clear hb hk1 hr1
            go_wp2_with fail
            refine C.out.mono ?_
            intro e W5 hs2
            obtain rfl := hs2.e
            have F2 := Lib.hid (GOOD.out _ _ _ W5 HF.out hs2.pi (HIT.out.stab _ _ _ _ ST.out hs2.kp) (KE.out.trans (hs2.kp.mono HF.out)) HR1.out)
            clear hs2
            go_wp2_with fail
            exact ⟨rfl, _, results_none rfl _ _ _, F2.out⟩
          | false =>
            rw [hb, if_neg (by simp)] at C
            simp only [hb, if_false, Bool.false_eq_true] at hk1
            have HK2 : Hid (bnd (expt [44]) (fun _ => bnd (item b) fun b' => listL item m b') s = some r) := hk1
            clear hb hk1
            go_wp2_with fail
            refine C.out.mono ?_
            intro e W5 hs2
            obtain rfl := hs2.e
            have PI5 := Lib.hid hs2.pi
            have ST5 := Lib.hid (HIT.out.stab _ _ _ _ ST.out hs2.kp)
            have KE5 := Lib.hid (KE.out.trans (hs2.kp.mono HF.out))
            clear hs2 C
            rcases bnd_some HK2.out with ⟨a, e, hm, he⟩ | ⟨_, s6, hm, hk6⟩
            · have C := Lib.hid (expect_st PI5.out (X := ⟨#[44]⟩) (w := [44]) rfl (lt_mem (by decide)) (by decide) hm)
              have HE := Lib.hid he
              clear hm he
              go_wp2_with fail
              refine C.out.mono ?_
              rintro e1 W6 ⟨rfl, hk⟩
              exact ⟨rfl, BAD.out _ _ _ (KE5.out.trans (hk.mono HF.out)) HE.out⟩
            · have C := Lib.hid (expect_st PI5.out (X := ⟨#[44]⟩) (w := [44]) rfl (lt_mem (by decide)) (by decide) hm)
              have HK6 := Lib.hid hk6
              clear hm hk6
              go_wp2_with fail
              refine C.out.mono ?_
              rintro e1 W6 ⟨⟨v, rfl, rfl⟩, hpi, hke⟩
              have PI6 := Lib.hid hpi
              have ST6 := Lib.hid (HIT.out.stab _ _ _ _ ST5.out hke)
              have KE6 := Lib.hid (KE5.out.trans (hke.mono HF.out))
              clear hpi hke C
              rcases bnd_some HK6.out with ⟨a, e, hm, he⟩ | ⟨b7, s7, hm, hk7⟩
              · have C := Lib.hid (HIT.out.any _ _ _ _ _ HF.out PI6.out ST6.out hm)
                have HE := Lib.hid he
                clear hm he
                go_wp2_with fail
                refine C.out.mono ?_
                rintro e1 W7 ⟨rfl, hk⟩
                exact ⟨rfl, BAD.out _ _ _ (KE6.out.trans hk) HE.out⟩
              · have C := Lib.hid (HIT.out.any _ _ _ _ _ HF.out PI6.out ST6.out hm)
                have HK7 := Lib.hid hk7
                clear hm hk7
                go_wp2_with fail
                refine C.out.mono ?_
                rintro e1 W7 ⟨rfl, G7, g1, g2, g3, g4⟩
                have NXT : Hid (∃ (b : β) (s : St) (G : Nat → Prop), (∀ k, F k → G k) ∧ PI G g p W7 s ∧ Stab b G W7 ∧ Keep F W W7 ∧ listL item m b s = some r) := ⟨b7, s7, G7, g1, g2, g3, KE6.out.trans g4, HK7.out⟩
                clear g1 g2 g3 g4 C
                go_wp2_with fail
                go_roundg m
                case rel => exact NXT.out
                case measure => omega
end By
end Go.Proofs.YtmflgfojicaecaaGreatDoor
