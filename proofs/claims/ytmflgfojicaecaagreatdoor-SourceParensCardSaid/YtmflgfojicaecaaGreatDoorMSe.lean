/- The parser's expr: what an expression of any tokens means. Condition: the parser lies in memory as it is named; the fuel suffices. -/
import Derived.Test.YtmflgfojicaecaaGreatDoorSFac
namespace Go.Proofs.YtmflgfojicaecaaGreatDoor
namespace By
open Go.RowKit WireN LexN SrcN
set_option linter.unusedVariables false
set_option linter.unusedSimpArgs false

set_option maxRecDepth 100000 in
set_option maxHeartbeats 8000000 in
theorem expr_step {n : Nat} (ih : ∀ d, 1 ≤ d → d ≤ 40 → Part 132 (expr n d) [.int .i64 ((d : Nat) : Int)]) {F : Nat → Prop} {g p d : Nat} {W : World} {s : St} (h : PI F g p W s) (hd1 : 1 ≤ d) (hd : d ≤ 40) {r : Out Nat} (hr : expr (n + 1) d s = some r) :
    Calls Tryz.prog 132 #[.pointer (some ⟨p, 0, none⟩), .int .i64 (d : Nat)] W (Ans' F g p vN r W) := by
  obtain ⟨Q, hQ⟩ : ∃ Q, Q = Ans' F g p vN r W := ⟨_, rfl⟩
  rw [← hQ]
  have HQ := Lib.hid hQ
  have H := Lib.hid h; have IH := Lib.hid ih
  obtain ⟨o, len, rc, pv, bv, K, T, NM, AT, hhd, hT, hpc⟩ := h.hd
  obtain ⟨c0, c1, c2, f0, t0, t1, t2, t3, hp, hlen⟩ := hpc
  have hrr : (len : Int) ≠ 0 := by omega
  obtain ⟨W0, hW0⟩ : ∃ W0, W0 = W.alloc (Obj.cells #[.int .i64 (K : Nat), .string (st T), .int .i64 (NM : Nat), .int .i64 (AT : Nat)] 111) := ⟨_, rfl⟩
  obtain ⟨b5, hb5⟩ : ∃ b5, b5 = W.heap.size := ⟨_, rfl⟩
  have hs0 : W0.heap.size = W.heap.size + 1 := by rw [hW0]; simp
  have K0 : Hid (Kp W W0) := by show Kp W W0; rw [hW0]; exact kp_alloc W _
  have B0 : Hid (Blk W0 b5 111 #[.int .i64 (K : Nat), .string (st T), .int .i64 (NM : Nat), .int .i64 (AT : Nat)]) := by show Blk _ _ _ _; rw [hW0, hb5]; exact Blk.new _ _ _
  have MB : Hid (Mine F W W0 b5) := by show Mine _ _ _ _; rw [hb5]; exact .inr ⟨Nat.le_refl _, by omega⟩
  have EB5 := Lib.hid hb5
  have HW0 := Lib.hid hW0; have HHD := Lib.hid hhd
  have HBS : Hid (∀ b, Bs g b → Mine F W W0 b) := fun b hb => .inl (H.out.tok b hb)
  have BAD : Hid (∀ a e W', Keep (Mine F W W0) W0 W' → r = .bad a e → Q (pan a e) W') := by
    intro a e W' hk he
    rw [HQ.out, he]
    exact ⟨rfl, (Kp.keep K0.out H.out.dom).trans (hk.mono (fun k hk => .inl hk))⟩
  have LAST : Hid (∀ e W1 W', Keep (Mine F W W0) W0 W1 → Ans' (Mine F W W0) g p vN r W1 e W' → Q e W') := by
    intro e W1 W' hk hq
    rw [HQ.out]
    cases r with
    | bad a n => exact ⟨hq.1, (Kp.keep K0.out H.out.dom).trans ((hk.trans hq.2).mono (fun k hk => .inl hk))⟩
    | ok i s' =>
      have hb := PI.back H.out K0.out hq.2.1 (hk.trans hq.2.2) (W2 := W') (Nat.le_refl _) ⟨rfl, rfl, rfl⟩ (fun _ _ _ => rfl)
      exact ⟨hq.1, hb.1, hb.2⟩
  have P0 := Lib.hid (H.out.fresh K0.out)
  have b0 := B0.out
  have q0 := b0.cell 0 rfl; have q1 := b0.cell 1 rfl; have q2 := b0.cell 2 rfl; have q3 := b0.cell 3 rfl
  rw [HW0.out, hb5] at q0 q1 q2 q3
  have hr' : bnd (room (SrcN.hd s) (d - 1) 32) (fun _ => bnd (acc [105, 102]) fun b => if b then
      bnd (expr n (d + 1)) fun c => bnd (expt [116, 104, 101, 110]) fun _ => bnd (expr n (d + 1)) fun y => bnd (expt [101, 108, 115, 101]) fun _ => bnd (expr n (d + 1)) fun z => node (SrcN.hd s) ⟨5, 0, 0, [], [c, y, z]⟩
    else operation n (factor n (expr n) d) 3) s = some r := hr
  clear hQ h hW0 hs0 hlen hT hb5 ih hhd hr b0
  by_cases hdn : 32 ≤ d - 1
  · have FB : Hid (∀ W', Kp W0 W' → Q (pan AT 2) W') := by
      intro W' hk
      have hx : room (SrcN.hd s) (d - 1) 32 s = some (.bad AT 2) := by
        unfold SrcN.room
        rw [if_pos hdn, HHD.out]
        rfl
      rcases bnd_some hr' with ⟨a, e, hm, he⟩ | ⟨_, s1, hm, -⟩
      · rw [hx] at hm
        injection hm with hm
        injection hm with h1 h2
        exact BAD.out _ _ _ (Kp.keep hk P0.out.dom) (by rw [he, ← h1, ← h2])
      · rw [hx] at hm
        cases hm
    have hni : (32 : Int) ≤ (d : Int) - 1 := by omega
    clear hr'
    go_enter Tryz.func132, Tryz.ntmps132
    go_wp2_with fail
    rw [← HW0.out]
    refine (room_no K NM AT (st T) ((d : Int) - 1) 32 hni W0).mono ?_
    rintro e1 W1 ⟨rfl, hk⟩
    exact ⟨rfl, FB.out W1 hk⟩
  · have hx : room (SrcN.hd s) (d - 1) 32 s = some (.ok () s) := by
      unfold SrcN.room
      rw [if_neg hdn]
      rfl
    have H0 : Hid (bnd (acc [105, 102]) (fun b => if b then
      bnd (expr n (d + 1)) fun c => bnd (expt [116, 104, 101, 110]) fun _ => bnd (expr n (d + 1)) fun y => bnd (expt [101, 108, 115, 101]) fun _ => bnd (expr n (d + 1)) fun z => node (SrcN.hd s) ⟨5, 0, 0, [], [c, y, z]⟩
    else operation n (factor n (expr n) d) 3) s = some r) := by
      rcases bnd_some hr' with ⟨a, e, hm, he⟩ | ⟨u, s1, hm, hk⟩
      · rw [hx] at hm; cases hm
      · rw [hx] at hm
        injection hm with hm
        injection hm with h1 h2
        subst h2
        exact hk
    have hni : (d : Int) - 1 < (32 : Int) := by omega
    have hd33 : d + 1 ≤ 40 := by omega
    have SUBP : Hid (Part 132 (expr n (d + 1)) [.int .i64 ((d + 1 : Nat) : Int)]) := IH.out (d + 1) (by omega) hd33
    have SUB : Hid (∀ (F : Nat → Prop) (g p : Nat) (W : World) (s : St) (r : Out Nat), PI F g p W s → expr n (d + 1) s = some r → Calls Tryz.prog 132 #[.pointer (some ⟨p, 0, none⟩), .int .i64 ((d + 1 : Nat) : Int)] W (Ans' F g p vN r W)) := SUBP.out
    clear hr' hx
    go_enter Tryz.func132, Tryz.ntmps132
    go_wp2_with fail
    rw [← HW0.out]
    clear c0 c1 c2 f0 t0 t1 t2 t3 q0 q1 q2 q3
    refine (room_yes K NM AT (st T) ((d : Int) - 1) 32 hni W0).mono ?_
    rintro e1 W1 ⟨rfl, hk⟩
    have P1 := Lib.hid (P0.out.kp hk); have E1 := Lib.hid (Kp.keep hk P0.out.dom)
    clear hk
    rw [← EB5.out]
    have C := Lib.hid (accept_st P1.out (X := ⟨#[105, 102]⟩) (w := [105, 102]) rfl (lt_mem (by decide)) (by decide))
    cases hb : isW [105, 102] s with
    | false =>
      rw [hb, if_neg (by simp)] at C
      have H1 := Lib.hid (acc_if_no hb H0.out)
      clear hb
      go_wp2_with fail
      refine C.out.mono ?_
      intro e W2 hs1
      obtain rfl := hs1.e
      have P2 := Lib.hid hs1.pi; have E2 := Lib.hid (E1.out.trans hs1.kp)
      clear hs1 C
      have CO : Hid (Calls Tryz.prog 156 #[.pointer (some ⟨p, 0, none⟩), .int .i64 ((1 : Nat) : Int), .int .i64 (d : Nat)] W2 (Ans' (Mine F W W0) g p vN r W2)) :=
        operation_all hd (fun F g p W s r h hr => factor_st h hd SUBP.out hr) _ _ _ _ _ _ P2.out H1.out
      go_wp2_with fail
      refine CO.out.mono ?_
      intro e6 W6 hq
      have hq2 := LAST.out e6 W2 W6 E2.out hq
      cases r with
      | bad a e =>
        obtain ⟨rfl, hk⟩ := hq
        exact ⟨rfl, hq2⟩
      | ok i s6 =>
        obtain ⟨⟨v, rfl, rfl⟩, -, -⟩ := hq
        have F2 := Lib.hid hq2
        clear hq2
        go_wp2_with fail
        first | exact F2.out | (go_ret3; exact F2.out) | (go_ret; exact F2.out)
    | true =>
      rw [hb, if_pos rfl] at C
      have H1 := Lib.hid (acc_if_yes hb H0.out)
      clear hb
      go_wp2_with fail
      refine C.out.mono ?_
      intro e W2 hs1
      obtain rfl := hs1.e
      have P2 := Lib.hid hs1.pi; have E2 := Lib.hid (E1.out.trans hs1.kp)
      clear hs1 C
      rcases bnd_some H1.out with ⟨a, e, hm, he⟩ | ⟨c, s2, hm, hk2⟩
      · have C := Lib.hid (SUB.out _ _ _ _ _ _ P2.out hm)
        have HE := Lib.hid he
        clear hm he
        go_wp2_with fail
        refine C.out.mono ?_
        rintro e1 W3 ⟨rfl, hk⟩
        exact ⟨rfl, BAD.out _ _ _ (E2.out.trans hk) HE.out⟩
      have C := Lib.hid (SUB.out _ _ _ _ _ _ P2.out hm)
      have H2 := Lib.hid hk2
      clear hm hk2
      go_wp2_with fail
      refine C.out.mono ?_
      rintro e1 W3 ⟨⟨v, rfl, rfl⟩, hpi, hke⟩
      have P3 := Lib.hid hpi; have E3 := Lib.hid (E2.out.trans hke)
      clear hpi hke C
      rcases bnd_some H2.out with ⟨a, e, hm, he⟩ | ⟨_, s3, hm, hk3⟩
      · have C := Lib.hid (expect_st P3.out (X := ⟨#[116, 104, 101, 110]⟩) (w := [116, 104, 101, 110]) rfl (lt_mem (by decide)) (by decide) hm)
        have HE := Lib.hid he
        clear hm he
        go_wp2_with fail
        refine C.out.mono ?_
        rintro e1 W4 ⟨rfl, hk⟩
        exact ⟨rfl, BAD.out _ _ _ (E3.out.trans hk) HE.out⟩
      have C := Lib.hid (expect_st P3.out (X := ⟨#[116, 104, 101, 110]⟩) (w := [116, 104, 101, 110]) rfl (lt_mem (by decide)) (by decide) hm)
      have H3 := Lib.hid hk3
      clear hm hk3
      go_wp2_with fail
      refine C.out.mono ?_
      rintro e1 W4 ⟨⟨v, rfl, rfl⟩, hpi, hke⟩
      have P4 := Lib.hid hpi; have E4 := Lib.hid (E3.out.trans hke)
      clear hpi hke C
      rcases bnd_some H3.out with ⟨a, e, hm, he⟩ | ⟨y, s4, hm, hk4⟩
      · have C := Lib.hid (SUB.out _ _ _ _ _ _ P4.out hm)
        have HE := Lib.hid he
        clear hm he
        go_wp2_with fail
        refine C.out.mono ?_
        rintro e1 W5 ⟨rfl, hk⟩
        exact ⟨rfl, BAD.out _ _ _ (E4.out.trans hk) HE.out⟩
      have C := Lib.hid (SUB.out _ _ _ _ _ _ P4.out hm)
      have H4 := Lib.hid hk4
      clear hm hk4
      go_wp2_with fail
      refine C.out.mono ?_
      rintro e1 W5 ⟨⟨v, rfl, rfl⟩, hpi, hke⟩
      have P5 := Lib.hid hpi; have E5 := Lib.hid (E4.out.trans hke)
      clear hpi hke C
      rcases bnd_some H4.out with ⟨a, e, hm, he⟩ | ⟨_, s5, hm, hk5⟩
      · have C := Lib.hid (expect_st P5.out (X := ⟨#[101, 108, 115, 101]⟩) (w := [101, 108, 115, 101]) rfl (lt_mem (by decide)) (by decide) hm)
        have HE := Lib.hid he
        clear hm he
        go_wp2_with fail
        refine C.out.mono ?_
        rintro e1 W6 ⟨rfl, hk⟩
        exact ⟨rfl, BAD.out _ _ _ (E5.out.trans hk) HE.out⟩
      have C := Lib.hid (expect_st P5.out (X := ⟨#[101, 108, 115, 101]⟩) (w := [101, 108, 115, 101]) rfl (lt_mem (by decide)) (by decide) hm)
      have H5 := Lib.hid hk5
      clear hm hk5
      go_wp2_with fail
      refine C.out.mono ?_
      rintro e1 W6 ⟨⟨v, rfl, rfl⟩, hpi, hke⟩
      have P6 := Lib.hid hpi; have E6 := Lib.hid (E5.out.trans hke)
      clear hpi hke C
      rcases bnd_some H5.out with ⟨a, e, hm, he⟩ | ⟨z, s6, hm, hk6⟩
      · have C := Lib.hid (SUB.out _ _ _ _ _ _ P6.out hm)
        have HE := Lib.hid he
        clear hm he
        go_wp2_with fail
        refine C.out.mono ?_
        rintro e1 W7 ⟨rfl, hk⟩
        exact ⟨rfl, BAD.out _ _ _ (E6.out.trans hk) HE.out⟩
      have C := Lib.hid (SUB.out _ _ _ _ _ _ P6.out hm)
      have H6 := Lib.hid hk6
      clear hm hk6
      go_wp2_with fail
      refine C.out.mono ?_
      rintro e1 W7 ⟨⟨v, rfl, rfl⟩, hpi, hke⟩
      have P7 := Lib.hid hpi; have E7 := Lib.hid (E6.out.trans hke)
      clear hpi hke C
      have b7 := B0.out.kept E7.out MB.out
      obtain ⟨W8, hW8⟩ : ∃ W8, W8 = W7.alloc (Obj.cells #[.int .i64 (c : Nat), .int .i64 (y : Nat), .int .i64 (z : Nat)] 3) := ⟨_, rfl⟩
      have K8 : Hid (Kp W7 W8) := by show Kp W7 W8; rw [hW8]; exact kp_alloc W7 _
      have q0 := b7.cell 0 rfl; have q1 := b7.cell 1 rfl; have q2 := b7.cell 2 rfl; have q3 := b7.cell 3 rfl
      have r0 := (b7.keep K8.out).cell 0 rfl; have r1 := (b7.keep K8.out).cell 1 rfl; have r2 := (b7.keep K8.out).cell 2 rfl; have r3 := (b7.keep K8.out).cell 3 rfl
      have HI : Hid (Ints (fun b => Mine (Mine F W W0) W7 W8 b ∧ ¬ Mine F W W0 b) W8 (.slice (some ⟨W7.heap.size, 0, none⟩) 3 3) [c, y, z]) := by
        show Ints _ _ _ _
        exact Ints.made (xs := [c, y, z]) hW8 ⟨.inr ⟨Nat.le_refl _, by rw [hW8]; simp⟩, fun hx => absurd (P7.out.dom _ hx) (Nat.lt_irrefl _)⟩
      have hn6 := H6.out
      rw [HHD.out] at hn6
      have C := Lib.hid (node_st (F := Mine F W W0) (P7.out.fresh K8.out) (fun k hk => .inl hk) HBS.out (T := st T) HI.out hn6)
      have E8 := Lib.hid (E7.out.trans (Kp.keep K8.out P7.out.dom))
      have HW8 := Lib.hid hW8
      rw [hW8] at r0 r1 r2 r3
      clear hW8 b7 hn6
      go_wp2_with fail
      rw [← HW8.out]
      clear q0 q1 q2 q3 r0 r1 r2 r3
      refine C.out.mono ?_
      intro e6 W9 hq
      have hq2 := LAST.out e6 W8 W9 E8.out hq
      cases r with
      | bad a e =>
        obtain ⟨rfl, hk⟩ := hq
        exact ⟨rfl, hq2⟩
      | ok i s6 =>
        obtain ⟨⟨v, rfl, rfl⟩, -, -⟩ := hq
        have F2 := Lib.hid hq2
        clear hq2
        go_wp2_with fail
        first | exact F2.out | (go_ret3; exact F2.out) | (go_ret; exact F2.out)
theorem expr_all : ∀ (n d : Nat), 1 ≤ d → d ≤ 40 → Part 132 (expr n d) [.int .i64 ((d : Nat) : Int)]
  | 0, d, _, _ => fun F g p W s r h hr => by
    unfold expr at hr
    cases hr
  | n + 1, d, h1, h2 => fun F g p W s r h hr => expr_step (fun d a b => expr_all n d a b) h h1 h2 hr
end By
end Go.Proofs.YtmflgfojicaecaaGreatDoor

/- The parser's list of a method's items, given what its items answer; and kind. Condition: the parser lies in memory as it is named. -/
namespace Go.Proofs.YtmflgfojicaecaaGreatDoor
namespace By
open Go.RowKit WireN LexN SrcN
set_option linter.unusedVariables false
set_option linter.unusedSimpArgs false

set_option maxRecDepth 100000 in
set_option maxHeartbeats 4000000 in
theorem list_st2 {β : Type} {F G : Nat → Prop} {g p f n : Nat} {a0 : Value} {Stab : β → (Nat → Prop) → World → Prop} {item : β → P β} (hit : ItemOk F g p f #[a0] Stab item) {W : World} {s : St} {b : β} (hs : ∀ k, F k → G k) (h : PI G g p W s) (hst : Stab b G W) {r : Out β} (hr : list n item b s = some r) :
    Calls Tryz.prog 130 #[.pointer (some ⟨p, 0, none⟩), .func (.func f) #[a0] #[]] W (AnsL F g p Stab r W) := by
  obtain ⟨Q, hQ⟩ : ∃ Q, Q = AnsL F g p Stab r W := ⟨_, rfl⟩
  rw [← hQ]
  have HQ := Lib.hid hQ
  have H := Lib.hid h; have HIT := Lib.hid hit; have HS := Lib.hid hs; have ST := Lib.hid hst
  have hin := hit.enter
  have BAD : Hid (∀ a e W', Keep F W W' → r = .bad a e → Q (pan a e) W') := by
    intro a e W' hk he
    rw [HQ.out, he]
    exact ⟨rfl, hk⟩
  have GOOD : Hid (∀ b' s' G' W', (∀ k, F k → G' k) → PI G' g p W' s' → Stab b' G' W' → Keep F W W' → r = .ok b' s' → Q (.returned (.tuple #[])) W') := by
    intro b' s' G' W' h1 h2 h3 h4 he
    rw [HQ.out, he]
    exact ⟨rfl, G', h1, h2, h3, h4⟩
  clear hQ h hit hs hst
  unfold list at hr
  rcases bnd_some hr with ⟨a, e, hm, he⟩ | ⟨_, s1, hm, hk1⟩
  · have C := Lib.hid (expect_st H.out (X := ⟨#[40]⟩) (w := [40]) rfl (lt_mem (by decide)) (by decide) hm)
    have HE := Lib.hid he
    clear hr hm he
    go_enter Tryz.func130, Tryz.ntmps130
    go_wp2_with fail
    refine C.out.mono ?_
    rintro e1 W1 ⟨rfl, hk⟩
    exact ⟨rfl, BAD.out _ _ _ (hk.mono HS.out) HE.out⟩
  · have C := Lib.hid (expect_st H.out (X := ⟨#[40]⟩) (w := [40]) rfl (lt_mem (by decide)) (by decide) hm)
    have HK1 := Lib.hid hk1
    clear hr hm hk1
    go_enter Tryz.func130, Tryz.ntmps130
    go_wp2_with fail
    refine C.out.mono ?_
    rintro e1 W1 ⟨⟨v, rfl, rfl⟩, hpi, hke⟩
    have PI1 := Lib.hid hpi; have KE1 := Lib.hid hke
    clear hpi hke C
    have C := Lib.hid (accept_st PI1.out (X := ⟨#[41]⟩) (w := [41]) rfl (lt_mem (by decide)) (by decide))
    have hk1 := HK1.out
    unfold bnd SrcN.acc at hk1
    cases hb : isW [41] s1 with
    | true =>
      rw [hb, if_pos rfl] at C
      simp only [hb, if_true] at hk1
      have hr1 : r = .ok b (SrcN.adv s1) := by
        unfold ret at hk1
        injection hk1 with hk1
        exact hk1.symm
      have HR1 := Lib.hid hr1
      clear hb hk1 hr1 HK1
      go_wp2_with fail
      refine C.out.mono ?_
      intro e W2 hs2
      obtain rfl := hs2.e
      have F2 := Lib.hid (GOOD.out _ _ _ W2 HS.out hs2.pi (HIT.out.stab _ _ _ _ (HIT.out.stab _ _ _ _ ST.out KE1.out) hs2.kp) ((KE1.out.trans hs2.kp).mono HS.out) HR1.out)
      clear hs2
      go_wp2_with fail
      exact ⟨rfl, _, results_none rfl _ _ _, F2.out⟩
    | false =>
      rw [hb, if_neg (by simp)] at C
      simp only [hb, if_false, Bool.false_eq_true] at hk1
      have HK2 : Hid (bnd (item b) (fun b' => listL item n b') s1 = some r) := hk1
      clear hb hk1 HK1
      go_wp2_with fail
      refine C.out.mono ?_
      intro e W2 hs2
      obtain rfl := hs2.e
      have PI2 := Lib.hid hs2.pi
      have ST2 := Lib.hid (HIT.out.stab _ _ _ _ (HIT.out.stab _ _ _ _ ST.out KE1.out) hs2.kp)
      have KE2 := Lib.hid ((KE1.out.trans hs2.kp).mono HS.out)
      clear hs2 C
      rcases bnd_some HK2.out with ⟨a, e, hm, he⟩ | ⟨b1, s2, hm, hk2⟩
      · have C := Lib.hid (HIT.out.any _ _ _ _ _ HS.out PI2.out ST2.out hm)
        have HE := Lib.hid he
        clear hm he
        go_wp2_with fail
        refine C.out.mono ?_
        rintro e1 W3 ⟨rfl, hk⟩
        exact ⟨rfl, BAD.out _ _ _ (KE2.out.trans hk) HE.out⟩
      · have C := Lib.hid (HIT.out.any _ _ _ _ _ HS.out PI2.out ST2.out hm)
        have HK3 := Lib.hid hk2
        clear hm hk2
        go_wp2_with fail
        refine C.out.mono ?_
        rintro e1 W3 ⟨rfl, G3, g1, g2, g3, g4⟩
        have INI : Hid (∃ (b : β) (s : St) (G : Nat → Prop), (∀ k, F k → G k) ∧ PI G g p W3 s ∧ Stab b G W3 ∧ Keep F W W3 ∧ listL item n b s = some r) := ⟨b1, s2, G3, g1, g2, g3, KE2.out.trans g4, HK3.out⟩
        clear g1 g2 g3 g4 C
        go_wp2_with fail
        go_loopg [10] n (fun m tv wy => Hid (∃ (b : β) (s : St) (G : Nat → Prop), (∀ k, F k → G k) ∧ PI G g p wy s ∧ Stab b G wy ∧ Keep F W wy ∧ listL item m b s = some r))
        case atStart => exact INI.out
        case round =>
          obtain ⟨b, s, G, h1, h2, h3, h4, hlp⟩ := hrel.out
          cases gk with
          | zero => unfold listL at hlp; cases hlp
          | succ m =>
          have hk1 : bnd (acc [41]) (fun c => if c then ret b else bnd (expt [44]) fun _ => bnd (item b) fun b' => listL item m b') s = some r := hlp
          have C := Lib.hid (accept_st h2 (X := ⟨#[41]⟩) (w := [41]) rfl (lt_mem (by decide)) (by decide))
          have HF := Lib.hid h1; have ST := Lib.hid h3; have KE := Lib.hid h4
          clear hrel hlp h1 h2 h3 h4
          unfold bnd SrcN.acc at hk1
          cases hb : isW [41] s with
          | true =>
            rw [hb, if_pos rfl] at C
            simp only [hb, if_true] at hk1
            have hr1 : r = .ok b (SrcN.adv s) := by
              unfold ret at hk1
              injection hk1 with hk1
              exact hk1.symm
            have HR1 := Lib.hid hr1
            clear hb hk1 hr1
            go_wp2_with fail
            refine C.out.mono ?_
            intro e W5 hs2
            obtain rfl := hs2.e
            have F2 := Lib.hid (GOOD.out _ _ _ W5 HF.out hs2.pi (HIT.out.stab _ _ _ _ ST.out hs2.kp) (KE.out.trans (hs2.kp.mono HF.out)) HR1.out)
            clear hs2
            go_wp2_with fail
            exact ⟨rfl, _, results_none rfl _ _ _, F2.out⟩
          | false =>
            rw [hb, if_neg (by simp)] at C
            simp only [hb, if_false, Bool.false_eq_true] at hk1
            have HK2 : Hid (bnd (expt [44]) (fun _ => bnd (item b) fun b' => listL item m b') s = some r) := hk1
            clear hb hk1
            go_wp2_with fail
            refine C.out.mono ?_
            intro e W5 hs2
            obtain rfl := hs2.e
            have PI5 := Lib.hid hs2.pi
            have ST5 := Lib.hid (HIT.out.stab _ _ _ _ ST.out hs2.kp)
            have KE5 := Lib.hid (KE.out.trans (hs2.kp.mono HF.out))
            clear hs2 C
            rcases bnd_some HK2.out with ⟨a, e, hm, he⟩ | ⟨_, s6, hm, hk6⟩
            · have C := Lib.hid (expect_st PI5.out (X := ⟨#[44]⟩) (w := [44]) rfl (lt_mem (by decide)) (by decide) hm)
              have HE := Lib.hid he
              clear hm he
              go_wp2_with fail
              refine C.out.mono ?_
              rintro e1 W6 ⟨rfl, hk⟩
              exact ⟨rfl, BAD.out _ _ _ (KE5.out.trans (hk.mono HF.out)) HE.out⟩
            · have C := Lib.hid (expect_st PI5.out (X := ⟨#[44]⟩) (w := [44]) rfl (lt_mem (by decide)) (by decide) hm)
              have HK6 := Lib.hid hk6
              clear hm hk6
              go_wp2_with fail
              refine C.out.mono ?_
              rintro e1 W6 ⟨⟨v, rfl, rfl⟩, hpi, hke⟩
              have PI6 := Lib.hid hpi
              have ST6 := Lib.hid (HIT.out.stab _ _ _ _ ST5.out hke)
              have KE6 := Lib.hid (KE5.out.trans (hke.mono HF.out))
              clear hpi hke C
              rcases bnd_some HK6.out with ⟨a, e, hm, he⟩ | ⟨b7, s7, hm, hk7⟩
              · have C := Lib.hid (HIT.out.any _ _ _ _ _ HF.out PI6.out ST6.out hm)
                have HE := Lib.hid he
                clear hm he
                go_wp2_with fail
                refine C.out.mono ?_
                rintro e1 W7 ⟨rfl, hk⟩
                exact ⟨rfl, BAD.out _ _ _ (KE6.out.trans hk) HE.out⟩
              · have C := Lib.hid (HIT.out.any _ _ _ _ _ HF.out PI6.out ST6.out hm)
                have HK7 := Lib.hid hk7
                clear hm hk7
                go_wp2_with fail
                refine C.out.mono ?_
                rintro e1 W7 ⟨rfl, G7, g1, g2, g3, g4⟩
                have NXT : Hid (∃ (b : β) (s : St) (G : Nat → Prop), (∀ k, F k → G k) ∧ PI G g p W7 s ∧ Stab b G W7 ∧ Keep F W W7 ∧ listL item m b s = some r) := ⟨b7, s7, G7, g1, g2, g3, KE6.out.trans g4, HK7.out⟩
                clear g1 g2 g3 g4 C
                go_wp2_with fail
                go_roundg m
                case rel => exact NXT.out
                case measure => omega
set_option maxRecDepth 100000 in
set_option maxHeartbeats 2000000 in
theorem kind_st {F : Nat → Prop} {g p : Nat} {W : World} {s : St} (h : PI F g p W s) {r : Out Nat} (hr : kind s = some r) :
    Calls Tryz.prog 128 #[.pointer (some ⟨p, 0, none⟩)] W (Ans' F g p vN r W) := by
  obtain ⟨Q, hQ⟩ : ∃ Q, Q = Ans' F g p vN r W := ⟨_, rfl⟩
  rw [← hQ]
  have HQ := Lib.hid hQ
  have H := Lib.hid h; have H0 : Hid (bnd (acc [102, 117, 110, 99]) (fun b => if b then ret 1 else bnd (acc [116, 101, 115, 116]) fun b => if b then ret 2 else bnd (expt [103, 101, 110]) fun _ => ret 3) s = some r) := hr
  have C := Lib.hid (accept_st H.out (X := ⟨#[102, 117, 110, 99]⟩) (w := [102, 117, 110, 99]) rfl (lt_mem (by decide)) (by decide))
  clear hQ h hr
  go_enter Tryz.func128, Tryz.ntmps128
  go_wp2_with fail
  cases hb : isW [102, 117, 110, 99] s with
  | true =>
    rw [hb, if_pos rfl] at C
    have H1 := acc_if_yes hb H0.out
    unfold ret at H1
    injection H1 with H1
    have HR := Lib.hid H1
    clear hb H1
    refine C.out.mono ?_
    intro e W1 hs
    obtain rfl := hs.e
    have F2 : Hid (Q (.returned (.int .i64 1)) W1) := by show Q _ _; rw [HQ.out, ← HR.out]; exact ⟨⟨_, rfl, rfl⟩, hs.pi, hs.kp⟩
    clear hs
    go_wp2_with fail
    first | exact F2.out | (go_ret3; exact F2.out) | (go_ret; exact F2.out)
  | false =>
    rw [hb, if_neg (by simp)] at C
    have H1 := Lib.hid (acc_if_no hb H0.out)
    clear hb
    refine C.out.mono ?_
    intro e W1 hs
    obtain rfl := hs.e
    have P1 := Lib.hid hs.pi; have E1 := Lib.hid hs.kp
    clear hs C
    have C := Lib.hid (accept_st P1.out (X := ⟨#[116, 101, 115, 116]⟩) (w := [116, 101, 115, 116]) rfl (lt_mem (by decide)) (by decide))
    go_wp2_with fail
    cases hb : isW [116, 101, 115, 116] s with
    | true =>
      rw [hb, if_pos rfl] at C
      have H2 := acc_if_yes hb H1.out
      unfold ret at H2
      injection H2 with H2
      have HR := Lib.hid H2
      clear hb H2
      refine C.out.mono ?_
      intro e W2 hs
      obtain rfl := hs.e
      have F2 : Hid (Q (.returned (.int .i64 2)) W2) := by show Q _ _; rw [HQ.out, ← HR.out]; exact ⟨⟨_, rfl, rfl⟩, hs.pi, E1.out.trans hs.kp⟩
      clear hs
      go_wp2_with fail
      first | exact F2.out | (go_ret3; exact F2.out) | (go_ret; exact F2.out)
    | false =>
      rw [hb, if_neg (by simp)] at C
      have H2 := Lib.hid (acc_if_no hb H1.out)
      clear hb
      refine C.out.mono ?_
      intro e W2 hs
      obtain rfl := hs.e
      have P2 := Lib.hid hs.pi; have E2 := Lib.hid (E1.out.trans hs.kp)
      clear hs C
      rcases bnd_some H2.out with ⟨a, e, hm, he⟩ | ⟨_, s3, hm, hk3⟩
      · have C := Lib.hid (expect_st P2.out (X := ⟨#[103, 101, 110]⟩) (w := [103, 101, 110]) rfl (lt_mem (by decide)) (by decide) hm)
        have HE := Lib.hid he
        clear hm he
        go_wp2_with fail
        refine C.out.mono ?_
        rintro e1 W3 ⟨rfl, hk⟩
        refine ⟨rfl, ?_⟩
        rw [HQ.out, HE.out]
        exact ⟨rfl, E2.out.trans hk⟩
      · have C := Lib.hid (expect_st P2.out (X := ⟨#[103, 101, 110]⟩) (w := [103, 101, 110]) rfl (lt_mem (by decide)) (by decide) hm)
        unfold ret at hk3
        injection hk3 with hk3
        have HR := Lib.hid hk3
        clear hm hk3
        go_wp2_with fail
        refine C.out.mono ?_
        rintro e1 W3 ⟨⟨v, rfl, rfl⟩, hpi, hke⟩
        have F2 : Hid (Q (.returned (.int .i64 3)) W3) := by show Q _ _; rw [HQ.out, ← HR.out]; exact ⟨⟨_, rfl, rfl⟩, hpi, E2.out.trans hke⟩
        clear hpi hke
        go_wp2_with fail
        first | exact F2.out | (go_ret3; exact F2.out) | (go_ret; exact F2.out)
end By
end Go.Proofs.YtmflgfojicaecaaGreatDoor
