/- The parser's factor, given what expressions answer. Condition: the parser lies in memory as it is named. -/
import Derived.Test.YtmflgfojicaecaaGreatDoorMSd
namespace Go.Proofs.YtmflgfojicaecaaGreatDoor
namespace By
open Go.RowKit WireN LexN SrcN
set_option linter.unusedVariables false
set_option linter.unusedSimpArgs false

theorem acc_if_no {α : Type} {w : List Nat} {A B : P α} {s : St} {r : Out α} (hb : isW w s = false) (h : bnd (acc w) (fun b => if b then A else B) s = some r) : B s = some r := by
  simp only [bnd, SrcN.acc, hb, Bool.false_eq_true, if_false] at h
  exact h
theorem acc_if_yes {α : Type} {w : List Nat} {A B : P α} {s : St} {r : Out α} (hb : isW w s = true) (h : bnd (acc w) (fun b => if b then A else B) s = some r) : A (SrcN.adv s) = some r := by
  simp only [bnd, SrcN.acc, hb, if_true] at h
  exact h
/-- How factor's memory stands: first lies in b5. -/
structure FacI (F : Nat → Prop) (g p : Nat) (W W0 Wx : World) (s : St) : Prop where
  pi : PI (Mine F W W0) g p Wx s
  ke : Keep (Mine F W W0) W0 Wx
set_option maxRecDepth 100000 in
set_option maxHeartbeats 16000000 in
theorem factor_st {F : Nat → Prop} {g p d n : Nat} {W : World} {s : St} (h : PI F g p W s) (hd : d ≤ 40) {rec' : Nat → P Nat} (sub : Part 132 (rec' (d + 1)) [.int .i64 ((d + 1 : Nat) : Int)]) {r : Out Nat} (hr : factor n rec' d s = some r) :
    Calls Tryz.prog 164 #[.pointer (some ⟨p, 0, none⟩), .int .i64 (d : Nat)] W (Ans' F g p vN r W) := by
  have SUBP := Lib.hid sub
  have SUB : Hid (∀ (F : Nat → Prop) (g p : Nat) (W : World) (s : St) (r : Out Nat), PI F g p W s → rec' (d + 1) s = some r → Calls Tryz.prog 132 #[.pointer (some ⟨p, 0, none⟩), .int .i64 ((d + 1 : Nat) : Int)] W (Ans' F g p vN r W)) := sub
  obtain ⟨Q, hQ⟩ : ∃ Q, Q = Ans' F g p vN r W := ⟨_, rfl⟩
  rw [← hQ]
  have HQ := Lib.hid hQ
  have H := Lib.hid h
  obtain ⟨o, len, rc, pv, bv, K, T, NM, AT, hhd, hT, hpc⟩ := h.hd
  obtain ⟨c0, c1, c2, f0, t0, t1, t2, t3, hp, hlen⟩ := hpc
  have hrr : (len : Int) ≠ 0 := by omega
  obtain ⟨W0, hW0⟩ : ∃ W0, W0 = W.alloc (Obj.cells #[.int .i64 (K : Nat), .string (st T), .int .i64 (NM : Nat), .int .i64 (AT : Nat)] 111) := ⟨_, rfl⟩
  obtain ⟨b5, hb5⟩ : ∃ b5, b5 = W.heap.size := ⟨_, rfl⟩
  have hs0 : W0.heap.size = W.heap.size + 1 := by rw [hW0]; simp
  have K0 : Hid (Kp W W0) := by show Kp W W0; rw [hW0]; exact kp_alloc W _
  have B0 : Hid (Blk W0 b5 111 #[.int .i64 (K : Nat), .string (st T), .int .i64 (NM : Nat), .int .i64 (AT : Nat)]) := by show Blk _ _ _ _; rw [hW0, hb5]; exact Blk.new _ _ _
  have MB : Hid (Mine F W W0 b5) := by show Mine _ _ _ _; rw [hb5]; exact .inr ⟨Nat.le_refl _, by omega⟩
  have EB5 := Lib.hid hb5
  have HW0 := Lib.hid hW0; have HHD := Lib.hid hhd
  have HBS : Hid (∀ b, Bs g b → Mine F W W0 b) := fun b hb => .inl (H.out.tok b hb)
  have BAD : Hid (∀ a e W', Keep (Mine F W W0) W0 W' → r = .bad a e → Q (pan a e) W') := by
    intro a e W' hk he
    rw [HQ.out, he]
    exact ⟨rfl, (Kp.keep K0.out H.out.dom).trans (hk.mono (fun k hk => .inl hk))⟩
  have LAST : Hid (∀ e W1 W', Keep (Mine F W W0) W0 W1 → Ans' (Mine F W W0) g p vN r W1 e W' → Q e W') := by
    intro e W1 W' hk hq
    rw [HQ.out]
    cases r with
    | bad a n => exact ⟨hq.1, (Kp.keep K0.out H.out.dom).trans ((hk.trans hq.2).mono (fun k hk => .inl hk))⟩
    | ok i s' =>
      have hb := PI.back H.out K0.out hq.2.1 (hk.trans hq.2.2) (W2 := W') (Nat.le_refl _) ⟨rfl, rfl, rfl⟩ (fun _ _ _ => rfl)
      exact ⟨hq.1, hb.1, hb.2⟩
  have hwn : IntKind.i64.wrap (0 : Int) = 0 := rfl
  clear hQ h hW0 hs0 hlen hT hb5 sub hhd
  unfold factor at hr
  by_cases hK : K = 2
  · have HS : Hid (bnd (take 2) (fun t => node (SrcN.hd s) ⟨1, (t.2.2.1 : Nat), 0, [], []⟩) s = some r) := by
      rw [if_pos (by rw [HHD.out]; exact hK)] at hr
      exact hr
    have P0 := Lib.hid (H.out.fresh K0.out)
    have E0 : Hid (Keep (Mine F W W0) W0 W0) := Keep.refl _ _
    have hKi : ((K : Int) == 2) = true := by rw [hK]; rfl
    clear hr hK
    have RD : Hid (∀ Wd, Wd = World.drew W0 → Kp W0 Wd ∧ Wd.cell? ⟨b5, 0, none⟩ = some (.int .i64 (K : Nat)) ∧ Wd.cell? ⟨b5, 1, none⟩ = some (.string (st T)) ∧ Wd.cell? ⟨b5, 2, none⟩ = some (.int .i64 (NM : Nat)) ∧ Wd.cell? ⟨b5, 3, none⟩ = some (.int .i64 (AT : Nat))) := by
      intro Wd e
      have k : Kp W0 Wd := by rw [e]; exact kp_drew _
      have b := (B0.out.kept E0.out MB.out).keep k
      exact ⟨k, b.cell 0 rfl, b.cell 1 rfl, b.cell 2 rfl, b.cell 3 rfl⟩
    rcases bnd_some HS.out with ⟨a, e, hm, he⟩ | ⟨⟨K', T', NM', AT'⟩, s2, hm, hk2⟩
    · have CX : Hid (∀ Wd, Kp W0 Wd → Calls Tryz.prog 125 #[.pointer (some ⟨p, 0, none⟩), .int .i64 ((2 : Nat) : Int)] Wd (Ans' (Mine F W W0) g p vT (.bad a e) Wd)) := fun Wd k => take_st (P0.out.kp k) (by decide : (2 : Nat) ≠ 5) hm
      have HE := Lib.hid he
      clear hm he
      go_enter Tryz.func164, Tryz.ntmps164
      go_upto_region 3 with fail
      rw [← HW0.out, ← EB5.out]
      clear c0 c1 c2 f0 t0 t1 t2 t3
      obtain ⟨Wd, hWd⟩ : ∃ Wd, Wd = World.drew W0 := ⟨_, rfl⟩
      obtain ⟨KWd, q0, q1, q2, q3⟩ := RD.out Wd hWd
      refine wp_region_held_drew (S := (fun w' => w'.cell? ⟨b5, 0, none⟩ = some (.int .i64 (K : Nat)) ∧ w'.cell? ⟨b5, 1, none⟩ = some (.string (st T)) ∧ w'.cell? ⟨b5, 2, none⟩ = some (.int .i64 (NM : Nat)) ∧ w'.cell? ⟨b5, 3, none⟩ = some (.int .i64 (AT : Nat)))) (by kernel_rfl) ?_ (fun hHeld => ?_)
      · rw [← hWd]; exact ⟨q0, q1, q2, q3⟩
      rw [← hWd] at hHeld ⊢
      clear hWd
      refine wpAnyH_take (i := 0) (v := (.pointer (some ⟨p, 0, none⟩))) rfl (by kernel_rfl) (by kernel_rfl) (by kernel_rfl) (fun _ _ _ h => h) (Or.inl ⟨by rfl, ?_⟩) (by assumption) ?_
      · (intro wq hSw; obtain ⟨s0, s1, s2, s3⟩ := hSw; go_simp; try exact hwn)
      try simp only [Act.put, List.setIfInBounds_toArray, List.set_cons_zero, List.set_cons_succ]
      refine wpAnyH_take (i := 1) (v := (.agg #[.int .i64 (K : Nat), .string (st T), .int .i64 (NM : Nat), .int .i64 (AT : Nat)])) rfl (by kernel_rfl) (by kernel_rfl) (by kernel_rfl) (fun _ _ _ h => h) (Or.inl ⟨by rfl, ?_⟩) (by assumption) ?_
      · (intro wq hSw; obtain ⟨s0, s1, s2, s3⟩ := hSw; go_simp; try exact hwn)
      try simp only [Act.put, List.setIfInBounds_toArray, List.set_cons_zero, List.set_cons_succ]
      refine wpAnyH_take (i := 2) (v := (.pointer (some ⟨p, 0, none⟩))) rfl (by kernel_rfl) (by kernel_rfl) (by kernel_rfl) (fun _ _ _ h => h) (Or.inl ⟨by rfl, ?_⟩) (by assumption) ?_
      · (intro wq hSw; obtain ⟨s0, s1, s2, s3⟩ := hSw; go_simp; try exact hwn)
      try simp only [Act.put, List.setIfInBounds_toArray, List.set_cons_zero, List.set_cons_succ]
      clear hHeld
      refine wpAnyH_ready (rs := [3]) (by kernel_rfl) (by simp) (AllReadyH.cons rfl (fun KK hK => ?_) AllReadyH.nil)
      go_simp
      go_at_call 125
      refine (CX.out Wd KWd).mono ?_
      rintro e1 W5 ⟨rfl, hk5⟩
      exact ⟨rfl, BAD.out _ _ _ (E0.out.trans ((Kp.keep KWd P0.out.dom).trans hk5)) HE.out⟩
    · have CX : Hid (∀ Wd, Kp W0 Wd → Calls Tryz.prog 125 #[.pointer (some ⟨p, 0, none⟩), .int .i64 ((2 : Nat) : Int)] Wd (Ans' (Mine F W W0) g p vT (.ok (K', T', NM', AT') s2) Wd)) := fun Wd k => take_st (P0.out.kp k) (by decide : (2 : Nat) ≠ 5) hm
      have HN : Hid (node (K, T, NM, AT) ⟨1, ((NM' : Nat) : Int), 0, [], []⟩ s2 = some r) := by rw [← HHD.out]; exact hk2
      clear hm hk2
      go_enter Tryz.func164, Tryz.ntmps164
      go_upto_region 3 with fail
      rw [← HW0.out, ← EB5.out]
      clear c0 c1 c2 f0 t0 t1 t2 t3
      obtain ⟨Wd, hWd⟩ : ∃ Wd, Wd = World.drew W0 := ⟨_, rfl⟩
      obtain ⟨KWd, q0, q1, q2, q3⟩ := RD.out Wd hWd
      refine wp_region_held_drew (S := (fun w' => w'.cell? ⟨b5, 0, none⟩ = some (.int .i64 (K : Nat)) ∧ w'.cell? ⟨b5, 1, none⟩ = some (.string (st T)) ∧ w'.cell? ⟨b5, 2, none⟩ = some (.int .i64 (NM : Nat)) ∧ w'.cell? ⟨b5, 3, none⟩ = some (.int .i64 (AT : Nat)))) (by kernel_rfl) ?_ (fun hHeld => ?_)
      · rw [← hWd]; exact ⟨q0, q1, q2, q3⟩
      rw [← hWd] at hHeld ⊢
      clear hWd
      refine wpAnyH_take (i := 0) (v := (.pointer (some ⟨p, 0, none⟩))) rfl (by kernel_rfl) (by kernel_rfl) (by kernel_rfl) (fun _ _ _ h => h) (Or.inl ⟨by rfl, ?_⟩) (by assumption) ?_
      · (intro wq hSw; obtain ⟨s0, s1, s2, s3⟩ := hSw; go_simp; try exact hwn)
      try simp only [Act.put, List.setIfInBounds_toArray, List.set_cons_zero, List.set_cons_succ]
      refine wpAnyH_take (i := 1) (v := (.agg #[.int .i64 (K : Nat), .string (st T), .int .i64 (NM : Nat), .int .i64 (AT : Nat)])) rfl (by kernel_rfl) (by kernel_rfl) (by kernel_rfl) (fun _ _ _ h => h) (Or.inl ⟨by rfl, ?_⟩) (by assumption) ?_
      · (intro wq hSw; obtain ⟨s0, s1, s2, s3⟩ := hSw; go_simp; try exact hwn)
      try simp only [Act.put, List.setIfInBounds_toArray, List.set_cons_zero, List.set_cons_succ]
      refine wpAnyH_take (i := 2) (v := (.pointer (some ⟨p, 0, none⟩))) rfl (by kernel_rfl) (by kernel_rfl) (by kernel_rfl) (fun _ _ _ h => h) (Or.inl ⟨by rfl, ?_⟩) (by assumption) ?_
      · (intro wq hSw; obtain ⟨s0, s1, s2, s3⟩ := hSw; go_simp; try exact hwn)
      try simp only [Act.put, List.setIfInBounds_toArray, List.set_cons_zero, List.set_cons_succ]
      clear hHeld
      refine wpAnyH_ready (rs := [3]) (by kernel_rfl) (by simp) (AllReadyH.cons rfl (fun KK hK => ?_) AllReadyH.nil)
      go_simp
      go_at_call 125
      refine (CX.out Wd KWd).mono ?_
      rintro e1 W5 ⟨⟨v5, rfl, rfl, hT5⟩, hpi5, hke5⟩
      have ke5 := E0.out.trans ((Kp.keep KWd P0.out.dom).trans hke5)
      have b5k := B0.out.kept ke5 MB.out
      have y0 := b5k.cell 0 rfl; have y1 := b5k.cell 1 rfl; have y2 := b5k.cell 2 rfl; have y3 := b5k.cell 3 rfl
      have BQ := Lib.hid b5k
      have CN := node_st (F := Mine F W W0) hpi5 (fun k hk => hk) HBS.out (t := (K, T, NM, AT)) (T := st T) (nd := ⟨1, ((NM' : Nat) : Int), 0, [], []⟩) (Ints.nil _ _) HN.out
      have FN6 : Hid (∀ e W', Ans' (Mine F W W0) g p vN r W5 e W' → Q e W') := fun e W' hq => LAST.out e W5 W' ke5 hq
      have hf2 := fun w => fld2 (K' : Nat) (NM' : Nat) (AT' : Nat) (st T') w
      clear hpi5 hke5 b5k hT5
      go_wp2_with fail
      refine hK.out _ _ ⟨y0, y1, y2, y3⟩ (fun hHeld => ?_)
      clear hK KK
      try simp only [Act.put, List.setIfInBounds_toArray, List.set_cons_zero, List.set_cons_succ]
      refine wpAnyH_take (i := 4) (v := (.int .i64 (NM' : Nat))) rfl (by kernel_rfl) (by kernel_rfl) (by kernel_rfl) (fun _ _ _ h => h) (Or.inl ⟨by rfl, ?_⟩) (by assumption) ?_
      · (intro wq hSw; obtain ⟨s0, s1, s2, s3⟩ := hSw; go_simp; try exact hwn)
      try simp only [Act.put, List.setIfInBounds_toArray, List.set_cons_zero, List.set_cons_succ]
      refine wpAnyH_take (i := 5) (v := (.agg #[.int .i64 1, .int .i64 (NM' : Nat), .int .i64 0, .string ⟨#[]⟩, .slice none 0 0])) rfl (by kernel_rfl) (by kernel_rfl) (by kernel_rfl) (fun _ _ _ h => h) (Or.inl ⟨by rfl, ?_⟩) (by assumption) ?_
      · (intro wq hSw; obtain ⟨s0, s1, s2, s3⟩ := hSw; go_simp; try exact hwn)
      try simp only [Act.put, List.setIfInBounds_toArray, List.set_cons_zero, List.set_cons_succ]
      clear hHeld
      refine wpAnyH_ready (rs := [6]) (by kernel_rfl) (by simp) (AllReadyH.cons rfl (fun KK hK => ?_) AllReadyH.nil)
      go_simp
      go_at_call 157
      refine CN.mono ?_
      intro e6 W6 hq
      have hq2 := FN6.out e6 W6 hq
      cases r with
      | bad a e =>
        obtain ⟨rfl, hk⟩ := hq
        exact ⟨rfl, hq2⟩
      | ok i s6 =>
        have y := hq.2.2
        obtain ⟨⟨v, rfl, rfl⟩, -, -⟩ := hq
        have bz := BQ.out.kept y MB.out
        have z0 := bz.cell 0 rfl; have z1 := bz.cell 1 rfl; have z2 := bz.cell 2 rfl; have z3 := bz.cell 3 rfl
        have F2 := Lib.hid hq2
        clear hq2 bz y
        go_wp2_with fail
        refine hK.out _ _ ⟨z0, z1, z2, z3⟩ (fun hHeld => ?_)
        clear hK KK
        try simp only [Act.put, List.setIfInBounds_toArray, List.set_cons_zero, List.set_cons_succ]
        clear hHeld
        refine wpAnyH_ready (rs := [7]) (by kernel_rfl) (by simp) (AllReadyH.cons rfl (fun KK hK => ?_) AllReadyH.nil)
        go_simp
        refine hK.out _ _ ⟨z0, z1, z2, z3⟩ (fun hHeld => ?_)
        clear hK KK
        try simp only [Act.put, List.setIfInBounds_toArray, List.set_cons_zero, List.set_cons_succ]
        clear hHeld
        refine wpAnyH_done (by kernel_rfl) ?_ _
        clear z0 z1 z2 z3
        go_wp2_with fail
        first | exact F2.out | (go_ret3; exact F2.out) | (go_ret; exact F2.out)
  · have HS : Hid (True) := trivial
    rw [if_neg (by rw [HHD.out]; exact hK)] at hr
    have hKi : ((K : Int) == 2) = false := beq_eq_false_iff_ne.2 (by omega)
    have P0 := Lib.hid (H.out.fresh K0.out)
    have E0 : Hid (Keep (Mine F W W0) W0 W0) := Keep.refl _ _
    have H0 := Lib.hid hr
    clear hr
    go_enter Tryz.func164, Tryz.ntmps164
    have C := Lib.hid (accept_st P0.out (X := ⟨#[45]⟩) (w := [45]) rfl (lt_mem (by decide)) (by decide))
    cases hb1 : isW [45] s with
    | true =>
      rw [hb1, if_pos rfl] at C
      have HY := Lib.hid (acc_if_yes hb1 H0.out)
      clear hb1
      go_wp2_with fail
      rw [← HW0.out, ← EB5.out]
      clear c0 c1 c2 f0 t0 t1 t2 t3
      refine C.out.mono ?_
      intro e W1 hs1
      obtain rfl := hs1.e
      have P1 := Lib.hid hs1.pi; have E1 := Lib.hid (E0.out.trans hs1.kp)
      clear hs1 C
      have RD : Hid (∀ Wd, Wd = World.drew W1 → Kp W1 Wd ∧ Wd.cell? ⟨b5, 0, none⟩ = some (.int .i64 (K : Nat)) ∧ Wd.cell? ⟨b5, 1, none⟩ = some (.string (st T)) ∧ Wd.cell? ⟨b5, 2, none⟩ = some (.int .i64 (NM : Nat)) ∧ Wd.cell? ⟨b5, 3, none⟩ = some (.int .i64 (AT : Nat))) := by
        intro Wd e
        have k : Kp W1 Wd := by rw [e]; exact kp_drew _
        have b := (B0.out.kept E1.out MB.out).keep k
        exact ⟨k, b.cell 0 rfl, b.cell 1 rfl, b.cell 2 rfl, b.cell 3 rfl⟩
      rcases bnd_some HY.out with ⟨a, e, hm, he⟩ | ⟨⟨K', T', NM', AT'⟩, s2, hm, hk2⟩
      · have CX : Hid (∀ Wd, Kp W1 Wd → Calls Tryz.prog 125 #[.pointer (some ⟨p, 0, none⟩), .int .i64 ((2 : Nat) : Int)] Wd (Ans' (Mine F W W0) g p vT (.bad a e) Wd)) := fun Wd k => take_st (P1.out.kp k) (by decide : (2 : Nat) ≠ 5) hm
        have HE := Lib.hid he
        clear hm he
        go_upto_region 5 with fail
        obtain ⟨Wd, hWd⟩ : ∃ Wd, Wd = World.drew W1 := ⟨_, rfl⟩
        obtain ⟨KWd, q0, q1, q2, q3⟩ := RD.out Wd hWd
        refine wp_region_held_drew (S := (fun w' => w'.cell? ⟨b5, 0, none⟩ = some (.int .i64 (K : Nat)) ∧ w'.cell? ⟨b5, 1, none⟩ = some (.string (st T)) ∧ w'.cell? ⟨b5, 2, none⟩ = some (.int .i64 (NM : Nat)) ∧ w'.cell? ⟨b5, 3, none⟩ = some (.int .i64 (AT : Nat)))) (by kernel_rfl) ?_ (fun hHeld => ?_)
        · rw [← hWd]; exact ⟨q0, q1, q2, q3⟩
        rw [← hWd] at hHeld ⊢
        clear hWd
        refine wpAnyH_take (i := 0) (v := (.pointer (some ⟨p, 0, none⟩))) rfl (by kernel_rfl) (by kernel_rfl) (by kernel_rfl) (fun _ _ _ h => h) (Or.inl ⟨by rfl, ?_⟩) (by assumption) ?_
        · (intro wq hSw; obtain ⟨s0, s1, s2, s3⟩ := hSw; go_simp; try exact hwn)
        try simp only [Act.put, List.setIfInBounds_toArray, List.set_cons_zero, List.set_cons_succ]
        refine wpAnyH_take (i := 1) (v := (.agg #[.int .i64 (K : Nat), .string (st T), .int .i64 (NM : Nat), .int .i64 (AT : Nat)])) rfl (by kernel_rfl) (by kernel_rfl) (by kernel_rfl) (fun _ _ _ h => h) (Or.inl ⟨by rfl, ?_⟩) (by assumption) ?_
        · (intro wq hSw; obtain ⟨s0, s1, s2, s3⟩ := hSw; go_simp; try exact hwn)
        try simp only [Act.put, List.setIfInBounds_toArray, List.set_cons_zero, List.set_cons_succ]
        refine wpAnyH_take (i := 2) (v := (.pointer (some ⟨p, 0, none⟩))) rfl (by kernel_rfl) (by kernel_rfl) (by kernel_rfl) (fun _ _ _ h => h) (Or.inl ⟨by rfl, ?_⟩) (by assumption) ?_
        · (intro wq hSw; obtain ⟨s0, s1, s2, s3⟩ := hSw; go_simp; try exact hwn)
        try simp only [Act.put, List.setIfInBounds_toArray, List.set_cons_zero, List.set_cons_succ]
        clear hHeld
        refine wpAnyH_ready (rs := [3]) (by kernel_rfl) (by simp) (AllReadyH.cons rfl (fun KK hK => ?_) AllReadyH.nil)
        go_simp
        go_at_call 125
        refine (CX.out Wd KWd).mono ?_
        rintro e1 W5 ⟨rfl, hk5⟩
        exact ⟨rfl, BAD.out _ _ _ (E1.out.trans ((Kp.keep KWd P1.out.dom).trans hk5)) HE.out⟩
      · have CX : Hid (∀ Wd, Kp W1 Wd → Calls Tryz.prog 125 #[.pointer (some ⟨p, 0, none⟩), .int .i64 ((2 : Nat) : Int)] Wd (Ans' (Mine F W W0) g p vT (.ok (K', T', NM', AT') s2) Wd)) := fun Wd k => take_st (P1.out.kp k) (by decide : (2 : Nat) ≠ 5) hm
        have HN : Hid (node (K, T, NM, AT) ⟨1, (-(NM' : Nat) : Int), 0, [], []⟩ s2 = some r) := by rw [← HHD.out]; exact hk2
        clear hm hk2
        go_upto_region 5 with fail
        obtain ⟨Wd, hWd⟩ : ∃ Wd, Wd = World.drew W1 := ⟨_, rfl⟩
        obtain ⟨KWd, q0, q1, q2, q3⟩ := RD.out Wd hWd
        refine wp_region_held_drew (S := (fun w' => w'.cell? ⟨b5, 0, none⟩ = some (.int .i64 (K : Nat)) ∧ w'.cell? ⟨b5, 1, none⟩ = some (.string (st T)) ∧ w'.cell? ⟨b5, 2, none⟩ = some (.int .i64 (NM : Nat)) ∧ w'.cell? ⟨b5, 3, none⟩ = some (.int .i64 (AT : Nat)))) (by kernel_rfl) ?_ (fun hHeld => ?_)
        · rw [← hWd]; exact ⟨q0, q1, q2, q3⟩
        rw [← hWd] at hHeld ⊢
        clear hWd
        refine wpAnyH_take (i := 0) (v := (.pointer (some ⟨p, 0, none⟩))) rfl (by kernel_rfl) (by kernel_rfl) (by kernel_rfl) (fun _ _ _ h => h) (Or.inl ⟨by rfl, ?_⟩) (by assumption) ?_
        · (intro wq hSw; obtain ⟨s0, s1, s2, s3⟩ := hSw; go_simp; try exact hwn)
        try simp only [Act.put, List.setIfInBounds_toArray, List.set_cons_zero, List.set_cons_succ]
        refine wpAnyH_take (i := 1) (v := (.agg #[.int .i64 (K : Nat), .string (st T), .int .i64 (NM : Nat), .int .i64 (AT : Nat)])) rfl (by kernel_rfl) (by kernel_rfl) (by kernel_rfl) (fun _ _ _ h => h) (Or.inl ⟨by rfl, ?_⟩) (by assumption) ?_
        · (intro wq hSw; obtain ⟨s0, s1, s2, s3⟩ := hSw; go_simp; try exact hwn)
        try simp only [Act.put, List.setIfInBounds_toArray, List.set_cons_zero, List.set_cons_succ]
        refine wpAnyH_take (i := 2) (v := (.pointer (some ⟨p, 0, none⟩))) rfl (by kernel_rfl) (by kernel_rfl) (by kernel_rfl) (fun _ _ _ h => h) (Or.inl ⟨by rfl, ?_⟩) (by assumption) ?_
        · (intro wq hSw; obtain ⟨s0, s1, s2, s3⟩ := hSw; go_simp; try exact hwn)
        try simp only [Act.put, List.setIfInBounds_toArray, List.set_cons_zero, List.set_cons_succ]
        clear hHeld
        refine wpAnyH_ready (rs := [3]) (by kernel_rfl) (by simp) (AllReadyH.cons rfl (fun KK hK => ?_) AllReadyH.nil)
        go_simp
        go_at_call 125
        refine (CX.out Wd KWd).mono ?_
        rintro e1 W5 ⟨⟨v5, rfl, rfl, hT5⟩, hpi5, hke5⟩
        have ke5 := E1.out.trans ((Kp.keep KWd P1.out.dom).trans hke5)
        have b5k := B0.out.kept ke5 MB.out
        have y0 := b5k.cell 0 rfl; have y1 := b5k.cell 1 rfl; have y2 := b5k.cell 2 rfl; have y3 := b5k.cell 3 rfl
        have BQ := Lib.hid b5k
        have CN := node_st (F := Mine F W W0) hpi5 (fun k hk => hk) HBS.out (t := (K, T, NM, AT)) (T := st T) (nd := ⟨1, (-(NM' : Nat) : Int), 0, [], []⟩) (Ints.nil _ _) HN.out
        have FN6 : Hid (∀ e W', Ans' (Mine F W W0) g p vN r W5 e W' → Q e W') := fun e W' hq => LAST.out e W5 W' ke5 hq
        have hf2 := fun w => fld2 (K' : Nat) (NM' : Nat) (AT' : Nat) (st T') w
        have hwn : IntKind.i64.wrap (-(NM' : Int)) = -(NM' : Int) := Go.IntWalk.i64_in _ (by have h1 : NM' ≤ 9007199254740992 := hT5.2.2.2.1; omega)
        clear hpi5 hke5 b5k hT5
        go_wp2_with fail
        refine hK.out _ _ ⟨y0, y1, y2, y3⟩ (fun hHeld => ?_)
        clear hK KK
        try simp only [Act.put, List.setIfInBounds_toArray, List.set_cons_zero, List.set_cons_succ]
        refine wpAnyH_take (i := 4) (v := (.int .i64 (NM' : Nat))) rfl (by kernel_rfl) (by kernel_rfl) (by kernel_rfl) (fun _ _ _ h => h) (Or.inl ⟨by rfl, ?_⟩) (by assumption) ?_
        · (intro wq hSw; obtain ⟨s0, s1, s2, s3⟩ := hSw; go_simp; try exact hwn)
        try simp only [Act.put, List.setIfInBounds_toArray, List.set_cons_zero, List.set_cons_succ]
        refine wpAnyH_take (i := 5) (v := (.int .i64 (-(NM' : Int)))) rfl (by kernel_rfl) (by kernel_rfl) (by kernel_rfl) (fun _ _ _ h => h) (Or.inl ⟨by rfl, ?_⟩) (by assumption) ?_
        · (intro wq hSw; obtain ⟨s0, s1, s2, s3⟩ := hSw; go_simp; try exact hwn)
        try simp only [Act.put, List.setIfInBounds_toArray, List.set_cons_zero, List.set_cons_succ]
        refine wpAnyH_take (i := 6) (v := (.agg #[.int .i64 1, .int .i64 (-(NM' : Int)), .int .i64 0, .string ⟨#[]⟩, .slice none 0 0])) rfl (by kernel_rfl) (by kernel_rfl) (by kernel_rfl) (fun _ _ _ h => h) (Or.inl ⟨by rfl, ?_⟩) (by assumption) ?_
        · (intro wq hSw; obtain ⟨s0, s1, s2, s3⟩ := hSw; go_simp; try exact hwn)
        try simp only [Act.put, List.setIfInBounds_toArray, List.set_cons_zero, List.set_cons_succ]
        clear hHeld
        refine wpAnyH_ready (rs := [7]) (by kernel_rfl) (by simp) (AllReadyH.cons rfl (fun KK hK => ?_) AllReadyH.nil)
        go_simp
        go_at_call 157
        refine CN.mono ?_
        intro e6 W6 hq
        have hq2 := FN6.out e6 W6 hq
        cases r with
        | bad a e =>
          obtain ⟨rfl, hk⟩ := hq
          exact ⟨rfl, hq2⟩
        | ok i s6 =>
          have y := hq.2.2
          obtain ⟨⟨v, rfl, rfl⟩, -, -⟩ := hq
          have bz := BQ.out.kept y MB.out
          have z0 := bz.cell 0 rfl; have z1 := bz.cell 1 rfl; have z2 := bz.cell 2 rfl; have z3 := bz.cell 3 rfl
          have F2 := Lib.hid hq2
          clear hq2 bz y
          go_wp2_with fail
          refine hK.out _ _ ⟨z0, z1, z2, z3⟩ (fun hHeld => ?_)
          clear hK KK
          try simp only [Act.put, List.setIfInBounds_toArray, List.set_cons_zero, List.set_cons_succ]
          clear hHeld
          refine wpAnyH_ready (rs := [8]) (by kernel_rfl) (by simp) (AllReadyH.cons rfl (fun KK hK => ?_) AllReadyH.nil)
          go_simp
          refine hK.out _ _ ⟨z0, z1, z2, z3⟩ (fun hHeld => ?_)
          clear hK KK
          try simp only [Act.put, List.setIfInBounds_toArray, List.set_cons_zero, List.set_cons_succ]
          clear hHeld
          refine wpAnyH_done (by kernel_rfl) ?_ _
          clear z0 z1 z2 z3
          go_wp2_with fail
          first | exact F2.out | (go_ret3; exact F2.out) | (go_ret; exact F2.out)
    | false =>
      rw [hb1, if_neg (by simp)] at C
      have H1 := Lib.hid (acc_if_no hb1 H0.out)
      clear hb1
      go_wp2_with fail
      rw [← HW0.out, ← EB5.out]
      clear c0 c1 c2 f0 t0 t1 t2 t3
      refine C.out.mono ?_
      intro e W1 hs1
      obtain rfl := hs1.e
      have P1 := Lib.hid hs1.pi; have E1 := Lib.hid (E0.out.trans hs1.kp)
      clear hs1 C
      have C := Lib.hid (accept_st P1.out (X := ⟨#[40]⟩) (w := [40]) rfl (lt_mem (by decide)) (by decide))
      cases hb2 : isW [40] s with
      | true =>
        rw [hb2, if_pos rfl] at C
        have HY := Lib.hid (acc_if_yes hb2 H1.out)
        clear hb2
        go_wp2_with fail
        refine C.out.mono ?_
        intro e W1 hs1
        obtain rfl := hs1.e
        have P1 := Lib.hid hs1.pi; have E1 := Lib.hid (E1.out.trans hs1.kp)
        clear hs1 C
        rcases bnd_some HY.out with ⟨a, e, hm, he⟩ | ⟨i, s2, hm, hk2⟩
        · have C := Lib.hid (SUB.out _ _ _ _ _ _ P1.out hm)
          have HE := Lib.hid he
          clear hm he
          go_wp2_with fail
          refine C.out.mono ?_
          rintro e1 W2 ⟨rfl, hk⟩
          exact ⟨rfl, BAD.out _ _ _ (E1.out.trans hk) HE.out⟩
        · have C := Lib.hid (SUB.out _ _ _ _ _ _ P1.out hm)
          have HK2 := Lib.hid hk2
          clear hm hk2
          go_wp2_with fail
          refine C.out.mono ?_
          rintro e1 W2 ⟨⟨v, rfl, rfl⟩, hpi, hke⟩
          have P2 := Lib.hid hpi; have E2 := Lib.hid (E1.out.trans hke)
          clear hpi hke C
          rcases bnd_some HK2.out with ⟨a, e, hm, he⟩ | ⟨_, s3, hm, hk3⟩
          · have C := Lib.hid (expect_st P2.out (X := ⟨#[41]⟩) (w := [41]) rfl (lt_mem (by decide)) (by decide) hm)
            have HE := Lib.hid he
            clear hm he
            go_wp2_with fail
            refine C.out.mono ?_
            rintro e1 W3 ⟨rfl, hk⟩
            exact ⟨rfl, BAD.out _ _ _ (E2.out.trans hk) HE.out⟩
          · have C := Lib.hid (expect_st P2.out (X := ⟨#[41]⟩) (w := [41]) rfl (lt_mem (by decide)) (by decide) hm)
            have HK3 := Lib.hid hk3
            clear hm hk3
            go_wp2_with fail
            refine C.out.mono ?_
            rintro e1 W3 ⟨⟨v, rfl, rfl⟩, hpi, hke⟩
            have F2 : Hid (Q (.returned (.int .i64 (i : Nat))) W3) := by
              have hk := HK3.out
              unfold ret at hk
              injection hk with hk
              exact LAST.out _ W3 W3 (E2.out.trans hke) (by rw [← hk]; exact ⟨⟨_, rfl, rfl⟩, hpi, Keep.refl _ _⟩)
            clear hpi hke
            go_wp2_with fail
            first | exact F2.out | (go_ret3; exact F2.out) | (go_ret; exact F2.out)
      | false =>
        rw [hb2, if_neg (by simp)] at C
        have H2 := Lib.hid (acc_if_no hb2 H1.out)
        clear hb2
        go_wp2_with fail
        refine C.out.mono ?_
        intro e W2 hs1
        obtain rfl := hs1.e
        have P2 := Lib.hid hs1.pi; have E2 := Lib.hid (E1.out.trans hs1.kp)
        clear hs1 C
        have C := Lib.hid (accept_st P2.out (X := ⟨#[114, 101, 97, 100]⟩) (w := [114, 101, 97, 100]) rfl (lt_mem (by decide)) (by decide))
        cases hb3 : isW [114, 101, 97, 100] s with
        | true =>
          rw [hb3, if_pos rfl] at C
          have HY := Lib.hid (acc_if_yes hb3 H2.out)
          clear hb3
          go_wp2_with fail
          refine C.out.mono ?_
          intro e W1 hs1
          obtain rfl := hs1.e
          have P1 := Lib.hid hs1.pi; have E1 := Lib.hid (E2.out.trans hs1.kp)
          clear hs1 C
          have RD : Hid (∀ Wd, Wd = World.drew W1 → Kp W1 Wd ∧ Wd.cell? ⟨b5, 0, none⟩ = some (.int .i64 (K : Nat)) ∧ Wd.cell? ⟨b5, 1, none⟩ = some (.string (st T)) ∧ Wd.cell? ⟨b5, 2, none⟩ = some (.int .i64 (NM : Nat)) ∧ Wd.cell? ⟨b5, 3, none⟩ = some (.int .i64 (AT : Nat))) := by
            intro Wd e
            have k : Kp W1 Wd := by rw [e]; exact kp_drew _
            have b := (B0.out.kept E1.out MB.out).keep k
            exact ⟨k, b.cell 0 rfl, b.cell 1 rfl, b.cell 2 rfl, b.cell 3 rfl⟩
          rcases bnd_some HY.out with ⟨a, e, hm, he⟩ | ⟨x, s2, hm, hk2⟩
          · have CX : Hid (∀ Wd, Kp W1 Wd → Calls Tryz.prog 172 #[.pointer (some ⟨p, 0, none⟩), .int .i64 (d : Nat)] Wd (AnsX (Mine F W W0) g p (.bad a e) Wd)) := fun Wd k => read_st (P1.out.kp k) hd SUBP.out hm
            have HE := Lib.hid he
            clear hm he
            go_upto_region 11 with fail
            obtain ⟨Wd, hWd⟩ : ∃ Wd, Wd = World.drew W1 := ⟨_, rfl⟩
            obtain ⟨KWd, q0, q1, q2, q3⟩ := RD.out Wd hWd
            refine wp_region_held_drew (S := (fun w' => w'.cell? ⟨b5, 0, none⟩ = some (.int .i64 (K : Nat)) ∧ w'.cell? ⟨b5, 1, none⟩ = some (.string (st T)) ∧ w'.cell? ⟨b5, 2, none⟩ = some (.int .i64 (NM : Nat)) ∧ w'.cell? ⟨b5, 3, none⟩ = some (.int .i64 (AT : Nat)))) (by kernel_rfl) ?_ (fun hHeld => ?_)
            · rw [← hWd]; exact ⟨q0, q1, q2, q3⟩
            rw [← hWd] at hHeld ⊢
            clear hWd
            refine wpAnyH_take (i := 0) (v := (.pointer (some ⟨p, 0, none⟩))) rfl (by kernel_rfl) (by kernel_rfl) (by kernel_rfl) (fun _ _ _ h => h) (Or.inl ⟨by rfl, ?_⟩) (by assumption) ?_
            · (intro wq hSw; obtain ⟨s0, s1, s2, s3⟩ := hSw; go_simp; try exact hwn)
            try simp only [Act.put, List.setIfInBounds_toArray, List.set_cons_zero, List.set_cons_succ]
            refine wpAnyH_take (i := 1) (v := (.agg #[.int .i64 (K : Nat), .string (st T), .int .i64 (NM : Nat), .int .i64 (AT : Nat)])) rfl (by kernel_rfl) (by kernel_rfl) (by kernel_rfl) (fun _ _ _ h => h) (Or.inl ⟨by rfl, ?_⟩) (by assumption) ?_
            · (intro wq hSw; obtain ⟨s0, s1, s2, s3⟩ := hSw; go_simp; try exact hwn)
            try simp only [Act.put, List.setIfInBounds_toArray, List.set_cons_zero, List.set_cons_succ]
            refine wpAnyH_take (i := 2) (v := (.pointer (some ⟨p, 0, none⟩))) rfl (by kernel_rfl) (by kernel_rfl) (by kernel_rfl) (fun _ _ _ h => h) (Or.inl ⟨by rfl, ?_⟩) (by assumption) ?_
            · (intro wq hSw; obtain ⟨s0, s1, s2, s3⟩ := hSw; go_simp; try exact hwn)
            try simp only [Act.put, List.setIfInBounds_toArray, List.set_cons_zero, List.set_cons_succ]
            refine wpAnyH_take (i := 3) (v := (.int .i64 (d : Nat))) rfl (by kernel_rfl) (by kernel_rfl) (by kernel_rfl) (fun _ _ _ h => h) (Or.inl ⟨by rfl, ?_⟩) (by assumption) ?_
            · (intro wq hSw; obtain ⟨s0, s1, s2, s3⟩ := hSw; go_simp; try exact hwn)
            try simp only [Act.put, List.setIfInBounds_toArray, List.set_cons_zero, List.set_cons_succ]
            clear hHeld
            refine wpAnyH_ready (rs := [4]) (by kernel_rfl) (by simp) (AllReadyH.cons rfl (fun KK hK => ?_) AllReadyH.nil)
            go_simp
            go_at_call 172
            refine (CX.out Wd KWd).mono ?_
            rintro e1 W5 ⟨rfl, hk5⟩
            exact ⟨rfl, BAD.out _ _ _ (E1.out.trans ((Kp.keep KWd P1.out.dom).trans hk5)) HE.out⟩
          · have CX : Hid (∀ Wd, Kp W1 Wd → Calls Tryz.prog 172 #[.pointer (some ⟨p, 0, none⟩), .int .i64 (d : Nat)] Wd (AnsX (Mine F W W0) g p (.ok x s2) Wd)) := fun Wd k => read_st (P1.out.kp k) hd SUBP.out hm
            have HN : Hid (node (K, T, NM, AT) x s2 = some r) := by rw [← HHD.out]; exact hk2
            clear hm hk2
            go_upto_region 11 with fail
            obtain ⟨Wd, hWd⟩ : ∃ Wd, Wd = World.drew W1 := ⟨_, rfl⟩
            obtain ⟨KWd, q0, q1, q2, q3⟩ := RD.out Wd hWd
            refine wp_region_held_drew (S := (fun w' => w'.cell? ⟨b5, 0, none⟩ = some (.int .i64 (K : Nat)) ∧ w'.cell? ⟨b5, 1, none⟩ = some (.string (st T)) ∧ w'.cell? ⟨b5, 2, none⟩ = some (.int .i64 (NM : Nat)) ∧ w'.cell? ⟨b5, 3, none⟩ = some (.int .i64 (AT : Nat)))) (by kernel_rfl) ?_ (fun hHeld => ?_)
            · rw [← hWd]; exact ⟨q0, q1, q2, q3⟩
            rw [← hWd] at hHeld ⊢
            clear hWd
            refine wpAnyH_take (i := 0) (v := (.pointer (some ⟨p, 0, none⟩))) rfl (by kernel_rfl) (by kernel_rfl) (by kernel_rfl) (fun _ _ _ h => h) (Or.inl ⟨by rfl, ?_⟩) (by assumption) ?_
            · (intro wq hSw; obtain ⟨s0, s1, s2, s3⟩ := hSw; go_simp; try exact hwn)
            try simp only [Act.put, List.setIfInBounds_toArray, List.set_cons_zero, List.set_cons_succ]
            refine wpAnyH_take (i := 1) (v := (.agg #[.int .i64 (K : Nat), .string (st T), .int .i64 (NM : Nat), .int .i64 (AT : Nat)])) rfl (by kernel_rfl) (by kernel_rfl) (by kernel_rfl) (fun _ _ _ h => h) (Or.inl ⟨by rfl, ?_⟩) (by assumption) ?_
            · (intro wq hSw; obtain ⟨s0, s1, s2, s3⟩ := hSw; go_simp; try exact hwn)
            try simp only [Act.put, List.setIfInBounds_toArray, List.set_cons_zero, List.set_cons_succ]
            refine wpAnyH_take (i := 2) (v := (.pointer (some ⟨p, 0, none⟩))) rfl (by kernel_rfl) (by kernel_rfl) (by kernel_rfl) (fun _ _ _ h => h) (Or.inl ⟨by rfl, ?_⟩) (by assumption) ?_
            · (intro wq hSw; obtain ⟨s0, s1, s2, s3⟩ := hSw; go_simp; try exact hwn)
            try simp only [Act.put, List.setIfInBounds_toArray, List.set_cons_zero, List.set_cons_succ]
            refine wpAnyH_take (i := 3) (v := (.int .i64 (d : Nat))) rfl (by kernel_rfl) (by kernel_rfl) (by kernel_rfl) (fun _ _ _ h => h) (Or.inl ⟨by rfl, ?_⟩) (by assumption) ?_
            · (intro wq hSw; obtain ⟨s0, s1, s2, s3⟩ := hSw; go_simp; try exact hwn)
            try simp only [Act.put, List.setIfInBounds_toArray, List.set_cons_zero, List.set_cons_succ]
            clear hHeld
            refine wpAnyH_ready (rs := [4]) (by kernel_rfl) (by simp) (AllReadyH.cons rfl (fun KK hK => ?_) AllReadyH.nil)
            go_simp
            go_at_call 172
            refine (CX.out Wd KWd).mono ?_
            rintro e1 W5 ⟨V5, G5, rfl, g1, g2, g3, g4⟩
            have ke5 := E1.out.trans ((Kp.keep KWd P1.out.dom).trans g4)
            have b5k := B0.out.kept ke5 MB.out
            have y0 := b5k.cell 0 rfl; have y1 := b5k.cell 1 rfl; have y2 := b5k.cell 2 rfl; have y3 := b5k.cell 3 rfl
            have BQ := Lib.hid b5k
            have CN := node_st (F := Mine F W W0) g2 g1 HBS.out (t := (K, T, NM, AT)) (T := st T) (nd := x) g3 HN.out
            have FN6 : Hid (∀ e W', Ans' (Mine F W W0) g p vN r W5 e W' → Q e W') := fun e W' hq => LAST.out e W5 W' ke5 hq
            clear g1 g2 g3 g4 b5k
            go_wp2_with fail
            refine hK.out _ _ ⟨y0, y1, y2, y3⟩ (fun hHeld => ?_)
            clear hK KK
            try simp only [Act.put, List.setIfInBounds_toArray, List.set_cons_zero, List.set_cons_succ]
            clear hHeld
            refine wpAnyH_ready (rs := [5]) (by kernel_rfl) (by simp) (AllReadyH.cons rfl (fun KK hK => ?_) AllReadyH.nil)
            go_simp
            go_at_call 157
            refine CN.mono ?_
            intro e6 W6 hq
            have hq2 := FN6.out e6 W6 hq
            cases r with
            | bad a e =>
              obtain ⟨rfl, hk⟩ := hq
              exact ⟨rfl, hq2⟩
            | ok i s6 =>
              have y := hq.2.2
              obtain ⟨⟨v, rfl, rfl⟩, -, -⟩ := hq
              have bz := BQ.out.kept y MB.out
              have z0 := bz.cell 0 rfl; have z1 := bz.cell 1 rfl; have z2 := bz.cell 2 rfl; have z3 := bz.cell 3 rfl
              have F2 := Lib.hid hq2
              clear hq2 bz y
              go_wp2_with fail
              refine hK.out _ _ ⟨z0, z1, z2, z3⟩ (fun hHeld => ?_)
              clear hK KK
              try simp only [Act.put, List.setIfInBounds_toArray, List.set_cons_zero, List.set_cons_succ]
              clear hHeld
              refine wpAnyH_ready (rs := [6]) (by kernel_rfl) (by simp) (AllReadyH.cons rfl (fun KK hK => ?_) AllReadyH.nil)
              go_simp
              refine hK.out _ _ ⟨z0, z1, z2, z3⟩ (fun hHeld => ?_)
              clear hK KK
              try simp only [Act.put, List.setIfInBounds_toArray, List.set_cons_zero, List.set_cons_succ]
              clear hHeld
              refine wpAnyH_done (by kernel_rfl) ?_ _
              clear z0 z1 z2 z3
              go_wp2_with fail
              first | exact F2.out | (go_ret3; exact F2.out) | (go_ret; exact F2.out)
        | false =>
          rw [hb3, if_neg (by simp)] at C
          have H3 := Lib.hid (acc_if_no hb3 H2.out)
          clear hb3
          go_wp2_with fail
          refine C.out.mono ?_
          intro e W3 hs1
          obtain rfl := hs1.e
          have P3 := Lib.hid hs1.pi; have E3 := Lib.hid (E2.out.trans hs1.kp)
          clear hs1 C
          have C := Lib.hid (accept_st P3.out (X := ⟨#[115, 105, 122, 101]⟩) (w := [115, 105, 122, 101]) rfl (lt_mem (by decide)) (by decide))
          cases hb4 : isW [115, 105, 122, 101] s with
          | true =>
            rw [hb4, if_pos rfl] at C
            have HY := Lib.hid (acc_if_yes hb4 H3.out)
            clear hb4
            go_wp2_with fail
            refine C.out.mono ?_
            intro e W1 hs1
            obtain rfl := hs1.e
            have P1 := Lib.hid hs1.pi; have E1 := Lib.hid (E3.out.trans hs1.kp)
            clear hs1 C
            have RD : Hid (∀ Wd, Wd = World.drew W1 → Kp W1 Wd ∧ Wd.cell? ⟨b5, 0, none⟩ = some (.int .i64 (K : Nat)) ∧ Wd.cell? ⟨b5, 1, none⟩ = some (.string (st T)) ∧ Wd.cell? ⟨b5, 2, none⟩ = some (.int .i64 (NM : Nat)) ∧ Wd.cell? ⟨b5, 3, none⟩ = some (.int .i64 (AT : Nat))) := by
              intro Wd e
              have k : Kp W1 Wd := by rw [e]; exact kp_drew _
              have b := (B0.out.kept E1.out MB.out).keep k
              exact ⟨k, b.cell 0 rfl, b.cell 1 rfl, b.cell 2 rfl, b.cell 3 rfl⟩
            rcases bnd_some HY.out with ⟨a, e, hm, he⟩ | ⟨x, s2, hm, hk2⟩
            · have CX : Hid (∀ Wd, Kp W1 Wd → Calls Tryz.prog 173 #[.pointer (some ⟨p, 0, none⟩), .int .i64 ((7 : Nat) : Int), .func (.func 104) #[] #[]] Wd (AnsX (Mine F W W0) g p (.bad a e) Wd)) := fun Wd k => named_st (P1.out.kp k) fitsP hm
              have HE := Lib.hid he
              clear hm he
              go_upto_region 13 with fail
              obtain ⟨Wd, hWd⟩ : ∃ Wd, Wd = World.drew W1 := ⟨_, rfl⟩
              obtain ⟨KWd, q0, q1, q2, q3⟩ := RD.out Wd hWd
              refine wp_region_held_drew (S := (fun w' => w'.cell? ⟨b5, 0, none⟩ = some (.int .i64 (K : Nat)) ∧ w'.cell? ⟨b5, 1, none⟩ = some (.string (st T)) ∧ w'.cell? ⟨b5, 2, none⟩ = some (.int .i64 (NM : Nat)) ∧ w'.cell? ⟨b5, 3, none⟩ = some (.int .i64 (AT : Nat)))) (by kernel_rfl) ?_ (fun hHeld => ?_)
              · rw [← hWd]; exact ⟨q0, q1, q2, q3⟩
              rw [← hWd] at hHeld ⊢
              clear hWd
              refine wpAnyH_take (i := 0) (v := (.pointer (some ⟨p, 0, none⟩))) rfl (by kernel_rfl) (by kernel_rfl) (by kernel_rfl) (fun _ _ _ h => h) (Or.inl ⟨by rfl, ?_⟩) (by assumption) ?_
              · (intro wq hSw; obtain ⟨s0, s1, s2, s3⟩ := hSw; go_simp; try exact hwn)
              try simp only [Act.put, List.setIfInBounds_toArray, List.set_cons_zero, List.set_cons_succ]
              refine wpAnyH_take (i := 1) (v := (.agg #[.int .i64 (K : Nat), .string (st T), .int .i64 (NM : Nat), .int .i64 (AT : Nat)])) rfl (by kernel_rfl) (by kernel_rfl) (by kernel_rfl) (fun _ _ _ h => h) (Or.inl ⟨by rfl, ?_⟩) (by assumption) ?_
              · (intro wq hSw; obtain ⟨s0, s1, s2, s3⟩ := hSw; go_simp; try exact hwn)
              try simp only [Act.put, List.setIfInBounds_toArray, List.set_cons_zero, List.set_cons_succ]
              refine wpAnyH_take (i := 2) (v := (.pointer (some ⟨p, 0, none⟩))) rfl (by kernel_rfl) (by kernel_rfl) (by kernel_rfl) (fun _ _ _ h => h) (Or.inl ⟨by rfl, ?_⟩) (by assumption) ?_
              · (intro wq hSw; obtain ⟨s0, s1, s2, s3⟩ := hSw; go_simp; try exact hwn)
              try simp only [Act.put, List.setIfInBounds_toArray, List.set_cons_zero, List.set_cons_succ]
              clear hHeld
              refine wpAnyH_ready (rs := [3]) (by kernel_rfl) (by simp) (AllReadyH.cons rfl (fun KK hK => ?_) AllReadyH.nil)
              go_simp
              go_at_call 173
              refine (CX.out Wd KWd).mono ?_
              rintro e1 W5 ⟨rfl, hk5⟩
              exact ⟨rfl, BAD.out _ _ _ (E1.out.trans ((Kp.keep KWd P1.out.dom).trans hk5)) HE.out⟩
            · have CX : Hid (∀ Wd, Kp W1 Wd → Calls Tryz.prog 173 #[.pointer (some ⟨p, 0, none⟩), .int .i64 ((7 : Nat) : Int), .func (.func 104) #[] #[]] Wd (AnsX (Mine F W W0) g p (.ok x s2) Wd)) := fun Wd k => named_st (P1.out.kp k) fitsP hm
              have HN : Hid (node (K, T, NM, AT) x s2 = some r) := by rw [← HHD.out]; exact hk2
              clear hm hk2
              go_upto_region 13 with fail
              obtain ⟨Wd, hWd⟩ : ∃ Wd, Wd = World.drew W1 := ⟨_, rfl⟩
              obtain ⟨KWd, q0, q1, q2, q3⟩ := RD.out Wd hWd
              refine wp_region_held_drew (S := (fun w' => w'.cell? ⟨b5, 0, none⟩ = some (.int .i64 (K : Nat)) ∧ w'.cell? ⟨b5, 1, none⟩ = some (.string (st T)) ∧ w'.cell? ⟨b5, 2, none⟩ = some (.int .i64 (NM : Nat)) ∧ w'.cell? ⟨b5, 3, none⟩ = some (.int .i64 (AT : Nat)))) (by kernel_rfl) ?_ (fun hHeld => ?_)
              · rw [← hWd]; exact ⟨q0, q1, q2, q3⟩
              rw [← hWd] at hHeld ⊢
              clear hWd
              refine wpAnyH_take (i := 0) (v := (.pointer (some ⟨p, 0, none⟩))) rfl (by kernel_rfl) (by kernel_rfl) (by kernel_rfl) (fun _ _ _ h => h) (Or.inl ⟨by rfl, ?_⟩) (by assumption) ?_
              · (intro wq hSw; obtain ⟨s0, s1, s2, s3⟩ := hSw; go_simp; try exact hwn)
              try simp only [Act.put, List.setIfInBounds_toArray, List.set_cons_zero, List.set_cons_succ]
              refine wpAnyH_take (i := 1) (v := (.agg #[.int .i64 (K : Nat), .string (st T), .int .i64 (NM : Nat), .int .i64 (AT : Nat)])) rfl (by kernel_rfl) (by kernel_rfl) (by kernel_rfl) (fun _ _ _ h => h) (Or.inl ⟨by rfl, ?_⟩) (by assumption) ?_
              · (intro wq hSw; obtain ⟨s0, s1, s2, s3⟩ := hSw; go_simp; try exact hwn)
              try simp only [Act.put, List.setIfInBounds_toArray, List.set_cons_zero, List.set_cons_succ]
              refine wpAnyH_take (i := 2) (v := (.pointer (some ⟨p, 0, none⟩))) rfl (by kernel_rfl) (by kernel_rfl) (by kernel_rfl) (fun _ _ _ h => h) (Or.inl ⟨by rfl, ?_⟩) (by assumption) ?_
              · (intro wq hSw; obtain ⟨s0, s1, s2, s3⟩ := hSw; go_simp; try exact hwn)
              try simp only [Act.put, List.setIfInBounds_toArray, List.set_cons_zero, List.set_cons_succ]
              clear hHeld
              refine wpAnyH_ready (rs := [3]) (by kernel_rfl) (by simp) (AllReadyH.cons rfl (fun KK hK => ?_) AllReadyH.nil)
              go_simp
              go_at_call 173
              refine (CX.out Wd KWd).mono ?_
              rintro e1 W5 ⟨V5, G5, rfl, g1, g2, g3, g4⟩
              have ke5 := E1.out.trans ((Kp.keep KWd P1.out.dom).trans g4)
              have b5k := B0.out.kept ke5 MB.out
              have y0 := b5k.cell 0 rfl; have y1 := b5k.cell 1 rfl; have y2 := b5k.cell 2 rfl; have y3 := b5k.cell 3 rfl
              have BQ := Lib.hid b5k
              have CN := node_st (F := Mine F W W0) g2 g1 HBS.out (t := (K, T, NM, AT)) (T := st T) (nd := x) g3 HN.out
              have FN6 : Hid (∀ e W', Ans' (Mine F W W0) g p vN r W5 e W' → Q e W') := fun e W' hq => LAST.out e W5 W' ke5 hq
              clear g1 g2 g3 g4 b5k
              go_wp2_with fail
              refine hK.out _ _ ⟨y0, y1, y2, y3⟩ (fun hHeld => ?_)
              clear hK KK
              try simp only [Act.put, List.setIfInBounds_toArray, List.set_cons_zero, List.set_cons_succ]
              clear hHeld
              refine wpAnyH_ready (rs := [4]) (by kernel_rfl) (by simp) (AllReadyH.cons rfl (fun KK hK => ?_) AllReadyH.nil)
              go_simp
              go_at_call 157
              refine CN.mono ?_
              intro e6 W6 hq
              have hq2 := FN6.out e6 W6 hq
              cases r with
              | bad a e =>
                obtain ⟨rfl, hk⟩ := hq
                exact ⟨rfl, hq2⟩
              | ok i s6 =>
                have y := hq.2.2
                obtain ⟨⟨v, rfl, rfl⟩, -, -⟩ := hq
                have bz := BQ.out.kept y MB.out
                have z0 := bz.cell 0 rfl; have z1 := bz.cell 1 rfl; have z2 := bz.cell 2 rfl; have z3 := bz.cell 3 rfl
                have F2 := Lib.hid hq2
                clear hq2 bz y
                go_wp2_with fail
                refine hK.out _ _ ⟨z0, z1, z2, z3⟩ (fun hHeld => ?_)
                clear hK KK
                try simp only [Act.put, List.setIfInBounds_toArray, List.set_cons_zero, List.set_cons_succ]
                clear hHeld
                refine wpAnyH_ready (rs := [5]) (by kernel_rfl) (by simp) (AllReadyH.cons rfl (fun KK hK => ?_) AllReadyH.nil)
                go_simp
                refine hK.out _ _ ⟨z0, z1, z2, z3⟩ (fun hHeld => ?_)
                clear hK KK
                try simp only [Act.put, List.setIfInBounds_toArray, List.set_cons_zero, List.set_cons_succ]
                clear hHeld
                refine wpAnyH_done (by kernel_rfl) ?_ _
                clear z0 z1 z2 z3
                go_wp2_with fail
                first | exact F2.out | (go_ret3; exact F2.out) | (go_ret; exact F2.out)
          | false =>
            rw [hb4, if_neg (by simp)] at C
            have H4 := Lib.hid (acc_if_no hb4 H3.out)
            clear hb4
            go_wp2_with fail
            refine C.out.mono ?_
            intro e W4 hs1
            obtain rfl := hs1.e
            have P4 := Lib.hid hs1.pi; have E4 := Lib.hid (E3.out.trans hs1.kp)
            clear hs1 C
            have C := Lib.hid (accept_st P4.out (X := ⟨#[104, 97, 115]⟩) (w := [104, 97, 115]) rfl (lt_mem (by decide)) (by decide))
            cases hb5 : isW [104, 97, 115] s with
            | true =>
              rw [hb5, if_pos rfl] at C
              have HY := Lib.hid (acc_if_yes hb5 H4.out)
              clear hb5
              go_wp2_with fail
              refine C.out.mono ?_
              intro e W1 hs1
              obtain rfl := hs1.e
              have P1 := Lib.hid hs1.pi; have E1 := Lib.hid (E4.out.trans hs1.kp)
              clear hs1 C
              have RD : Hid (∀ Wd, Wd = World.drew W1 → Kp W1 Wd ∧ Wd.cell? ⟨b5, 0, none⟩ = some (.int .i64 (K : Nat)) ∧ Wd.cell? ⟨b5, 1, none⟩ = some (.string (st T)) ∧ Wd.cell? ⟨b5, 2, none⟩ = some (.int .i64 (NM : Nat)) ∧ Wd.cell? ⟨b5, 3, none⟩ = some (.int .i64 (AT : Nat))) := by
                intro Wd e
                have k : Kp W1 Wd := by rw [e]; exact kp_drew _
                have b := (B0.out.kept E1.out MB.out).keep k
                exact ⟨k, b.cell 0 rfl, b.cell 1 rfl, b.cell 2 rfl, b.cell 3 rfl⟩
              rcases bnd_some HY.out with ⟨a, e, hm, he⟩ | ⟨x, s2, hm, hk2⟩
              · have CX : Hid (∀ Wd, Kp W1 Wd → Calls Tryz.prog 173 #[.pointer (some ⟨p, 0, none⟩), .int .i64 ((8 : Nat) : Int), .func (.func 104) #[] #[]] Wd (AnsX (Mine F W W0) g p (.bad a e) Wd)) := fun Wd k => named_st (P1.out.kp k) fitsP hm
                have HE := Lib.hid he
                clear hm he
                go_upto_region 15 with fail
                obtain ⟨Wd, hWd⟩ : ∃ Wd, Wd = World.drew W1 := ⟨_, rfl⟩
                obtain ⟨KWd, q0, q1, q2, q3⟩ := RD.out Wd hWd
                refine wp_region_held_drew (S := (fun w' => w'.cell? ⟨b5, 0, none⟩ = some (.int .i64 (K : Nat)) ∧ w'.cell? ⟨b5, 1, none⟩ = some (.string (st T)) ∧ w'.cell? ⟨b5, 2, none⟩ = some (.int .i64 (NM : Nat)) ∧ w'.cell? ⟨b5, 3, none⟩ = some (.int .i64 (AT : Nat)))) (by kernel_rfl) ?_ (fun hHeld => ?_)
                · rw [← hWd]; exact ⟨q0, q1, q2, q3⟩
                rw [← hWd] at hHeld ⊢
                clear hWd
                refine wpAnyH_take (i := 0) (v := (.pointer (some ⟨p, 0, none⟩))) rfl (by kernel_rfl) (by kernel_rfl) (by kernel_rfl) (fun _ _ _ h => h) (Or.inl ⟨by rfl, ?_⟩) (by assumption) ?_
                · (intro wq hSw; obtain ⟨s0, s1, s2, s3⟩ := hSw; go_simp; try exact hwn)
                try simp only [Act.put, List.setIfInBounds_toArray, List.set_cons_zero, List.set_cons_succ]
                refine wpAnyH_take (i := 1) (v := (.agg #[.int .i64 (K : Nat), .string (st T), .int .i64 (NM : Nat), .int .i64 (AT : Nat)])) rfl (by kernel_rfl) (by kernel_rfl) (by kernel_rfl) (fun _ _ _ h => h) (Or.inl ⟨by rfl, ?_⟩) (by assumption) ?_
                · (intro wq hSw; obtain ⟨s0, s1, s2, s3⟩ := hSw; go_simp; try exact hwn)
                try simp only [Act.put, List.setIfInBounds_toArray, List.set_cons_zero, List.set_cons_succ]
                refine wpAnyH_take (i := 2) (v := (.pointer (some ⟨p, 0, none⟩))) rfl (by kernel_rfl) (by kernel_rfl) (by kernel_rfl) (fun _ _ _ h => h) (Or.inl ⟨by rfl, ?_⟩) (by assumption) ?_
                · (intro wq hSw; obtain ⟨s0, s1, s2, s3⟩ := hSw; go_simp; try exact hwn)
                try simp only [Act.put, List.setIfInBounds_toArray, List.set_cons_zero, List.set_cons_succ]
                clear hHeld
                refine wpAnyH_ready (rs := [3]) (by kernel_rfl) (by simp) (AllReadyH.cons rfl (fun KK hK => ?_) AllReadyH.nil)
                go_simp
                go_at_call 173
                refine (CX.out Wd KWd).mono ?_
                rintro e1 W5 ⟨rfl, hk5⟩
                exact ⟨rfl, BAD.out _ _ _ (E1.out.trans ((Kp.keep KWd P1.out.dom).trans hk5)) HE.out⟩
              · have CX : Hid (∀ Wd, Kp W1 Wd → Calls Tryz.prog 173 #[.pointer (some ⟨p, 0, none⟩), .int .i64 ((8 : Nat) : Int), .func (.func 104) #[] #[]] Wd (AnsX (Mine F W W0) g p (.ok x s2) Wd)) := fun Wd k => named_st (P1.out.kp k) fitsP hm
                have HN : Hid (node (K, T, NM, AT) x s2 = some r) := by rw [← HHD.out]; exact hk2
                clear hm hk2
                go_upto_region 15 with fail
                obtain ⟨Wd, hWd⟩ : ∃ Wd, Wd = World.drew W1 := ⟨_, rfl⟩
                obtain ⟨KWd, q0, q1, q2, q3⟩ := RD.out Wd hWd
                refine wp_region_held_drew (S := (fun w' => w'.cell? ⟨b5, 0, none⟩ = some (.int .i64 (K : Nat)) ∧ w'.cell? ⟨b5, 1, none⟩ = some (.string (st T)) ∧ w'.cell? ⟨b5, 2, none⟩ = some (.int .i64 (NM : Nat)) ∧ w'.cell? ⟨b5, 3, none⟩ = some (.int .i64 (AT : Nat)))) (by kernel_rfl) ?_ (fun hHeld => ?_)
                · rw [← hWd]; exact ⟨q0, q1, q2, q3⟩
                rw [← hWd] at hHeld ⊢
                clear hWd
                refine wpAnyH_take (i := 0) (v := (.pointer (some ⟨p, 0, none⟩))) rfl (by kernel_rfl) (by kernel_rfl) (by kernel_rfl) (fun _ _ _ h => h) (Or.inl ⟨by rfl, ?_⟩) (by assumption) ?_
                · (intro wq hSw; obtain ⟨s0, s1, s2, s3⟩ := hSw; go_simp; try exact hwn)
                try simp only [Act.put, List.setIfInBounds_toArray, List.set_cons_zero, List.set_cons_succ]
                refine wpAnyH_take (i := 1) (v := (.agg #[.int .i64 (K : Nat), .string (st T), .int .i64 (NM : Nat), .int .i64 (AT : Nat)])) rfl (by kernel_rfl) (by kernel_rfl) (by kernel_rfl) (fun _ _ _ h => h) (Or.inl ⟨by rfl, ?_⟩) (by assumption) ?_
                · (intro wq hSw; obtain ⟨s0, s1, s2, s3⟩ := hSw; go_simp; try exact hwn)
                try simp only [Act.put, List.setIfInBounds_toArray, List.set_cons_zero, List.set_cons_succ]
                refine wpAnyH_take (i := 2) (v := (.pointer (some ⟨p, 0, none⟩))) rfl (by kernel_rfl) (by kernel_rfl) (by kernel_rfl) (fun _ _ _ h => h) (Or.inl ⟨by rfl, ?_⟩) (by assumption) ?_
                · (intro wq hSw; obtain ⟨s0, s1, s2, s3⟩ := hSw; go_simp; try exact hwn)
                try simp only [Act.put, List.setIfInBounds_toArray, List.set_cons_zero, List.set_cons_succ]
                clear hHeld
                refine wpAnyH_ready (rs := [3]) (by kernel_rfl) (by simp) (AllReadyH.cons rfl (fun KK hK => ?_) AllReadyH.nil)
                go_simp
                go_at_call 173
                refine (CX.out Wd KWd).mono ?_
                rintro e1 W5 ⟨V5, G5, rfl, g1, g2, g3, g4⟩
                have ke5 := E1.out.trans ((Kp.keep KWd P1.out.dom).trans g4)
                have b5k := B0.out.kept ke5 MB.out
                have y0 := b5k.cell 0 rfl; have y1 := b5k.cell 1 rfl; have y2 := b5k.cell 2 rfl; have y3 := b5k.cell 3 rfl
                have BQ := Lib.hid b5k
                have CN := node_st (F := Mine F W W0) g2 g1 HBS.out (t := (K, T, NM, AT)) (T := st T) (nd := x) g3 HN.out
                have FN6 : Hid (∀ e W', Ans' (Mine F W W0) g p vN r W5 e W' → Q e W') := fun e W' hq => LAST.out e W5 W' ke5 hq
                clear g1 g2 g3 g4 b5k
                go_wp2_with fail
                refine hK.out _ _ ⟨y0, y1, y2, y3⟩ (fun hHeld => ?_)
                clear hK KK
                try simp only [Act.put, List.setIfInBounds_toArray, List.set_cons_zero, List.set_cons_succ]
                clear hHeld
                refine wpAnyH_ready (rs := [4]) (by kernel_rfl) (by simp) (AllReadyH.cons rfl (fun KK hK => ?_) AllReadyH.nil)
                go_simp
                go_at_call 157
                refine CN.mono ?_
                intro e6 W6 hq
                have hq2 := FN6.out e6 W6 hq
                cases r with
                | bad a e =>
                  obtain ⟨rfl, hk⟩ := hq
                  exact ⟨rfl, hq2⟩
                | ok i s6 =>
                  have y := hq.2.2
                  obtain ⟨⟨v, rfl, rfl⟩, -, -⟩ := hq
                  have bz := BQ.out.kept y MB.out
                  have z0 := bz.cell 0 rfl; have z1 := bz.cell 1 rfl; have z2 := bz.cell 2 rfl; have z3 := bz.cell 3 rfl
                  have F2 := Lib.hid hq2
                  clear hq2 bz y
                  go_wp2_with fail
                  refine hK.out _ _ ⟨z0, z1, z2, z3⟩ (fun hHeld => ?_)
                  clear hK KK
                  try simp only [Act.put, List.setIfInBounds_toArray, List.set_cons_zero, List.set_cons_succ]
                  clear hHeld
                  refine wpAnyH_ready (rs := [5]) (by kernel_rfl) (by simp) (AllReadyH.cons rfl (fun KK hK => ?_) AllReadyH.nil)
                  go_simp
                  refine hK.out _ _ ⟨z0, z1, z2, z3⟩ (fun hHeld => ?_)
                  clear hK KK
                  try simp only [Act.put, List.setIfInBounds_toArray, List.set_cons_zero, List.set_cons_succ]
                  clear hHeld
                  refine wpAnyH_done (by kernel_rfl) ?_ _
                  clear z0 z1 z2 z3
                  go_wp2_with fail
                  first | exact F2.out | (go_ret3; exact F2.out) | (go_ret; exact F2.out)
            | false =>
              rw [hb5, if_neg (by simp)] at C
              have H5 := Lib.hid (acc_if_no hb5 H4.out)
              clear hb5
              go_wp2_with fail
              refine C.out.mono ?_
              intro e W5 hs1
              obtain rfl := hs1.e
              have P5 := Lib.hid hs1.pi; have E5 := Lib.hid (E4.out.trans hs1.kp)
              clear hs1 C
              have C := Lib.hid (accept_st P5.out (X := ⟨#[101, 110, 118]⟩) (w := [101, 110, 118]) rfl (lt_mem (by decide)) (by decide))
              cases hb6 : isW [101, 110, 118] s with
              | true =>
                rw [hb6, if_pos rfl] at C
                have HY := Lib.hid (acc_if_yes hb6 H5.out)
                clear hb6
                go_wp2_with fail
                refine C.out.mono ?_
                intro e W1 hs1
                obtain rfl := hs1.e
                have P1 := Lib.hid hs1.pi; have E1 := Lib.hid (E5.out.trans hs1.kp)
                clear hs1 C
                have RD : Hid (∀ Wd, Wd = World.drew W1 → Kp W1 Wd ∧ Wd.cell? ⟨b5, 0, none⟩ = some (.int .i64 (K : Nat)) ∧ Wd.cell? ⟨b5, 1, none⟩ = some (.string (st T)) ∧ Wd.cell? ⟨b5, 2, none⟩ = some (.int .i64 (NM : Nat)) ∧ Wd.cell? ⟨b5, 3, none⟩ = some (.int .i64 (AT : Nat))) := by
                  intro Wd e
                  have k : Kp W1 Wd := by rw [e]; exact kp_drew _
                  have b := (B0.out.kept E1.out MB.out).keep k
                  exact ⟨k, b.cell 0 rfl, b.cell 1 rfl, b.cell 2 rfl, b.cell 3 rfl⟩
                rcases bnd_some HY.out with ⟨a, e, hm, he⟩ | ⟨x, s2, hm, hk2⟩
                · have CX : Hid (∀ Wd, Kp W1 Wd → Calls Tryz.prog 173 #[.pointer (some ⟨p, 0, none⟩), .int .i64 ((9 : Nat) : Int), .func (.func 97) #[] #[]] Wd (AnsX (Mine F W W0) g p (.bad a e) Wd)) := fun Wd k => named_st (P1.out.kp k) fitsN hm
                  have HE := Lib.hid he
                  clear hm he
                  go_upto_region 17 with fail
                  obtain ⟨Wd, hWd⟩ : ∃ Wd, Wd = World.drew W1 := ⟨_, rfl⟩
                  obtain ⟨KWd, q0, q1, q2, q3⟩ := RD.out Wd hWd
                  refine wp_region_held_drew (S := (fun w' => w'.cell? ⟨b5, 0, none⟩ = some (.int .i64 (K : Nat)) ∧ w'.cell? ⟨b5, 1, none⟩ = some (.string (st T)) ∧ w'.cell? ⟨b5, 2, none⟩ = some (.int .i64 (NM : Nat)) ∧ w'.cell? ⟨b5, 3, none⟩ = some (.int .i64 (AT : Nat)))) (by kernel_rfl) ?_ (fun hHeld => ?_)
                  · rw [← hWd]; exact ⟨q0, q1, q2, q3⟩
                  rw [← hWd] at hHeld ⊢
                  clear hWd
                  refine wpAnyH_take (i := 0) (v := (.pointer (some ⟨p, 0, none⟩))) rfl (by kernel_rfl) (by kernel_rfl) (by kernel_rfl) (fun _ _ _ h => h) (Or.inl ⟨by rfl, ?_⟩) (by assumption) ?_
                  · (intro wq hSw; obtain ⟨s0, s1, s2, s3⟩ := hSw; go_simp; try exact hwn)
                  try simp only [Act.put, List.setIfInBounds_toArray, List.set_cons_zero, List.set_cons_succ]
                  refine wpAnyH_take (i := 1) (v := (.agg #[.int .i64 (K : Nat), .string (st T), .int .i64 (NM : Nat), .int .i64 (AT : Nat)])) rfl (by kernel_rfl) (by kernel_rfl) (by kernel_rfl) (fun _ _ _ h => h) (Or.inl ⟨by rfl, ?_⟩) (by assumption) ?_
                  · (intro wq hSw; obtain ⟨s0, s1, s2, s3⟩ := hSw; go_simp; try exact hwn)
                  try simp only [Act.put, List.setIfInBounds_toArray, List.set_cons_zero, List.set_cons_succ]
                  refine wpAnyH_take (i := 2) (v := (.pointer (some ⟨p, 0, none⟩))) rfl (by kernel_rfl) (by kernel_rfl) (by kernel_rfl) (fun _ _ _ h => h) (Or.inl ⟨by rfl, ?_⟩) (by assumption) ?_
                  · (intro wq hSw; obtain ⟨s0, s1, s2, s3⟩ := hSw; go_simp; try exact hwn)
                  try simp only [Act.put, List.setIfInBounds_toArray, List.set_cons_zero, List.set_cons_succ]
                  clear hHeld
                  refine wpAnyH_ready (rs := [3]) (by kernel_rfl) (by simp) (AllReadyH.cons rfl (fun KK hK => ?_) AllReadyH.nil)
                  go_simp
                  go_at_call 173
                  refine (CX.out Wd KWd).mono ?_
                  rintro e1 W5 ⟨rfl, hk5⟩
                  exact ⟨rfl, BAD.out _ _ _ (E1.out.trans ((Kp.keep KWd P1.out.dom).trans hk5)) HE.out⟩
                · have CX : Hid (∀ Wd, Kp W1 Wd → Calls Tryz.prog 173 #[.pointer (some ⟨p, 0, none⟩), .int .i64 ((9 : Nat) : Int), .func (.func 97) #[] #[]] Wd (AnsX (Mine F W W0) g p (.ok x s2) Wd)) := fun Wd k => named_st (P1.out.kp k) fitsN hm
                  have HN : Hid (node (K, T, NM, AT) x s2 = some r) := by rw [← HHD.out]; exact hk2
                  clear hm hk2
                  go_upto_region 17 with fail
                  obtain ⟨Wd, hWd⟩ : ∃ Wd, Wd = World.drew W1 := ⟨_, rfl⟩
                  obtain ⟨KWd, q0, q1, q2, q3⟩ := RD.out Wd hWd
                  refine wp_region_held_drew (S := (fun w' => w'.cell? ⟨b5, 0, none⟩ = some (.int .i64 (K : Nat)) ∧ w'.cell? ⟨b5, 1, none⟩ = some (.string (st T)) ∧ w'.cell? ⟨b5, 2, none⟩ = some (.int .i64 (NM : Nat)) ∧ w'.cell? ⟨b5, 3, none⟩ = some (.int .i64 (AT : Nat)))) (by kernel_rfl) ?_ (fun hHeld => ?_)
                  · rw [← hWd]; exact ⟨q0, q1, q2, q3⟩
                  rw [← hWd] at hHeld ⊢
                  clear hWd
                  refine wpAnyH_take (i := 0) (v := (.pointer (some ⟨p, 0, none⟩))) rfl (by kernel_rfl) (by kernel_rfl) (by kernel_rfl) (fun _ _ _ h => h) (Or.inl ⟨by rfl, ?_⟩) (by assumption) ?_
                  · (intro wq hSw; obtain ⟨s0, s1, s2, s3⟩ := hSw; go_simp; try exact hwn)
                  try simp only [Act.put, List.setIfInBounds_toArray, List.set_cons_zero, List.set_cons_succ]
                  refine wpAnyH_take (i := 1) (v := (.agg #[.int .i64 (K : Nat), .string (st T), .int .i64 (NM : Nat), .int .i64 (AT : Nat)])) rfl (by kernel_rfl) (by kernel_rfl) (by kernel_rfl) (fun _ _ _ h => h) (Or.inl ⟨by rfl, ?_⟩) (by assumption) ?_
                  · (intro wq hSw; obtain ⟨s0, s1, s2, s3⟩ := hSw; go_simp; try exact hwn)
                  try simp only [Act.put, List.setIfInBounds_toArray, List.set_cons_zero, List.set_cons_succ]
                  refine wpAnyH_take (i := 2) (v := (.pointer (some ⟨p, 0, none⟩))) rfl (by kernel_rfl) (by kernel_rfl) (by kernel_rfl) (fun _ _ _ h => h) (Or.inl ⟨by rfl, ?_⟩) (by assumption) ?_
                  · (intro wq hSw; obtain ⟨s0, s1, s2, s3⟩ := hSw; go_simp; try exact hwn)
                  try simp only [Act.put, List.setIfInBounds_toArray, List.set_cons_zero, List.set_cons_succ]
                  clear hHeld
                  refine wpAnyH_ready (rs := [3]) (by kernel_rfl) (by simp) (AllReadyH.cons rfl (fun KK hK => ?_) AllReadyH.nil)
                  go_simp
                  go_at_call 173
                  refine (CX.out Wd KWd).mono ?_
                  rintro e1 W5 ⟨V5, G5, rfl, g1, g2, g3, g4⟩
                  have ke5 := E1.out.trans ((Kp.keep KWd P1.out.dom).trans g4)
                  have b5k := B0.out.kept ke5 MB.out
                  have y0 := b5k.cell 0 rfl; have y1 := b5k.cell 1 rfl; have y2 := b5k.cell 2 rfl; have y3 := b5k.cell 3 rfl
                  have BQ := Lib.hid b5k
                  have CN := node_st (F := Mine F W W0) g2 g1 HBS.out (t := (K, T, NM, AT)) (T := st T) (nd := x) g3 HN.out
                  have FN6 : Hid (∀ e W', Ans' (Mine F W W0) g p vN r W5 e W' → Q e W') := fun e W' hq => LAST.out e W5 W' ke5 hq
                  clear g1 g2 g3 g4 b5k
                  go_wp2_with fail
                  refine hK.out _ _ ⟨y0, y1, y2, y3⟩ (fun hHeld => ?_)
                  clear hK KK
                  try simp only [Act.put, List.setIfInBounds_toArray, List.set_cons_zero, List.set_cons_succ]
                  clear hHeld
                  refine wpAnyH_ready (rs := [4]) (by kernel_rfl) (by simp) (AllReadyH.cons rfl (fun KK hK => ?_) AllReadyH.nil)
                  go_simp
                  go_at_call 157
                  refine CN.mono ?_
                  intro e6 W6 hq
                  have hq2 := FN6.out e6 W6 hq
                  cases r with
                  | bad a e =>
                    obtain ⟨rfl, hk⟩ := hq
                    exact ⟨rfl, hq2⟩
                  | ok i s6 =>
                    have y := hq.2.2
                    obtain ⟨⟨v, rfl, rfl⟩, -, -⟩ := hq
                    have bz := BQ.out.kept y MB.out
                    have z0 := bz.cell 0 rfl; have z1 := bz.cell 1 rfl; have z2 := bz.cell 2 rfl; have z3 := bz.cell 3 rfl
                    have F2 := Lib.hid hq2
                    clear hq2 bz y
                    go_wp2_with fail
                    refine hK.out _ _ ⟨z0, z1, z2, z3⟩ (fun hHeld => ?_)
                    clear hK KK
                    try simp only [Act.put, List.setIfInBounds_toArray, List.set_cons_zero, List.set_cons_succ]
                    clear hHeld
                    refine wpAnyH_ready (rs := [5]) (by kernel_rfl) (by simp) (AllReadyH.cons rfl (fun KK hK => ?_) AllReadyH.nil)
                    go_simp
                    refine hK.out _ _ ⟨z0, z1, z2, z3⟩ (fun hHeld => ?_)
                    clear hK KK
                    try simp only [Act.put, List.setIfInBounds_toArray, List.set_cons_zero, List.set_cons_succ]
                    clear hHeld
                    refine wpAnyH_done (by kernel_rfl) ?_ _
                    clear z0 z1 z2 z3
                    go_wp2_with fail
                    first | exact F2.out | (go_ret3; exact F2.out) | (go_ret; exact F2.out)
              | false =>
                rw [hb6, if_neg (by simp)] at C
                have H6 := Lib.hid (acc_if_no hb6 H5.out)
                clear hb6
                go_wp2_with fail
                refine C.out.mono ?_
                intro e W6 hs1
                obtain rfl := hs1.e
                have P6 := Lib.hid hs1.pi; have E6 := Lib.hid (E5.out.trans hs1.kp)
                clear hs1 C
                have C := Lib.hid (accept_st P6.out (X := ⟨#[102, 108, 105, 112]⟩) (w := [102, 108, 105, 112]) rfl (lt_mem (by decide)) (by decide))
                cases hb7 : isW [102, 108, 105, 112] s with
                | true =>
                  rw [hb7, if_pos rfl] at C
                  have HY := Lib.hid (acc_if_yes hb7 H6.out)
                  clear hb7
                  go_wp2_with fail
                  refine C.out.mono ?_
                  intro e W1 hs1
                  obtain rfl := hs1.e
                  have P1 := Lib.hid hs1.pi; have E1 := Lib.hid (E6.out.trans hs1.kp)
                  clear hs1 C
                  have RD : Hid (∀ Wd, Wd = World.drew W1 → Kp W1 Wd ∧ Wd.cell? ⟨b5, 0, none⟩ = some (.int .i64 (K : Nat)) ∧ Wd.cell? ⟨b5, 1, none⟩ = some (.string (st T)) ∧ Wd.cell? ⟨b5, 2, none⟩ = some (.int .i64 (NM : Nat)) ∧ Wd.cell? ⟨b5, 3, none⟩ = some (.int .i64 (AT : Nat))) := by
                    intro Wd e
                    have k : Kp W1 Wd := by rw [e]; exact kp_drew _
                    have b := (B0.out.kept E1.out MB.out).keep k
                    exact ⟨k, b.cell 0 rfl, b.cell 1 rfl, b.cell 2 rfl, b.cell 3 rfl⟩
                  rcases bnd_some HY.out with ⟨a, e, hm, he⟩ | ⟨x, s2, hm, hk2⟩
                  · have CX : Hid (∀ Wd, Kp W1 Wd → Calls Tryz.prog 174 #[.pointer (some ⟨p, 0, none⟩)] Wd (AnsX (Mine F W W0) g p (.bad a e) Wd)) := fun Wd k => flip_st (P1.out.kp k) hm
                    have HE := Lib.hid he
                    clear hm he
                    go_upto_region 19 with fail
                    obtain ⟨Wd, hWd⟩ : ∃ Wd, Wd = World.drew W1 := ⟨_, rfl⟩
                    obtain ⟨KWd, q0, q1, q2, q3⟩ := RD.out Wd hWd
                    refine wp_region_held_drew (S := (fun w' => w'.cell? ⟨b5, 0, none⟩ = some (.int .i64 (K : Nat)) ∧ w'.cell? ⟨b5, 1, none⟩ = some (.string (st T)) ∧ w'.cell? ⟨b5, 2, none⟩ = some (.int .i64 (NM : Nat)) ∧ w'.cell? ⟨b5, 3, none⟩ = some (.int .i64 (AT : Nat)))) (by kernel_rfl) ?_ (fun hHeld => ?_)
                    · rw [← hWd]; exact ⟨q0, q1, q2, q3⟩
                    rw [← hWd] at hHeld ⊢
                    clear hWd
                    refine wpAnyH_take (i := 0) (v := (.pointer (some ⟨p, 0, none⟩))) rfl (by kernel_rfl) (by kernel_rfl) (by kernel_rfl) (fun _ _ _ h => h) (Or.inl ⟨by rfl, ?_⟩) (by assumption) ?_
                    · (intro wq hSw; obtain ⟨s0, s1, s2, s3⟩ := hSw; go_simp; try exact hwn)
                    try simp only [Act.put, List.setIfInBounds_toArray, List.set_cons_zero, List.set_cons_succ]
                    refine wpAnyH_take (i := 1) (v := (.agg #[.int .i64 (K : Nat), .string (st T), .int .i64 (NM : Nat), .int .i64 (AT : Nat)])) rfl (by kernel_rfl) (by kernel_rfl) (by kernel_rfl) (fun _ _ _ h => h) (Or.inl ⟨by rfl, ?_⟩) (by assumption) ?_
                    · (intro wq hSw; obtain ⟨s0, s1, s2, s3⟩ := hSw; go_simp; try exact hwn)
                    try simp only [Act.put, List.setIfInBounds_toArray, List.set_cons_zero, List.set_cons_succ]
                    refine wpAnyH_take (i := 2) (v := (.pointer (some ⟨p, 0, none⟩))) rfl (by kernel_rfl) (by kernel_rfl) (by kernel_rfl) (fun _ _ _ h => h) (Or.inl ⟨by rfl, ?_⟩) (by assumption) ?_
                    · (intro wq hSw; obtain ⟨s0, s1, s2, s3⟩ := hSw; go_simp; try exact hwn)
                    try simp only [Act.put, List.setIfInBounds_toArray, List.set_cons_zero, List.set_cons_succ]
                    clear hHeld
                    refine wpAnyH_ready (rs := [3]) (by kernel_rfl) (by simp) (AllReadyH.cons rfl (fun KK hK => ?_) AllReadyH.nil)
                    go_simp
                    go_at_call 174
                    refine (CX.out Wd KWd).mono ?_
                    rintro e1 W5 ⟨rfl, hk5⟩
                    exact ⟨rfl, BAD.out _ _ _ (E1.out.trans ((Kp.keep KWd P1.out.dom).trans hk5)) HE.out⟩
                  · have CX : Hid (∀ Wd, Kp W1 Wd → Calls Tryz.prog 174 #[.pointer (some ⟨p, 0, none⟩)] Wd (AnsX (Mine F W W0) g p (.ok x s2) Wd)) := fun Wd k => flip_st (P1.out.kp k) hm
                    have HN : Hid (node (K, T, NM, AT) x s2 = some r) := by rw [← HHD.out]; exact hk2
                    clear hm hk2
                    go_upto_region 19 with fail
                    obtain ⟨Wd, hWd⟩ : ∃ Wd, Wd = World.drew W1 := ⟨_, rfl⟩
                    obtain ⟨KWd, q0, q1, q2, q3⟩ := RD.out Wd hWd
                    refine wp_region_held_drew (S := (fun w' => w'.cell? ⟨b5, 0, none⟩ = some (.int .i64 (K : Nat)) ∧ w'.cell? ⟨b5, 1, none⟩ = some (.string (st T)) ∧ w'.cell? ⟨b5, 2, none⟩ = some (.int .i64 (NM : Nat)) ∧ w'.cell? ⟨b5, 3, none⟩ = some (.int .i64 (AT : Nat)))) (by kernel_rfl) ?_ (fun hHeld => ?_)
                    · rw [← hWd]; exact ⟨q0, q1, q2, q3⟩
                    rw [← hWd] at hHeld ⊢
                    clear hWd
                    refine wpAnyH_take (i := 0) (v := (.pointer (some ⟨p, 0, none⟩))) rfl (by kernel_rfl) (by kernel_rfl) (by kernel_rfl) (fun _ _ _ h => h) (Or.inl ⟨by rfl, ?_⟩) (by assumption) ?_
                    · (intro wq hSw; obtain ⟨s0, s1, s2, s3⟩ := hSw; go_simp; try exact hwn)
                    try simp only [Act.put, List.setIfInBounds_toArray, List.set_cons_zero, List.set_cons_succ]
                    refine wpAnyH_take (i := 1) (v := (.agg #[.int .i64 (K : Nat), .string (st T), .int .i64 (NM : Nat), .int .i64 (AT : Nat)])) rfl (by kernel_rfl) (by kernel_rfl) (by kernel_rfl) (fun _ _ _ h => h) (Or.inl ⟨by rfl, ?_⟩) (by assumption) ?_
                    · (intro wq hSw; obtain ⟨s0, s1, s2, s3⟩ := hSw; go_simp; try exact hwn)
                    try simp only [Act.put, List.setIfInBounds_toArray, List.set_cons_zero, List.set_cons_succ]
                    refine wpAnyH_take (i := 2) (v := (.pointer (some ⟨p, 0, none⟩))) rfl (by kernel_rfl) (by kernel_rfl) (by kernel_rfl) (fun _ _ _ h => h) (Or.inl ⟨by rfl, ?_⟩) (by assumption) ?_
                    · (intro wq hSw; obtain ⟨s0, s1, s2, s3⟩ := hSw; go_simp; try exact hwn)
                    try simp only [Act.put, List.setIfInBounds_toArray, List.set_cons_zero, List.set_cons_succ]
                    clear hHeld
                    refine wpAnyH_ready (rs := [3]) (by kernel_rfl) (by simp) (AllReadyH.cons rfl (fun KK hK => ?_) AllReadyH.nil)
                    go_simp
                    go_at_call 174
                    refine (CX.out Wd KWd).mono ?_
                    rintro e1 W5 ⟨V5, G5, rfl, g1, g2, g3, g4⟩
                    have ke5 := E1.out.trans ((Kp.keep KWd P1.out.dom).trans g4)
                    have b5k := B0.out.kept ke5 MB.out
                    have y0 := b5k.cell 0 rfl; have y1 := b5k.cell 1 rfl; have y2 := b5k.cell 2 rfl; have y3 := b5k.cell 3 rfl
                    have BQ := Lib.hid b5k
                    have CN := node_st (F := Mine F W W0) g2 g1 HBS.out (t := (K, T, NM, AT)) (T := st T) (nd := x) g3 HN.out
                    have FN6 : Hid (∀ e W', Ans' (Mine F W W0) g p vN r W5 e W' → Q e W') := fun e W' hq => LAST.out e W5 W' ke5 hq
                    clear g1 g2 g3 g4 b5k
                    go_wp2_with fail
                    refine hK.out _ _ ⟨y0, y1, y2, y3⟩ (fun hHeld => ?_)
                    clear hK KK
                    try simp only [Act.put, List.setIfInBounds_toArray, List.set_cons_zero, List.set_cons_succ]
                    clear hHeld
                    refine wpAnyH_ready (rs := [4]) (by kernel_rfl) (by simp) (AllReadyH.cons rfl (fun KK hK => ?_) AllReadyH.nil)
                    go_simp
                    go_at_call 157
                    refine CN.mono ?_
                    intro e6 W6 hq
                    have hq2 := FN6.out e6 W6 hq
                    cases r with
                    | bad a e =>
                      obtain ⟨rfl, hk⟩ := hq
                      exact ⟨rfl, hq2⟩
                    | ok i s6 =>
                      have y := hq.2.2
                      obtain ⟨⟨v, rfl, rfl⟩, -, -⟩ := hq
                      have bz := BQ.out.kept y MB.out
                      have z0 := bz.cell 0 rfl; have z1 := bz.cell 1 rfl; have z2 := bz.cell 2 rfl; have z3 := bz.cell 3 rfl
                      have F2 := Lib.hid hq2
                      clear hq2 bz y
                      go_wp2_with fail
                      refine hK.out _ _ ⟨z0, z1, z2, z3⟩ (fun hHeld => ?_)
                      clear hK KK
                      try simp only [Act.put, List.setIfInBounds_toArray, List.set_cons_zero, List.set_cons_succ]
                      clear hHeld
                      refine wpAnyH_ready (rs := [5]) (by kernel_rfl) (by simp) (AllReadyH.cons rfl (fun KK hK => ?_) AllReadyH.nil)
                      go_simp
                      refine hK.out _ _ ⟨z0, z1, z2, z3⟩ (fun hHeld => ?_)
                      clear hK KK
                      try simp only [Act.put, List.setIfInBounds_toArray, List.set_cons_zero, List.set_cons_succ]
                      clear hHeld
                      refine wpAnyH_done (by kernel_rfl) ?_ _
                      clear z0 z1 z2 z3
                      go_wp2_with fail
                      first | exact F2.out | (go_ret3; exact F2.out) | (go_ret; exact F2.out)
                | false =>
                  rw [hb7, if_neg (by simp)] at C
                  have H7 := Lib.hid (acc_if_no hb7 H6.out)
                  clear hb7
                  go_wp2_with fail
                  refine C.out.mono ?_
                  intro e W7 hs1
                  obtain rfl := hs1.e
                  have P7 := Lib.hid hs1.pi; have E7 := Lib.hid (E6.out.trans hs1.kp)
                  clear hs1 C
                  have C := Lib.hid (use_st P7.out hd SUBP.out H7.out)
                  go_wp2_with fail
                  refine C.out.mono ?_
                  intro e6 W8 hq
                  have hq2 := LAST.out e6 W7 W8 E7.out hq
                  cases r with
                  | bad a e =>
                    obtain ⟨rfl, hk⟩ := hq
                    exact ⟨rfl, hq2⟩
                  | ok i s6 =>
                    obtain ⟨⟨v, rfl, rfl⟩, -, -⟩ := hq
                    have F2 := Lib.hid hq2
                    clear hq2
                    go_wp2_with fail
                    first | exact F2.out | (go_ret3; exact F2.out) | (go_ret; exact F2.out)
end By
end Go.Proofs.YtmflgfojicaecaaGreatDoor
