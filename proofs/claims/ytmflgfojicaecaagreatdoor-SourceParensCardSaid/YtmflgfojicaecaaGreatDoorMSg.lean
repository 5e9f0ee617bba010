/- The parser's imported. Condition: the parser lies in memory as it is named; the row reads as the earlier imports. -/
import Derived.Test.YtmflgfojicaecaaGreatDoorMSf
namespace Go.Proofs.YtmflgfojicaecaaGreatDoor
namespace By
open Go.RowKit WireN LexN SrcN
set_option linter.unusedVariables false
set_option linter.unusedSimpArgs false

/-- A row of names in others' memory. -/
structure NR (F : Nat → Prop) (W : World) (v : Value) (ns : List (List Nat)) : Prop where
  own : W.ownsRow 0 9 1 v ns.length (ns.map fun n => Value.string (st n))
  inF : ∀ b, v.ownBlock = some b → F b
  few : ns.length ≤ 8
  ok : ∀ n ∈ ns, Lt n
theorem NR.kept {F G : Nat → Prop} {W W' : World} {v : Value} {ns : List (List Nat)} (h : NR F W v ns) (hk : Keep G W W') (hs : ∀ k, F k → G k) : NR F W' v ns := ⟨own_keep h.own (fun b hv => hk.block b (hs b (h.inF b hv))), h.inF, h.few, h.ok⟩
theorem NR.kp {F : Nat → Prop} {W W' : World} {v : Value} {ns : List (List Nat)} (h : NR F W v ns) (hk : Kp W W') : NR F W' v ns := ⟨own_keep h.own (fun b hv => hk.block b (h.own.lt b hv).2), h.inF, h.few, h.ok⟩
set_option maxRecDepth 100000 in
set_option maxHeartbeats 4000000 in
theorem imported_st {F : Nat → Prop} {g p : Nat} {W : World} {s : St} (h : PI F g p W s) {pk : List Nat} (hpk : Lt pk) {v : Value} {im : List (List Nat)} (hN : NR F W v im) {dO : Option Addr} {dl dc : Nat} {r : Out (List Nat)} (hr : imported pk im s = some r) :
    Calls Tryz.prog 91 #[.pointer (some ⟨p, 0, none⟩), .agg #[.string (st pk), v, .slice dO dl dc]] W (Ans' F g p vS r W) := by
  obtain ⟨Q, hQ⟩ : ∃ Q, Q = Ans' F g p vS r W := ⟨_, rfl⟩
  rw [← hQ]
  have HQ := Lib.hid hQ
  have H := Lib.hid h; have HPK := Lib.hid hpk
  obtain ⟨vo, vc, rfl⟩ := row_open hN.own
  obtain ⟨vl, hvl⟩ : ∃ vl, vl = im.length := ⟨_, rfl⟩
  rw [← hvl] at hN ⊢
  have HN := Lib.hid hN; have HVL := Lib.hid hvl
  obtain ⟨S, hS⟩ : ∃ S, S = st pk := ⟨_, rfl⟩
  rw [← hS]
  have HS := Lib.hid hS
  obtain ⟨o, len, rc, pv, bv, K, T, NM, AT, hhd, hT, hpc⟩ := h.hd
  obtain ⟨W0, hW0⟩ : ∃ W0, W0 = W.alloc (Obj.cells #[.string S, .slice vo vl vc, .slice dO dl dc] 29) := ⟨_, rfl⟩
  obtain ⟨fb, hfb⟩ : ∃ fb, fb = W.heap.size := ⟨_, rfl⟩
  have hs0 : W0.heap.size = W.heap.size + 1 := by rw [hW0]; simp
  have K0 : Hid (Kp W W0) := by show Kp W W0; rw [hW0]; exact kp_alloc W _
  have FB : Hid (Blk W0 fb 29 #[.string S, .slice vo vl vc, .slice dO dl dc]) := by show Blk _ _ _ _; rw [hW0, hfb]; exact Blk.new _ _ _
  have MF : Hid (Mine F W W0 fb) := by show Mine _ _ _ _; rw [hfb]; exact .inr ⟨Nat.le_refl _, by omega⟩
  have EFB := Lib.hid hfb
  have HW0 := Lib.hid hW0; have Z0 := Lib.hid hs0; have HHD := Lib.hid hhd
  have BAD : Hid (∀ a e W', Keep (Mine F W W0) W0 W' → r = .bad a e → Q (pan a e) W') := by
    intro a e W' hk he
    rw [HQ.out, he]
    exact ⟨rfl, (Kp.keep K0.out H.out.dom).trans (hk.mono (fun k hk => .inl hk))⟩
  have P0 := Lib.hid (H.out.fresh K0.out)
  obtain ⟨c0, c1, c2, f0, t0, t1, t2, t3, hp, hlen⟩ := hpc.kp K0.out
  have q0 := FB.out.cell 0 rfl; have q1 := FB.out.cell 1 rfl; have q2 := FB.out.cell 2 rfl
  have hrr : (len : Int) ≠ 0 := by omega
  have hr' : bnd (room (SrcN.hd s) im.length 8) (fun _ => bnd (expt [105, 109, 112, 111, 114, 116]) fun _ => bnd name fun t => if t.2.1 = pk ∨ im.contains t.2.1 then SrcN.fail t 10 else bnd (expt [59]) fun _ => ret t.2.1) s = some r := hr
  rw [hW0] at c0 t0 t1 t2 t3 q0 q1 q2
  rw [hfb] at q0 q1 q2
  clear hQ h hpk hN hvl hS hT hhd hW0 hfb hs0 hpc hlen hr
  by_cases hn : 8 ≤ vl
  · have hx : room (SrcN.hd s) im.length 8 s = some (.bad AT 2) := by
      unfold SrcN.room
      rw [if_pos (by rw [← HVL.out]; exact hn), HHD.out]
      rfl
    have HE : Hid (r = .bad AT 2) := by
      rcases bnd_some hr' with ⟨a, e, hm, he⟩ | ⟨_, s1, hm, -⟩
      · rw [hx] at hm
        injection hm with hm
        injection hm with h1 h2
        show _ = _
        rw [he, ← h1, ← h2]
      · rw [hx] at hm
        cases hm
    have hni : (8 : Int) ≤ (vl : Int) := by omega
    clear hr' hx
    go_enter Tryz.func91, Tryz.ntmps91
    go_wp2_with fail
    rw [← HW0.out] at c0 t0 t1 t2 t3 q0 q1 q2 ⊢
    go_still_tail 9, (by kernel_rfl)
    change wpList _ _ _ _ _ W0.drew
    have KD : Hid (Kp W0 W0.drew) := kp_drew W0
    generalize W0.drew = Wd at KD
    go_wp2_with fail
    refine (room_no K NM AT (st T) vl 8 hni Wd).mono ?_
    rintro e1 W1 ⟨rfl, hk⟩
    exact ⟨rfl, BAD.out _ _ _ (Kp.keep (Kp.trans KD.out hk) P0.out.dom) HE.out⟩
  · have hx : room (SrcN.hd s) im.length 8 s = some (.ok () s) := by
      unfold SrcN.room
      rw [if_neg (by rw [← HVL.out]; exact hn)]
      rfl
    have H0 : Hid (bnd (expt [105, 109, 112, 111, 114, 116]) (fun _ => bnd name fun t => if t.2.1 = pk ∨ im.contains t.2.1 then SrcN.fail t 10 else bnd (expt [59]) fun _ => ret t.2.1) s = some r) := by
      rcases bnd_some hr' with ⟨a, e, hm, he⟩ | ⟨u, s1, hm, hk⟩
      · rw [hx] at hm; cases hm
      · rw [hx] at hm
        injection hm with hm
        injection hm with h1 h2
        subst h2
        exact hk
    have hni : (vl : Int) < (8 : Int) := by omega
    clear hr' hx
    go_enter Tryz.func91, Tryz.ntmps91
    go_wp2_with fail
    rw [← HW0.out] at c0 t0 t1 t2 t3 q0 q1 q2 ⊢
    go_still_tail 9, (by kernel_rfl)
    change wpList _ _ _ _ _ W0.drew
    have KD : Hid (Kp W0 W0.drew) := kp_drew W0
    generalize W0.drew = Wd at KD
    clear c0 c1 c2 f0 t0 t1 t2 t3 q0 q1 q2
    go_wp2_with fail
    refine (room_yes K NM AT (st T) vl 8 hni Wd).mono ?_
    rintro e1 W1 ⟨rfl, hk⟩
    have P1 := Lib.hid (P0.out.kp (Kp.trans KD.out hk)); have E1 := Lib.hid (Kp.keep (Kp.trans KD.out hk) P0.out.dom)
    clear hk KD
    rcases bnd_some H0.out with ⟨a, e, hm, he⟩ | ⟨_, s2, hm, hk2⟩
    · have C := Lib.hid (expect_st P1.out (X := ⟨#[105, 109, 112, 111, 114, 116]⟩) (w := [105, 109, 112, 111, 114, 116]) rfl (lt_mem (by decide)) (by decide) hm)
      have HE := Lib.hid he
      clear hm he
      go_wp2_with fail
      refine C.out.mono ?_
      rintro e1 W2 ⟨rfl, hk⟩
      exact ⟨rfl, BAD.out _ _ _ (E1.out.trans hk) HE.out⟩
    have C := Lib.hid (expect_st P1.out (X := ⟨#[105, 109, 112, 111, 114, 116]⟩) (w := [105, 109, 112, 111, 114, 116]) rfl (lt_mem (by decide)) (by decide) hm)
    have H2 := Lib.hid hk2
    clear hm hk2
    go_wp2_with fail
    refine C.out.mono ?_
    rintro e1 W2 ⟨⟨v, rfl, rfl⟩, hpi, hke⟩
    have P2 := Lib.hid hpi; have E2 := Lib.hid (E1.out.trans hke)
    clear hpi hke C
    rcases bnd_some H2.out with ⟨a, e, hm, he⟩ | ⟨⟨K', T', NM', AT'⟩, s3, hm, hk3⟩
    · have C := Lib.hid (name_st P2.out hm)
      have HE := Lib.hid he
      clear hm he
      go_wp2_with fail
      refine C.out.mono ?_
      rintro e1 W3 ⟨rfl, hk⟩
      exact ⟨rfl, BAD.out _ _ _ (E2.out.trans hk) HE.out⟩
    have C := Lib.hid (name_st P2.out hm)
    have H3 : Hid ((if T' = pk ∨ im.contains T' then SrcN.fail (K', T', NM', AT') 10 else bnd (expt [59]) fun _ => ret T') s3 = some r) := hk3
    clear hm hk3
    go_wp2_with fail
    refine C.out.mono ?_
    rintro e1 W3 ⟨⟨v, rfl, rfl, hT⟩, hpi, hke⟩
    have P3 := Lib.hid hpi; have E3 := Lib.hid (E2.out.trans hke); have HT := Lib.hid hT
    clear hpi hke C hT
    obtain ⟨W4, hW4⟩ : ∃ W4, W4 = W3.alloc (Obj.cells #[.int .i64 (K' : Nat), .string (st T'), .int .i64 (NM' : Nat), .int .i64 (AT' : Nat)] 111) := ⟨_, rfl⟩
    have K4 : Hid (Kp W3 W4) := by show Kp W3 W4; rw [hW4]; exact kp_alloc W3 _
    obtain ⟨tb, htb⟩ : ∃ tb, tb = W3.heap.size := ⟨_, rfl⟩
    have hs4 : W4.heap.size = W3.heap.size + 1 := by rw [hW4]; simp
    have TB : Hid (Blk W4 tb 111 #[.int .i64 (K' : Nat), .string (st T'), .int .i64 (NM' : Nat), .int .i64 (AT' : Nat)]) := by show Blk _ _ _ _; rw [hW4, htb]; exact Blk.new _ _ _
    have MT : Hid (Mine (Mine F W W0) W3 W4 tb) := by show Mine _ _ _ _; rw [htb]; exact .inr ⟨Nat.le_refl _, by omega⟩
    have E4 := Lib.hid (E3.out.trans (Kp.keep K4.out P3.out.dom))
    have fb4 := (FB.out.kept E3.out MF.out).keep K4.out
    have q0 := fb4.cell 0 rfl; have q1 := fb4.cell 1 rfl; have q2 := fb4.cell 2 rfl
    have t0 := TB.out.cell 0 rfl; have t1 := TB.out.cell 1 rfl; have t2 := TB.out.cell 2 rfl; have t3 := TB.out.cell 3 rfl
    have NR4 := Lib.hid (((HN.out.kp K0.out).kept E3.out (fun k hk => .inl hk)).kp K4.out)
    have ETB := Lib.hid htb; have HW4 := Lib.hid hW4
    have hq := st_eqb HT.out.1 HPK.out
    obtain ⟨R, hR⟩ : ∃ R, R = st T' := ⟨_, rfl⟩
    rw [← hR, ← HS.out] at hq
    rw [← hR] at t1
    have HR := Lib.hid hR
    rw [hR] at t1
    rw [hW4] at q0 q1 q2 t0 t1 t2 t3
    rw [htb] at t0 t1 t2 t3
    rw [EFB.out] at q0 q1 q2
    rw [hR] at hq
    clear hW4 htb hs4 fb4 hR
    have FAIL : Hid (∀ W5, Kp W4 W5 → r = .bad AT' 10 → Q (pan AT' 10) W5) := fun W5 k he => BAD.out _ _ _ (E4.out.trans (Kp.keep k (fun b hb => (P3.out.kp K4.out).dom b hb))) he
    by_cases hTp : T' = pk
    · have hqt : ((st T').toList == S.toList) = true := by rw [hq, hTp]; exact beq_self_eq_true _
      have HE : Hid (r = .bad AT' 10) := by
        have := H3.out
        rw [if_pos (.inl hTp)] at this
        unfold SrcN.fail at this
        injection this with this
        exact this.symm
      have HTP := Lib.hid hTp
      clear hq hTp
      go_wp2_with fail
      rw [← HW4.out]
      refine (fail_any K' NM' AT' (st T') 10 W4).mono ?_
      rintro e1 W5 ⟨rfl, hk⟩
      exact ⟨rfl, FAIL.out W5 hk HE.out⟩
    · have hqf : ((st T').toList == S.toList) = false := by rw [hq]; exact beq_eq_false_iff_ne.2 hTp
      have CC : Hid (Calls Tryz.prog 127 #[.slice vo vl vc, .string (st T')] W4 fun e W' => e = .returned (.bool (im.contains T')) ∧ W4 = W') := by
        have := Contains_any NR4.out.own HT.out.1 NR4.out.ok (by have := NR4.out.few; omega)
        exact this
      clear hq
      go_wp2_with fail
      rw [← HW4.out] at q0 q1 q2 t0 t1 t2 t3 ⊢
      refine CC.out.mono ?_
      rintro e1 W5 ⟨rfl, rfl⟩
      cases hc : im.contains T' with
      | true =>
        have HE : Hid (r = .bad AT' 10) := by
          have := H3.out
          rw [if_pos (.inr hc)] at this
          unfold SrcN.fail at this
          injection this with this
          exact this.symm
        clear hc
        go_wp2_with fail
        refine (fail_any K' NM' AT' (st T') 10 W4).mono ?_
        rintro e1 W5 ⟨rfl, hk⟩
        exact ⟨rfl, FAIL.out W5 hk HE.out⟩
      | false =>
        have H4 : Hid (bnd (expt [59]) (fun _ => ret T') s3 = some r) := by
          have := H3.out
          rw [if_neg (by rw [hc]; simp [hTp])] at this
          exact this
        clear hc
        rcases bnd_some H4.out with ⟨a, e, hm, he⟩ | ⟨_, s5, hm, hk5⟩
        · have C := Lib.hid (expect_st (P3.out.fresh K4.out) (X := ⟨#[59]⟩) (w := [59]) rfl (lt_mem (by decide)) (by decide) hm)
          have HE := Lib.hid he
          clear hm he
          go_wp2_with fail
          refine C.out.mono ?_
          rintro e1 W5 ⟨rfl, hk⟩
          exact ⟨rfl, BAD.out _ _ _ (E4.out.trans (hk.mono (fun k hk => .inl hk))) HE.out⟩
        · have C := Lib.hid (expect_st (P3.out.fresh K4.out) (X := ⟨#[59]⟩) (w := [59]) rfl (lt_mem (by decide)) (by decide) hm)
          have HE : Hid (r = .ok T' s5) := by
            unfold ret at hk5
            injection hk5 with hk5
            exact hk5.symm
          clear hm hk5
          go_wp2_with fail
          refine C.out.mono ?_
          rintro e1 W5 ⟨⟨v, rfl, rfl⟩, hpi, hke⟩
          have tb5 := TB.out.kept hke MT.out
          have b1 := PI.back P3.out K4.out hpi hke (W2 := W5) (Nat.le_refl _) ⟨rfl, rfl, rfl⟩ (fun _ _ _ => rfl)
          have b2 := PI.back H.out K0.out b1.1 (E3.out.trans b1.2) (W2 := W5) (Nat.le_refl _) ⟨rfl, rfl, rfl⟩ (fun _ _ _ => rfl)
          have F2 : Hid (Q (.returned (.string (st T'))) W5) := by
            show Q _ _
            rw [HQ.out, HE.out]
            exact ⟨⟨_, rfl, rfl, HT.out.1, HT.out.2.1⟩, b2.1, b2.2⟩
          have u1 := tb5.cell 1 rfl
          rw [ETB.out] at u1
          clear hpi hke tb5 b1 b2 q0 q1 q2 t0 t1 t2 t3
          go_wp2_with fail
          first | exact F2.out | (go_ret3; exact F2.out) | (go_ret; exact F2.out)
end By
end Go.Proofs.YtmflgfojicaecaaGreatDoor

/- How a declaration that was read lies in memory, and how the parser's rows pass to it. No condition. -/
namespace Go.Proofs.YtmflgfojicaecaaGreatDoor
namespace By
open Go.RowKit WireN LexN SrcN
set_option linter.unusedVariables false
set_option linter.unusedSimpArgs false

/-- A declaration's parameters and nodes lie in blocks of G. -/
structure DcAt (G : Nat → Prop) (W : World) (d : Dc) (pv bv : Value) : Prop where
  prow : W.ownsRow 0 9 1 pv d.ps.length (d.ps.map fun n => Value.string (st n))
  pin : ∀ b, pv.ownBlock = some b → G b
  plt : ∀ n ∈ d.ps, Lt n
  pfew : d.ps.length ≤ 8
  bfew : d.bd.length ≤ 256
  brow : ∃ vs, vs.length = d.bd.length ∧ W.ownsRow 0 57 5 bv d.bd.length (ncells d.bd vs) ∧ ∀ (i : Nat) (n : Nd) (v : Value), d.bd[i]? = some n → vs[i]? = some v → Ints G W v n.args
  bin : ∀ b, bv.ownBlock = some b → G b
theorem DcAt.keep {G H : Nat → Prop} {W W' : World} {d : Dc} {pv bv : Value} (h : DcAt G W d pv bv) (hk : Keep H W W') (hs : ∀ k, G k → H k) : DcAt G W' d pv bv := by
  obtain ⟨vs, h1, h2, h3⟩ := h.brow
  exact ⟨own_keep h.prow (fun b hv => hk.block b (hs b (h.pin b hv))), h.pin, h.plt, h.pfew, h.bfew, ⟨vs, h1, own_keep h2 (fun b hv => hk.block b (hs b (h.bin b hv))), fun i n v hn hv => (h3 i n v hn hv).mono (fun b hb _ => ⟨hb, hk.block b (hs b hb)⟩) hk.size⟩, h.bin⟩
theorem DcAt.mono {G H : Nat → Prop} {W : World} {d : Dc} {pv bv : Value} (h : DcAt G W d pv bv) (hs : ∀ k, G k → H k) : DcAt H W d pv bv := by
  obtain ⟨vs, h1, h2, h3⟩ := h.brow
  exact ⟨h.prow, fun b hv => hs b (h.pin b hv), h.plt, h.pfew, h.bfew, ⟨vs, h1, h2, fun i n v hn hv => (h3 i n v hn hv).mono (fun b hb _ => ⟨hs b hb, rfl⟩) (Nat.le_refl _)⟩, fun b hv => hs b (h.bin b hv)⟩
/-- At a declaration's end its rows pass to others: from then on all old blocks but the parser's own may be others'. -/
theorem PM.over {F : Nat → Prop} {g p : Nat} {W : World} {s : St} {o rc : Nat} {pv bv : Value} {vs : List Value} (h : PM F g p W s o rc pv bv vs) (hlv : s.lv = true) (k : Nat) (nm : List Nat) :
    ∃ G : Nat → Prop, (∀ b, F b → G b) ∧ PM G g p W ⟨s.ts, [], [], false⟩ o rc pv bv vs ∧ DcAt (fun b => ¬ F b ∧ b ≠ p ∧ b < W.heap.size) W ⟨k, nm, s.ps, s.bd⟩ pv bv ∧ ∀ b, b < W.heap.size → b ≠ p → G b := by
  refine ⟨fun b => F b ∨ (b < W.heap.size ∧ b ≠ p), fun b hb => .inl hb, ?_, ?_, fun b h1 h2 => .inr ⟨h1, h2⟩⟩
  · exact {
      dom := fun b hb => by
        rcases hb with hb | hb
        · exact h.dom b hb
        · exact hb.1
      tok := fun b hb => .inl (h.tok b hb)
      glob := h.glob
      own := fun hp => by
        rcases hp with hp | hp
        · exact h.own hp
        · exact hp.2 rfl
      blk := h.blk
      toks := h.toks
      good := h.good
      cap := h.cap
      pown := fun l => by cases l
      pfew := fun l => by cases l
      plt := fun l => by cases l
      poff := fun l => by cases l
      bown := fun l => by cases l
      bfew := fun l => by cases l
      boff := fun l => by cases l
      vlen := fun l => by cases l
      args := fun l => by cases l }
  · exact {
      prow := h.pown hlv
      pin := fun b hv => ⟨(h.poff hlv b hv).1, (h.poff hlv b hv).2, ((h.pown hlv).lt b hv).2⟩
      plt := h.plt hlv
      pfew := h.pfew hlv
      bfew := h.bfew hlv
      brow := ⟨vs, h.vlen hlv, h.bown hlv, fun i n v hn hv => (h.args hlv i n v hn hv).mono (fun b hb hlt => ⟨⟨hb.1, hb.2.1, hlt⟩, rfl⟩) (Nat.le_refl _)⟩
      bin := fun b hv => ⟨(h.boff hlv b hv).1, (h.boff hlv b hv).2.1, ((h.bown hlv).lt b hv).2⟩ }
/-- A declaration begins: the parser's rows are empty. -/
theorem PM.reset {F : Nat → Prop} {g p : Nat} {W X : World} {s : St} {o rc : Nat} {pv bv : Value} {vs : List Value} (h : PM F g p W s o rc pv bv vs) (hX : X = (W.setCell ⟨p, 1, none⟩ (.slice none 0 0)).setCell ⟨p, 2, none⟩ (.slice none 0 0)) :
    PM F g p X ⟨s.ts, [], [], true⟩ o rc (.slice none 0 0) (.slice none 0 0) [] ∧ Keep F W X := by
  have ox : Only p W X := by rw [hX]; exact ((Only.refl p W).set 1 _).set 2 _
  have hf : ∀ b, F b → X.heap[b]? = W.heap[b]? := fun b hb => ox.block b (fun e => h.own (e ▸ hb))
  have bx : Blk X p 87 #[.slice (some ⟨g, o * 4, none⟩) s.ts.length rc, .slice none 0 0, .slice none 0 0] := by rw [hX]; exact (h.blk.set 1 _).set 2 _
  refine ⟨?_, ⟨ox.os, ox.tape, ox.output, Nat.le_of_eq ox.size, hf⟩⟩
  exact {
    dom := fun b hb => Nat.lt_of_lt_of_le (h.dom b hb) (Nat.le_of_eq ox.size)
    tok := h.tok
    glob := h.glob.keep (g := g) (fun b hb => hf b (h.tok b hb))
    own := h.own
    blk := bx
    toks := fun i t ht j u hu => (World.cell?_of_block (hf g (h.tok g (.inl rfl)))).trans (h.toks i t ht j u hu)
    good := h.good
    cap := h.cap
    pown := fun _ => World.ownsRow_nil _ _ _ _
    pfew := fun _ => Nat.zero_le _
    plt := fun _ n hn => by cases hn
    poff := fun _ b hv => by cases hv
    bown := fun _ => World.ownsRow_nil _ _ _ _
    bfew := fun _ => Nat.zero_le _
    boff := fun _ b hv => by cases hv
    vlen := fun _ => rfl
    args := fun _ i n v hn => by simp at hn }
end By
end Go.Proofs.YtmflgfojicaecaaGreatDoor

/- Reading keeps whether a declaration is read: the spec's parts. No condition. -/
namespace Go.Proofs.YtmflgfojicaecaaGreatDoor
namespace By
open Go.RowKit WireN LexN SrcN
set_option linter.unusedVariables false
set_option linter.unusedSimpArgs false

/-- A part that keeps lv. -/
def KLv {α : Type} (m : SrcN.P α) : Prop := ∀ s a s', m s = some (.ok a s') → s'.lv = s.lv
theorem klv_bnd {α β : Type} {m : SrcN.P α} {k : α → SrcN.P β} (hm : KLv m) (hk : ∀ a, KLv (k a)) : KLv (bnd m k) := by
  intro s b s' h
  rcases bnd_some h with ⟨_, _, _, h2⟩ | ⟨a, s1, h1, h2⟩
  · cases h2
  · exact (hk a _ _ _ h2).trans (hm _ _ _ h1)
theorem klv_ret {α : Type} (a : α) : KLv (ret a) := by
  intro s b s' h
  unfold ret at h
  cases h
  rfl
theorem klv_fail {α : Type} (t : Tok) (e : Nat) : KLv (SrcN.fail t e : SrcN.P α) := by
  intro s b s' h
  unfold SrcN.fail at h
  cases h
theorem klv_acc (w : List Nat) : KLv (acc w) := by
  intro s b s' h
  unfold acc at h
  split at h <;> (cases h; rfl)
theorem klv_expt (w : List Nat) : KLv (expt w) := by
  intro s b s' h
  unfold expt at h
  split at h
  · cases h; rfl
  · exact klv_fail _ _ s b s' h
theorem klv_take (k : Nat) : KLv (SrcN.take k) := by
  intro s b s' h
  unfold SrcN.take at h
  split at h
  · cases h; rfl
  · exact klv_fail _ _ s b s' h
theorem klv_ite {α : Type} {c : Prop} [Decidable c] {m k : SrcN.P α} (hm : KLv m) (hk : KLv k) : KLv (if c then m else k) := by
  split
  · exact hm
  · exact hk
theorem klv_room (t : Tok) (n m : Nat) : KLv (room t n m) := by unfold room; exact klv_ite (klv_fail _ _) (klv_ret _)
theorem klv_name : KLv name := by unfold name; exact klv_bnd (klv_take _) fun _ => klv_ite (klv_fail _ _) (klv_ret _)
theorem klv_text (fits : List Nat → Bool) : KLv (text fits) := by unfold text; exact klv_bnd (klv_take _) fun _ => klv_ite (klv_ret _) (klv_fail _ _)
theorem klv_node (t : Tok) (n : Nd) : KLv (node t n) := by
  intro s b s' h
  unfold node at h
  split at h
  · cases h
  · split at h
    · exact klv_fail _ _ s b s' h
    · cases h; rfl
theorem klv_listL {β : Type} {item : β → SrcN.P β} (hi : ∀ b, KLv (item b)) : ∀ (m : Nat) (b : β), KLv (listL item m b)
  | 0, _ => by intro s b s' h; unfold listL at h; cases h
  | m + 1, b => by
    unfold listL
    exact klv_bnd (klv_acc _) fun _ => klv_ite (klv_ret _) (klv_bnd (klv_expt _) fun _ => klv_bnd (hi _) fun _ => klv_listL hi m _)
theorem klv_list {β : Type} {item : β → SrcN.P β} (hi : ∀ b, KLv (item b)) (n : Nat) (b : β) : KLv (list n item b) := by
  unfold list
  exact klv_bnd (klv_expt _) fun _ => klv_bnd (klv_acc _) fun _ => klv_ite (klv_ret _) (klv_bnd (hi _) fun _ => klv_listL hi n _)
theorem klv_operL (lvl : Nat) : ∀ (l : List (Nat × List Nat × Nat)), KLv (operL lvl l)
  | [] => by unfold operL; exact klv_ret _
  | (o, w, l) :: r => by
    unfold operL
    exact klv_ite (klv_bnd (klv_acc _) fun _ => klv_ite (klv_ret _) (klv_operL lvl r)) (klv_operL lvl r)
theorem klv_loop (lvl : Nat) {sub : SrcN.P Nat} (hs : KLv sub) : ∀ (m left : Nat), KLv (loop lvl sub m left)
  | 0, _ => by intro s b s' h; unfold loop at h; cases h
  | m + 1, left => by
    intro s b s' h
    unfold loop at h
    refine klv_bnd ?_ ?_ s b s' h
    · exact klv_operL _ _
    · intro op
      exact klv_ite (klv_ret _) (klv_bnd hs fun _ => klv_bnd (klv_node _ _) fun _ => klv_ite (klv_ret _) (klv_loop lvl hs m _))
theorem klv_operation (n : Nat) {fac : SrcN.P Nat} (hf : KLv fac) : ∀ j, KLv (operation n fac j)
  | 0 => by unfold operation; exact hf
  | j + 1 => by
    unfold operation
    exact klv_bnd (klv_operation n hf j) fun _ => klv_loop _ (klv_operation n hf j) _ _
theorem klv_argsS {rec' : Nat → SrcN.P Nat} (hr : ∀ d, KLv (rec' d)) (d : Nat) (ys : List Nat) : KLv (argsS rec' d ys) := by
  intro s b s' h
  unfold argsS at h
  split at h
  · cases h
  · exact klv_bnd (hr _) (fun _ => klv_ret _) s b s' h
theorem klv_use (n : Nat) {rec' : Nat → SrcN.P Nat} (hr : ∀ d, KLv (rec' d)) (d : Nat) : KLv (use n rec' d) := by
  unfold use
  refine klv_bnd klv_name fun t => ?_
  intro s b s' h
  dsimp only at h
  split at h
  · exact klv_bnd (klv_list (klv_argsS hr d) _ _) (fun _ => klv_node _ _) s b s' h
  · split at h
    · cases h
    · split at h
      · exact klv_fail _ _ s b s' h
      · exact klv_node _ _ s b s' h
theorem klv_factor (n : Nat) {rec' : Nat → SrcN.P Nat} (hr : ∀ d, KLv (rec' d)) (d : Nat) : KLv (factor n rec' d) := by
  intro s b s' h
  unfold factor at h
  split at h
  · exact klv_bnd (klv_take _) (fun _ => klv_node _ _) s b s' h
  · refine klv_bnd (klv_acc _) ?_ s b s' h
    intro b1
    refine klv_ite (klv_bnd (klv_take _) fun _ => klv_node _ _) (klv_bnd (klv_acc _) fun _ => klv_ite (klv_bnd (hr _) fun _ => klv_bnd (klv_expt _) fun _ => klv_ret _) (klv_bnd (klv_acc _) fun _ => klv_ite (klv_bnd ?_ fun _ => klv_node _ _) (klv_bnd (klv_acc _) fun _ => klv_ite (klv_bnd ?_ fun _ => klv_node _ _) (klv_bnd (klv_acc _) fun _ => klv_ite (klv_bnd ?_ fun _ => klv_node _ _) (klv_bnd (klv_acc _) fun _ => klv_ite (klv_bnd ?_ fun _ => klv_node _ _) (klv_bnd (klv_acc _) fun _ => klv_ite (klv_bnd ?_ fun _ => klv_node _ _) (klv_use n hr d)))))))
    · unfold SrcN.read; exact klv_bnd (klv_expt _) fun _ => klv_bnd (klv_text _) fun _ => klv_bnd (klv_expt _) fun _ => klv_bnd (hr _) fun _ => klv_bnd (klv_expt _) fun _ => klv_ret _
    · unfold named; exact klv_bnd (klv_expt _) fun _ => klv_bnd (klv_text _) fun _ => klv_bnd (klv_expt _) fun _ => klv_ret _
    · unfold named; exact klv_bnd (klv_expt _) fun _ => klv_bnd (klv_text _) fun _ => klv_bnd (klv_expt _) fun _ => klv_ret _
    · unfold named; exact klv_bnd (klv_expt _) fun _ => klv_bnd (klv_text _) fun _ => klv_bnd (klv_expt _) fun _ => klv_ret _
    · unfold SrcN.flip; exact klv_bnd (klv_expt _) fun _ => klv_bnd (klv_take _) fun _ => klv_ite (klv_fail _ _) (klv_bnd (klv_expt _) fun _ => klv_ret _)
theorem klv_expr : ∀ (n d : Nat), KLv (expr n d)
  | 0, _ => by intro s b s' h; unfold expr at h; cases h
  | n + 1, d => by
    intro s b s' h
    unfold expr at h
    refine klv_bnd (klv_room _ _ _) ?_ s b s' h
    intro _
    refine klv_bnd (klv_acc _) fun b1 => klv_ite (klv_bnd (klv_expr n _) fun _ => klv_bnd (klv_expt _) fun _ => klv_bnd (klv_expr n _) fun _ => klv_bnd (klv_expt _) fun _ => klv_bnd (klv_expr n _) fun _ => klv_node _ _) (klv_operation n (klv_factor n (klv_expr n) d) 3)
theorem klv_param (u : Unit) : KLv (param u) := by
  unfold param
  refine klv_bnd klv_name fun t => ?_
  intro s b s' h
  dsimp only at h
  split at h
  · cases h
  · split at h
    · exact klv_fail _ _ s b s' h
    · split at h
      · exact klv_fail _ _ s b s' h
      · cases h; rfl
end By
end Go.Proofs.YtmflgfojicaecaaGreatDoor
