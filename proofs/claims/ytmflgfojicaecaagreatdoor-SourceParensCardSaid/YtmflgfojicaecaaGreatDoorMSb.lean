/- Parts of the parser at states: node, text, operator. Condition: the parser lies in memory as it is named. -/
import Derived.Test.YtmflgfojicaecaaGreatDoorSNode
import Derived.Test.YtmflgfojicaecaaGreatDoorMLd
import Derived.Deep.LoopGhost
namespace Go.Proofs.YtmflgfojicaecaaGreatDoor
namespace By
open Go.RowKit WireN LexN SrcN
set_option linter.unusedVariables false
set_option linter.unusedSimpArgs false

theorem node_st {F G : Nat → Prop} {g p : Nat} {W : World} {s : St} (h : PI G g p W s) (hs : ∀ k, F k → G k) (hb : ∀ b, Bs g b → F b) {t : Tok} {T : ByteArray} {nd : Nd} {V : Value} (hV : Ints (fun b => G b ∧ ¬ F b) W V nd.args) {r : Out Nat} (hr : node t nd s = some r) :
    Calls Tryz.prog 157 #[.pointer (some ⟨p, 0, none⟩), .agg #[.int .i64 (t.1 : Nat), .string T, .int .i64 (t.2.2.1 : Nat), .int .i64 (t.2.2.2 : Nat)], .agg #[.int .i64 (nd.k : Nat), .int .i64 nd.num, .int .i64 (nd.op : Nat), .string (st nd.nm), V]] W (Ans' F g p vN r W) := by
  unfold node at hr
  by_cases hlv' : s.lv = false
  · rw [if_pos hlv'] at hr; cases hr
  rw [if_neg hlv'] at hr
  have hlv : s.lv = true := by simpa using hlv'
  by_cases hn : 256 ≤ s.bd.length
  · rw [if_pos hn] at hr
    injection hr with hr
    obtain ⟨ao, ac, rfl, -⟩ := hV.ex
    refine (node_no h hlv hn).mono ?_
    rintro e W' ⟨rfl, hk⟩
    rw [← hr]
    exact ⟨rfl, Kp.keep hk (fun k hk => h.dom k (hs k hk))⟩
  · rw [if_neg hn] at hr
    injection hr with hr
    refine (node_yes h hlv hs hb hV (by omega)).mono ?_
    rintro e W' ⟨rfl, hpi, hke⟩
    rw [← hr]
    exact ⟨⟨_, rfl, rfl⟩, hpi, hke⟩
/-- A function that tells of a string whether it fits. -/
structure FitsT (f : Nat) (q : List Nat → Bool) : Prop where
  enter : ∀ (args : Array Value) (w : World), (callFunc f args).run Tryz.prog w = .ok (.enter f args) w
  any : ∀ {T : List Nat} (hT : Lt T) (hl : T.length ≤ 100000) {W : World} (hw : Glob W), Calls Tryz.prog f #[.string (st T)] W fun e W' => e = .returned (.bool (q T)) ∧ Kp W W'
theorem fitsN : FitsT 97 nameB := ⟨Tryz.call97, fun {T} hT hl {W} hw => (Name_any hT (by omega) W).mono fun e W' h => ⟨h.1, by rw [← h.2]; exact Kp.refl _⟩⟩
theorem fitsP : FitsT 104 pathB := ⟨Tryz.call104, fun {T} hT hl {W} hw => by
  obtain ⟨m, hm⟩ := hw.mx
  exact (Path_any hT (by omega) hm).mono fun e W' h => ⟨h.1, h.2⟩⟩
set_option maxRecDepth 100000 in
theorem text_st {F : Nat → Prop} {g p : Nat} {W : World} {s : St} (h : PI F g p W s) {f : Nat} {q : List Nat → Bool} (hf : FitsT f q) {r : Out Tok} (hr : text q s = some r) :
    Calls Tryz.prog 154 #[.pointer (some ⟨p, 0, none⟩), .func (.func f) #[] #[]] W (Ans' F g p vT r W) := by
  obtain ⟨Q, hQ⟩ : ∃ Q, Q = Ans' F g p vT r W := ⟨_, rfl⟩
  rw [← hQ]
  have HQ := Lib.hid hQ
  have H := Lib.hid h
  have HF := Lib.hid hf; have hin := hf.enter
  clear hf
  obtain ⟨W0, hW0⟩ : ∃ W0, W0 = W.alloc (Obj.cells #[.int .i64 0, .string ⟨#[]⟩, .int .i64 0, .int .i64 0] 111) := ⟨_, rfl⟩
  have hs0 : W0.heap.size = W.heap.size + 1 := by rw [hW0]; simp
  have K0 : Hid (Kp W W0) := by show Kp W W0; rw [hW0]; exact kp_alloc W _
  have B0 : Hid (Blk W0 W.heap.size 111 #[.int .i64 0, .string ⟨#[]⟩, .int .i64 0, .int .i64 0]) := by show Blk _ _ _ _; rw [hW0]; exact Blk.new _ _ _
  have HW0 := Lib.hid hW0; have Z0 := Lib.hid hs0
  clear hQ h hW0 hs0
  rcases bnd_some hr with ⟨a, e, hm, rfl⟩ | ⟨⟨K, T, NM, AT⟩, s', hm, hk2⟩
  · have C := Lib.hid (take_st (H.out.fresh K0.out) (by decide : (3 : Nat) ≠ 5) hm)
    clear hr hm
    go_enter Tryz.func154, Tryz.ntmps154
    go_wp2_with fail
    rw [← HW0.out]
    refine C.out.mono ?_
    rintro e1 W1 ⟨rfl, hk⟩
    refine ⟨rfl, ?_⟩
    rw [HQ.out]
    exact ⟨rfl, (Kp.keep K0.out H.out.dom).trans (hk.mono (fun k hk => .inl hk))⟩
  · have C := Lib.hid (take_st (H.out.fresh K0.out) (by decide : (3 : Nat) ≠ 5) hm)
    have HR := Lib.hid hk2
    clear hr hm hk2
    go_enter Tryz.func154, Tryz.ntmps154
    go_wp2_with fail
    rw [← HW0.out]
    refine C.out.mono ?_
    rintro e1 W1 ⟨⟨v, rfl, rfl, hT⟩, hpi, hke⟩
    have PI1 := Lib.hid hpi; have KE1 := Lib.hid hke; have HT := Lib.hid hT
    have B1 : Hid (Blk W1 W.heap.size 111 #[.int .i64 0, .string ⟨#[]⟩, .int .i64 0, .int .i64 0]) := B0.out.kept hke (.inr ⟨Nat.le_refl _, by have := Z0.out; omega⟩)
    obtain ⟨W2, hW2⟩ : ∃ W2, W2 = W1.alloc (Obj.cells #[.int .i64 (K : Nat), .string (st T), .int .i64 (NM : Nat), .int .i64 (AT : Nat)] 111) := ⟨_, rfl⟩
    have K2 : Hid (Kp W1 W2) := by show Kp W1 W2; rw [hW2]; exact kp_alloc W1 _
    have b2 : Blk W2 W1.heap.size 111 #[.int .i64 (K : Nat), .string (st T), .int .i64 (NM : Nat), .int .i64 (AT : Nat)] := by rw [hW2]; exact Blk.new _ _ _
    have q0 := b2.cell 0 rfl; have q1 := b2.cell 1 rfl; have q2 := b2.cell 2 rfl; have q3 := b2.cell 3 rfl
    have HW2 := Lib.hid hW2; have B2 := Lib.hid b2
    have Z1 := Lib.hid hke.size
    rw [hW2] at q0 q1 q2 q3
    clear hpi hke hT hW2 b2
    go_wp2_with fail
    rw [← HW2.out] at q0 q1 q2 q3 ⊢
    have GL2 : Glob W2 := by obtain ⟨_, _, _, _, _, hpm⟩ := PI1.out.kp K2.out; exact hpm.glob
    refine (HF.out.any HT.out.1 HT.out.2.1 GL2).mono ?_
    rintro e2 W3 ⟨rfl, hk3⟩
    have K3 := Lib.hid hk3
    replace K2 : Hid (Kp W1 W3) := Kp.trans K2.out hk3
    have b3 := B2.out.keep hk3
    clear GL2 hk3 q0 q1 q2 q3
    have q0 := b3.cell 0 rfl; have q1 := b3.cell 1 rfl; have q2 := b3.cell 2 rfl; have q3 := b3.cell 3 rfl
    clear b3 B2
    cases hb : q T with
    | false =>
      have FIN : Hid (∀ W4, Kp W3 W4 → Q (pan AT 9) W4) := by
        intro W4 hk4
        have hh := HR.out
        simp only [hb, if_pos] at hh
        rw [HQ.out]
        unfold SrcN.fail at hh
        injection hh with hh
        rw [← hh]
        have kk := Kp.trans K2.out hk4
        exact ⟨rfl, (PI.back H.out K0.out PI1.out KE1.out kk.size ⟨kk.os, kk.tape, kk.output⟩ (fun b hb _ => kk.block b hb)).2⟩
      clear hb
      go_wp2_with fail
      refine (fail_any K NM AT (st T) 9 W3).mono ?_
      rintro e W4 ⟨rfl, hk⟩
      exact ⟨rfl, FIN.out W4 hk⟩
    | true =>
      have FIN : Hid (∀ W4, Only W.heap.size W3 W4 → Q (.returned (.agg #[.int .i64 (K : Nat), .string (st T), .int .i64 (NM : Nat), .int .i64 (AT : Nat)])) W4) := by
        intro W4 ho
        have hh := HR.out
        simp only [hb, if_neg, Bool.false_eq_true, if_false] at hh
        rw [HQ.out]
        unfold ret at hh
        injection hh with hh
        rw [← hh]
        have kk := K2.out
        have := PI.back H.out K0.out PI1.out KE1.out (W2 := W4) (Nat.le_trans kk.size (Nat.le_of_eq ho.size)) ⟨ho.os.trans kk.os, ho.tape.trans kk.tape, ho.output.trans kk.output⟩ (fun b hb hn => (ho.block b (fun e => hn ⟨by omega, by have := Z0.out; omega⟩)).trans (kk.block b hb))
        exact ⟨⟨_, rfl, rfl, HT.out⟩, this.1, this.2⟩
      have b1 := B1.out.keep K2.out
      have z0 := b1.cell 0 rfl; have z1 := b1.cell 1 rfl; have z2 := b1.cell 2 rfl; have z3 := b1.cell 3 rfl
      have g0 := b1.free 0; have g1 := b1.free 1; have g2 := b1.free 2; have g3 := b1.free 3
      have BX := Lib.hid b1
      clear hb b1
      go_wp2_with fail
      clear q0 q1 q2 q3 z0 z1 z2 z3 g0 g1 g2 g3
      obtain ⟨Y, hY⟩ : ∃ Y, Y = (((W3.setCell ⟨W.heap.size, 0, none⟩ (.int .i64 (K : Nat))).setCell ⟨W.heap.size, 1, none⟩ (.string (st T))).setCell ⟨W.heap.size, 2, none⟩ (.int .i64 (NM : Nat))).setCell ⟨W.heap.size, 3, none⟩ (.int .i64 (AT : Nat)) := ⟨_, rfl⟩
      have oy : Only W.heap.size W3 Y := by rw [hY]; exact ((((Only.refl _ W3).set 0 _).set 1 _).set 2 _).set 3 _
      have by4 : Blk Y W.heap.size 111 #[.int .i64 (K : Nat), .string (st T), .int .i64 (NM : Nat), .int .i64 (AT : Nat)] := by rw [hY]; exact (((BX.out.set 0 _).set 1 _).set 2 _).set 3 _
      rw [← hY]
      have c0 := by4.cell 0 rfl; have c1 := by4.cell 1 rfl; have c2 := by4.cell 2 rfl; have c3 := by4.cell 3 rfl
      exact bodyPost_ret (by simp [results, Tryz.results154, go_sem, c0, c1, c2, c3]) rfl (FIN.out Y oy)
end By
end Go.Proofs.YtmflgfojicaecaaGreatDoor

/- The parser's operator. Condition: the parser lies in memory as it is named. -/
namespace Go.Proofs.YtmflgfojicaecaaGreatDoor
namespace By
open Go.RowKit WireN LexN SrcN
set_option linter.unusedVariables false
set_option linter.unusedSimpArgs false

theorem Ans'.mono {α : Type} {F : Nat → Prop} {g p : Nat} {val : α → World → Value → Prop} {r : Out α} {W0 W : World} {e : Ending} {W' : World} (h : Ans' F g p val r W e W') (hk : Keep F W0 W) : Ans' F g p val r W0 e W' := by
  cases r with
  | ok a s => exact ⟨h.1, h.2.1, hk.trans h.2.2⟩
  | bad a n => exact ⟨h.1, hk.trans h.2⟩
theorem PI.glob {F : Nat → Prop} {g p : Nat} {W : World} {s : St} (h : PI F g p W s) : Glob W := by
  obtain ⟨o, rc, pv, bv, vs, h⟩ := h
  exact h.glob
theorem ops_at {i : Nat} (h1 : 1 ≤ i) (h2 : i ≤ 7) : ∃ w l, SrcN.ops.drop (i - 1) = (i, w, l) :: SrcN.ops.drop i ∧ opsCells[i * 2]? = some (.string (st w)) ∧ opsCells[i * 2 + 1]? = some (.int .i64 (l : Nat)) ∧ Lt w ∧ w ≠ [] ∧ 1 ≤ l ∧ l ≤ 3 := by
  obtain rfl | rfl | rfl | rfl | rfl | rfl | rfl : i = 1 ∨ i = 2 ∨ i = 3 ∨ i = 4 ∨ i = 5 ∨ i = 6 ∨ i = 7 := by omega
  all_goals exact ⟨_, _, rfl, rfl, rfl, lt_mem (by decide), by decide, by decide, by decide⟩
set_option maxRecDepth 100000 in
set_option maxHeartbeats 2000000 in
theorem operator_st {F : Nat → Prop} {g p : Nat} {W : World} {s : St} (h : PI F g p W s) {lvl : Nat} (hl : lvl ≤ 4) {r : Out Nat} (hr : oper lvl s = some r) :
    Calls Tryz.prog 165 #[.pointer (some ⟨p, 0, none⟩), .int .i64 (lvl : Nat)] W (Ans' F g p vN r W) := by
  obtain ⟨Q, hQ⟩ : ∃ Q, Q = Ans' F g p vN r W := ⟨_, rfl⟩
  rw [← hQ]
  have HQ := Lib.hid hQ
  have H := Lib.hid h; have HR := Lib.hid hr
  clear h hQ hr
  go_enter Tryz.func165, Tryz.ntmps165
  go_wp2_with fail
  go_loopw [5] (fun iv wy => ∃ i : Nat, 1 ≤ i ∧ i ≤ 8 ∧ iv = .int .i64 i ∧ PI F g p wy s ∧ Keep F W wy ∧ Hid (operL lvl (SrcN.ops.drop (i - 1)) s = some r)) (fun iv _ => 8 - (intOf iv).toNat)
  case atStart => exact ⟨1, by omega, by omega, rfl, H.out, Keep.refl _ _, HR.out⟩
  case round =>
    obtain ⟨i, hi1, hi8, rfl, hpi, hke, hop⟩ := hrel
    have HPI := Lib.hid hpi; have HKE := Lib.hid hke
    by_cases hi : i ≤ 7
    · obtain ⟨w, l, hd, k0, k1, hlt, hne, hl1, hl3⟩ := ops_at hi1 hi
      have c0 := hpi.glob.op _ _ k0
      have c1 := hpi.glob.op _ _ k1
      have hop' := hop.out
      rw [hd] at hop'
      have HOP := Lib.hid hop'
      have HLT := Lib.hid hlt; have HNE := Lib.hid hne
      obtain ⟨S, hS⟩ : ∃ S, S = st w := ⟨_, rfl⟩
      rw [← hS] at c0
      have HS := Lib.hid hS
      clear hd k0 k1 hlt hne hop hop' hpi hke hS
      by_cases hll : l = lvl
      · have C := Lib.hid (accept_st HPI.out HS.out HLT.out HNE.out)
        cases hb : isW w s with
        | true =>
          rw [hb, if_pos rfl] at C
          have FIN : Hid (∀ W', StR F g p (.bool true) (SrcN.adv s) wr (.returned (.bool true)) W' → Q (.returned (.int .i64 (i : Nat))) W') := by
            intro W' hs
            have ho := HOP.out
            unfold operL at ho
            rw [if_pos hll] at ho
            simp only [bnd, SrcN.acc, hb, if_true, ret] at ho
            injection ho with ho
            rw [HQ.out, ← ho]
            exact ⟨⟨_, rfl, rfl⟩, hs.pi, HKE.out.trans hs.kp⟩
          clear hb
          subst hll
          go_wp2_with fail
          refine C.out.mono ?_
          intro e W1 hs
          obtain rfl := hs.e
          have F2 := Lib.hid (FIN.out W1 hs)
          clear hs
          go_wp2_with fail
          exact F2.out
        | false =>
          rw [hb, if_neg (by simp)] at C
          have NXT : Hid (operL lvl (SrcN.ops.drop i) s = some r) := by
            have ho := HOP.out
            unfold operL at ho
            rw [if_pos hll] at ho
            simp only [bnd, SrcN.acc, hb, if_false, Bool.false_eq_true] at ho
            exact ho
          clear hb
          subst hll
          go_wp2_with fail
          refine C.out.mono ?_
          intro e W1 hs
          obtain rfl := hs.e
          have HS1 := Lib.hid hs
          clear hs
          go_wp2_with fail
          go_roundw
          case rel => exact ⟨i + 1, by omega, by omega, vint (by omega), HS1.out.pi, HKE.out.trans HS1.out.kp, NXT.out⟩
          case measure => simp [intOf]; omega
      · have NXT : Hid (operL lvl (SrcN.ops.drop i) s = some r) := by
          have ho := HOP.out
          unfold operL at ho
          rw [if_neg hll] at ho
          exact ho
        have hb : ((l : Int) == (lvl : Int)) = false := beq_eq_false_iff_ne.2 (by omega)
        go_wp2_with fail
        go_roundw
        case rel => exact ⟨i + 1, by omega, by omega, vint (by omega), HPI.out, HKE.out, NXT.out⟩
        case measure => simp [intOf]; omega
    · have FIN : Hid (Q (.returned (.int .i64 0)) wr) := by
        have ho := hop.out
        obtain rfl : i = 8 := by omega
        have ho' : ret 0 s = some r := ho
        injection ho' with ho'
        show Q _ _
        rw [HQ.out, ← ho']
        exact ⟨⟨_, rfl, rfl⟩, HPI.out, HKE.out⟩
      clear hop hpi hke
      go_wp2_with fail
      exact FIN.out
end By
end Go.Proofs.YtmflgfojicaecaaGreatDoor

/- The parser's operation, given what its factor answers. Condition: the parser lies in memory as it is named. -/
namespace Go.Proofs.YtmflgfojicaecaaGreatDoor
namespace By
open Go.RowKit WireN LexN SrcN
set_option linter.unusedVariables false
set_option linter.unusedSimpArgs false

theorem PI.hd {F : Nat → Prop} {g p : Nat} {W : World} {s : St} (h : PI F g p W s) : ∃ o len rc pv bv K T NM AT, SrcN.hd s = (K, T, NM, AT) ∧ TokOk (K, T, NM, AT) ∧ PC p g o len rc pv bv K NM AT (st T) W := by
  obtain ⟨K, T, NM, AT, r, hs, hh, hT⟩ := h.cons
  obtain ⟨o, rc, pv, bv, vs, h⟩ := h
  exact ⟨o, _, rc, pv, bv, K, T, NM, AT, hh, hT, h.pc hs⟩
/-- A slice of indices that was just made. -/
theorem Ints.made {W W' : World} {xs : List Nat} {G : Nat → Prop} (hx : W' = W.alloc (.cells (xs.map fun x => Value.int .i64 (x : Nat)).toArray 3)) (hG : G W.heap.size) : Ints G W' (.slice (some ⟨W.heap.size, 0, none⟩) xs.length xs.length) xs := by
  have hb : Blk W' W.heap.size 3 (xs.map fun x => Value.int .i64 (x : Nat)).toArray := by rw [hx]; exact Blk.new _ _ _
  refine ⟨_, _, rfl, Nat.le_refl _, .inr ⟨_, 0, rfl, hG, hb.lt, fun j x hj => ?_⟩⟩
  refine hb.cell (0 + j) ?_
  rw [Nat.zero_add]
  simp [hj]
/-- What a part at a depth answers. -/
def Part (f : Nat) (m : P Nat) (xs : List Value) : Prop := ∀ (F : Nat → Prop) (g p : Nat) (W : World) (s : St) (r : Out Nat), PI F g p W s → m s = some r → Calls Tryz.prog f (#[.pointer (some ⟨p, 0, none⟩)] ++ xs.toArray) W (Ans' F g p vN r W)
set_option maxRecDepth 100000 in
set_option maxHeartbeats 4000000 in
theorem operation_round {n j d : Nat} {fac : P Nat} (hd : d ≤ 40) (hj : j ≤ 2) (sub : Part 156 (operation n fac j) [.int .i64 ((4 - j : Nat) : Int), .int .i64 (d : Nat)]) : Part 156 (operation n fac (j + 1)) [.int .i64 ((3 - j : Nat) : Int), .int .i64 (d : Nat)] := by
  intro F g p W s r h hr
  show Calls _ _ #[.pointer (some ⟨p, 0, none⟩), .int .i64 ((3 - j : Nat) : Int), .int .i64 (d : Nat)] _ _
  obtain ⟨lvl, hlvl⟩ : ∃ lvl, lvl = 3 - j := ⟨_, rfl⟩
  have e4 : 4 - j = lvl + 1 := by omega
  have hl1 : 1 ≤ lvl := by omega
  have hl3 : lvl ≤ 3 := by omega
  rw [← hlvl]
  rw [e4] at sub
  have SUB : Hid (∀ (F : Nat → Prop) (g p : Nat) (W : World) (s : St) (r : Out Nat), PI F g p W s → operation n fac j s = some r → Calls Tryz.prog 156 #[.pointer (some ⟨p, 0, none⟩), .int .i64 ((lvl + 1 : Nat) : Int), .int .i64 (d : Nat)] W (Ans' F g p vN r W)) := sub
  obtain ⟨Q, hQ⟩ : ∃ Q, Q = Ans' F g p vN r W := ⟨_, rfl⟩
  rw [← hQ]
  have HQ := Lib.hid hQ
  have H := Lib.hid h
  have hq4 : ((lvl : Int) == 4) = false := beq_eq_false_iff_ne.2 (by omega)
  clear hQ h sub e4
  have hr' : bnd (operation n fac j) (fun left => loop lvl (operation n fac j) n left) s = some r := by rw [hlvl]; exact hr
  obtain ⟨SB, hSB⟩ : ∃ SB, SB = operation n fac j := ⟨_, rfl⟩
  rw [← hSB] at SUB hr'
  clear hr hlvl hSB
  rcases bnd_some hr' with ⟨a, e, hm, rfl⟩ | ⟨left, s1, hm, hk2⟩
  · have C := Lib.hid (SUB.out F g p W s _ H.out hm)
    clear hr' hm
    go_enter Tryz.func156, Tryz.ntmps156
    go_wp2_with fail
    refine C.out.mono ?_
    rintro e1 W1 ⟨rfl, hk⟩
    exact ⟨rfl, by rw [HQ.out]; exact ⟨rfl, hk⟩⟩
  · have C := Lib.hid (SUB.out F g p W s _ H.out hm)
    have HK2 := Lib.hid hk2
    clear hr' hm hk2
    go_enter Tryz.func156, Tryz.ntmps156
    go_wp2_with fail
    refine C.out.mono ?_
    rintro e1 W1 ⟨⟨v, rfl, rfl⟩, hpi, hke⟩
    have PI1 := Lib.hid hpi; have KE1 := Lib.hid hke
    clear hpi hke
    go_wp2_with fail
    go_loopg [7] n (fun m lv wy => ∃ (left : Nat) (s' : St), lv = .int .i64 left ∧ PI F g p wy s' ∧ Keep F W wy ∧ Hid (loop lvl SB m left s' = some r))
    case atStart => exact ⟨left, s1, rfl, PI1.out, KE1.out, HK2.out⟩
    case round =>
      obtain ⟨left, s', rfl, hpi, hke, hlp⟩ := hrel
      have hlp' := hlp.out
      cases gk with
      | zero => unfold loop at hlp'; cases hlp'
      | succ m =>
      have hh0 : bnd (oper lvl) (fun op => if op = 0 then ret left else bnd SB fun right => bnd (node (SrcN.hd s') ⟨4, 0, op, [], [left, right]⟩) fun l' => if lvl = 1 then ret l' else loop lvl SB m l') s' = some r := hlp'
      obtain ⟨o, len, rc, pv, bv, K, T, NM, AT, hhd, hT, hpc⟩ := hpi.hd
      obtain ⟨c0, c1, c2, f0, t0, t1, t2, t3, hp, hlen⟩ := hpc
      have hrr : (len : Int) ≠ 0 := by omega
      obtain ⟨W0, hW0⟩ : ∃ W0, W0 = wr.alloc (Obj.cells #[.int .i64 (K : Nat), .string (st T), .int .i64 (NM : Nat), .int .i64 (AT : Nat)] 111) := ⟨_, rfl⟩
      have hs0 : W0.heap.size = wr.heap.size + 1 := by rw [hW0]; simp
      have K0 : Hid (Kp wr W0) := by show Kp wr W0; rw [hW0]; exact kp_alloc wr _
      have B0 : Hid (Blk W0 wr.heap.size 111 #[.int .i64 (K : Nat), .string (st T), .int .i64 (NM : Nat), .int .i64 (AT : Nat)]) := by show Blk _ _ _ _; rw [hW0]; exact Blk.new _ _ _
      have HW0 := Lib.hid hW0; have Z0 := Lib.hid hs0; have PIR := Lib.hid hpi; have KER := Lib.hid hke; have HT := Lib.hid hT; have HHD := Lib.hid hhd
      have MB : Hid (Mine F wr W0 wr.heap.size) := by show Mine _ _ _ _; exact .inr ⟨Nat.le_refl _, by omega⟩
      clear hpi hke hlp hlp' hW0 hs0 hlen hT hhd
      rcases bnd_some hh0 with ⟨a, e, hm, rfl⟩ | ⟨op, s2, hm, hk3⟩
      · have C := Lib.hid (operator_st (PIR.out.fresh K0.out) (by omega : lvl ≤ 4) hm)
        clear hh0 hm
        go_wp2_with fail
        rw [← HW0.out]
        refine C.out.mono ?_
        rintro e1 W1 ⟨rfl, hk⟩
        refine ⟨rfl, ?_⟩
        rw [HQ.out]
        exact ⟨rfl, KER.out.trans ((Kp.keep K0.out PIR.out.dom).trans (hk.mono (fun k hk => .inl hk)))⟩
      · have C := Lib.hid (operator_st (PIR.out.fresh K0.out) (by omega : lvl ≤ 4) hm)
        have HK3 := Lib.hid hk3
        clear hh0 hm hk3
        by_cases hop : op = 0
        · subst hop
          have HK4 : Hid (ret left s2 = some r) := by
            have := HK3.out
            rw [if_pos rfl] at this
            exact this
          clear HK3
          go_wp2_with fail
          rw [← HW0.out]
          clear c0 c1 c2 f0 t0 t1 t2 t3
          refine C.out.mono ?_
          rintro e1 W1 ⟨⟨v, rfl, rfl⟩, hpi, hke⟩
          have FIN : Hid (Q (.returned (.int .i64 (left : Nat))) W1) := by
            have hk := HK4.out
            injection hk with hk
            show Q _ _
            rw [HQ.out, ← hk]
            have := PI.back PIR.out K0.out hpi hke (W2 := W1) (Nat.le_refl _) ⟨rfl, rfl, rfl⟩ (fun _ _ _ => rfl)
            exact ⟨⟨_, rfl, rfl⟩, this.1, KER.out.trans this.2⟩
          clear hpi hke
          go_wp2_with fail
          exact FIN.out
        · have hopi : ((op : Int) == 0) = false := beq_eq_false_iff_ne.2 (by omega)
          have HK4 : Hid (bnd SB (fun right => bnd (node (SrcN.hd s') ⟨4, 0, op, [], [left, right]⟩) fun l' => if lvl = 1 then ret l' else loop lvl SB m l') s2 = some r) := by
            have := HK3.out
            rw [if_neg hop] at this
            exact this
          go_wp2_with fail
          rw [← HW0.out]
          clear c0 c1 c2 f0 t0 t1 t2 t3 HK3
          refine C.out.mono ?_
          rintro e1 W1 ⟨⟨v, rfl, rfl⟩, hpi, hke⟩
          have PI1' := Lib.hid hpi; have KE1' := Lib.hid hke
          clear hpi hke C
          rcases bnd_some HK4.out with ⟨a, e, hm, rfl⟩ | ⟨right, s3, hm, hk5⟩
          · have C := Lib.hid (SUB.out _ _ _ _ _ _ PI1'.out hm)
            clear hm
            go_wp2_with fail
            refine C.out.mono ?_
            rintro e1 W2 ⟨rfl, hk⟩
            refine ⟨rfl, ?_⟩
            rw [HQ.out]
            exact ⟨rfl, KER.out.trans ((Kp.keep K0.out PIR.out.dom).trans ((KE1'.out.trans hk).mono (fun k hk => .inl hk)))⟩
          · have C := Lib.hid (SUB.out _ _ _ _ _ _ PI1'.out hm)
            have HK5 := Lib.hid hk5
            clear hm hk5
            go_wp2_with fail
            refine C.out.mono ?_
            rintro e1 W2 ⟨⟨v, rfl, rfl⟩, hpi, hke⟩
            have PI2 := Lib.hid hpi
            have KE2 := Lib.hid (KE1'.out.trans hke)
            clear hpi hke C
            have b2 := B0.out.kept KE2.out MB.out
            obtain ⟨W3, hW3⟩ : ∃ W3, W3 = W2.alloc (Obj.cells #[.int .i64 (left : Nat), .int .i64 (right : Nat)] 3) := ⟨_, rfl⟩
            have K3 : Hid (Kp W2 W3) := by show Kp W2 W3; rw [hW3]; exact kp_alloc W2 _
            have q0 := b2.cell 0 rfl; have q1 := b2.cell 1 rfl; have q2 := b2.cell 2 rfl; have q3 := b2.cell 3 rfl
            have r0 := (b2.keep K3.out).cell 0 rfl; have r1 := (b2.keep K3.out).cell 1 rfl; have r2 := (b2.keep K3.out).cell 2 rfl; have r3 := (b2.keep K3.out).cell 3 rfl
            have HI : Hid (Ints (fun b => Mine (Mine F wr W0) W2 W3 b ∧ ¬ Mine F wr W0 b) W3 (.slice (some ⟨W2.heap.size, 0, none⟩) 2 2) [left, right]) := by
              show Ints _ _ _ _
              exact Ints.made (xs := [left, right]) hW3 ⟨.inr ⟨Nat.le_refl _, by rw [hW3]; simp⟩, fun hx => absurd (PI2.out.dom _ hx) (Nat.lt_irrefl _)⟩
            have HW3 := Lib.hid hW3
            rw [hW3] at r0 r1 r2 r3
            clear hW3 b2
            rcases bnd_some HK5.out with ⟨a, e, hm, rfl⟩ | ⟨l', s4, hm, hk6⟩
            · rw [HHD.out] at hm
              have C := Lib.hid (node_st (F := Mine F wr W0) (PI2.out.fresh K3.out) (fun k hk => .inl hk) (fun b hb => .inl (PIR.out.tok b hb)) (T := st T) HI.out hm)
              clear hm
              go_wp2_with fail
              rw [← HW3.out]
              refine C.out.mono ?_
              rintro e1 W4 ⟨rfl, hk⟩
              refine ⟨rfl, ?_⟩
              rw [HQ.out]
              exact ⟨rfl, KER.out.trans ((Kp.keep K0.out PIR.out.dom).trans (((KE2.out.trans (Kp.keep K3.out PI2.out.dom)).trans hk).mono (fun k hk => .inl hk)))⟩
            · rw [HHD.out] at hm
              have C := Lib.hid (node_st (F := Mine F wr W0) (PI2.out.fresh K3.out) (fun k hk => .inl hk) (fun b hb => .inl (PIR.out.tok b hb)) (T := st T) HI.out hm)
              have HK6 := Lib.hid hk6
              clear hm hk6
              by_cases hl : lvl = 1
              · go_wp2_with fail
                rw [← HW3.out]
                clear q0 q1 q2 q3 r0 r1 r2 r3
                refine C.out.mono ?_
                rintro e1 W4 ⟨⟨v, rfl, rfl⟩, hpi, hke⟩
                have hbk := PI.back PIR.out K0.out hpi ((KE2.out.trans (Kp.keep K3.out PI2.out.dom)).trans hke) (W2 := W4) (Nat.le_refl _) ⟨rfl, rfl, rfl⟩ (fun _ _ _ => rfl)
                have FIN : Hid (Q (.returned (.int .i64 (l' : Nat))) W4) := by
                  have hk := HK6.out
                  rw [if_pos hl] at hk
                  injection hk with hk
                  show Q _ _
                  rw [HQ.out, ← hk]
                  exact ⟨⟨_, rfl, rfl⟩, hbk.1, KER.out.trans hbk.2⟩
                have hli : ((lvl : Int) == 1) = true := by rw [hl]; rfl
                clear hpi hke hbk
                go_wp2_with fail
                exact FIN.out
              · have hli : ((lvl : Int) == 1) = false := beq_eq_false_iff_ne.2 (by omega)
                go_wp2_with fail
                rw [← HW3.out]
                clear q0 q1 q2 q3 r0 r1 r2 r3
                refine C.out.mono ?_
                rintro e1 W4 ⟨⟨v, rfl, rfl⟩, hpi, hke⟩
                have hbk := Lib.hid (PI.back PIR.out K0.out hpi ((KE2.out.trans (Kp.keep K3.out PI2.out.dom)).trans hke) (W2 := W4) (Nat.le_refl _) ⟨rfl, rfl, rfl⟩ (fun _ _ _ => rfl))
                have NXT : Hid (loop lvl SB m l' s4 = some r) := by
                  have hk := HK6.out
                  rw [if_neg hl] at hk
                  exact hk
                clear hpi hke
                go_wp2_with fail
                go_roundg m
                case rel => exact ⟨l', s4, rfl, hbk.out.1, KER.out.trans hbk.out.2, NXT.out⟩
                case measure => omega
end By
end Go.Proofs.YtmflgfojicaecaaGreatDoor

/- The parser's named and flip, and its levels of operation. Condition: the parser lies in memory as it is named. -/
namespace Go.Proofs.YtmflgfojicaecaaGreatDoor
namespace By
open Go.RowKit WireN LexN SrcN
set_option linter.unusedVariables false
set_option linter.unusedSimpArgs false

theorem fld1 (a c d : Int) (b : ByteArray) (w : World) : (Instr.field 111 (.agg #[.int .i64 a, .string b, .int .i64 c, .int .i64 d]) 1).run Tryz.prog w = .ok (.string b) w := by kernel_rfl
theorem fld2 (a c d : Int) (b : ByteArray) (w : World) : (Instr.field 111 (.agg #[.int .i64 a, .string b, .int .i64 c, .int .i64 d]) 2).run Tryz.prog w = .ok (.int .i64 c) w := by kernel_rfl
set_option maxRecDepth 100000 in
theorem operation_base {n d : Nat} {fac : P Nat} (sub : Part 164 fac [.int .i64 (d : Nat)]) : Part 156 (operation n fac 0) [.int .i64 ((4 : Nat) : Int), .int .i64 (d : Nat)] := by
  intro F g p W s r h hr
  show Calls _ _ #[.pointer (some ⟨p, 0, none⟩), .int .i64 4, .int .i64 (d : Nat)] _ _
  have C : Hid (Calls Tryz.prog 164 #[.pointer (some ⟨p, 0, none⟩), .int .i64 (d : Nat)] W (Ans' F g p vN r W)) := sub F g p W s r h hr
  obtain ⟨Q, hQ⟩ : ∃ Q, Q = Ans' F g p vN r W := ⟨_, rfl⟩
  rw [← hQ] at C ⊢
  have HQ := Lib.hid hQ
  clear hQ sub h hr
  go_enter Tryz.func156, Tryz.ntmps156
  go_wp2_with fail
  refine C.out.mono ?_
  intro e W1 hq
  rw [HQ.out] at hq
  cases r with
  | bad a n =>
    obtain ⟨rfl, hk⟩ := hq
    exact ⟨rfl, by rw [HQ.out]; exact ⟨rfl, hk⟩⟩
  | ok i s' =>
    have HQ2 := Lib.hid hq
    obtain ⟨⟨v, rfl, rfl⟩, -, -⟩ := hq
    have F2 : Hid (Q (.returned (.int .i64 (i : Nat))) W1) := by show Q _ _; rw [HQ.out]; exact HQ2.out
    clear HQ2
    go_wp2_with fail
    first | exact F2.out | (go_ret3; exact F2.out)
theorem operation_all {n d : Nat} {fac : P Nat} (hd : d ≤ 40) (sub : Part 164 fac [.int .i64 (d : Nat)]) : Part 156 (operation n fac 3) [.int .i64 ((1 : Nat) : Int), .int .i64 (d : Nat)] :=
  operation_round hd (by decide : (2 : Nat) ≤ 2) (operation_round hd (by decide : (1 : Nat) ≤ 2) (operation_round hd (by decide : (0 : Nat) ≤ 2) (operation_base sub)))
/-- A node's value whose indices lie in V. -/
def ndV (n : Nd) (V : Value) : Value := .agg #[.int .i64 (n.k : Nat), .int .i64 n.num, .int .i64 (n.op : Nat), .string (st n.nm), V]
/-- What a part answers that makes a node: the node's indices lie in a block of its own. -/
def AnsX (F : Nat → Prop) (g p : Nat) (r : Out Nd) (W : World) (e : Ending) (W' : World) : Prop :=
  match r with
  | .ok x s => ∃ V G, e = .returned (ndV x V) ∧ (∀ k, F k → G k) ∧ PI G g p W' s ∧ Ints (fun b => G b ∧ ¬ F b) W' V x.args ∧ Keep F W W'
  | .bad at' n => e = pan at' n ∧ Keep F W W'
set_option maxRecDepth 100000 in
set_option maxHeartbeats 2000000 in
theorem named_st {F : Nat → Prop} {g p : Nat} {W : World} {s : St} (h : PI F g p W s) {k : Nat} {f : Nat} {q : List Nat → Bool} (hf : FitsT f q) {r : Out Nd} (hr : named k q s = some r) :
    Calls Tryz.prog 173 #[.pointer (some ⟨p, 0, none⟩), .int .i64 (k : Nat), .func (.func f) #[] #[]] W (AnsX F g p r W) := by
  obtain ⟨Q, hQ⟩ : ∃ Q, Q = AnsX F g p r W := ⟨_, rfl⟩
  rw [← hQ]
  have HQ := Lib.hid hQ
  have H := Lib.hid h; have HF := Lib.hid hf
  obtain ⟨W0, hW0⟩ : ∃ W0, W0 = W.alloc (Obj.cells #[.int .i64 0, .int .i64 0, .int .i64 0, .string ⟨#[]⟩, .slice none 0 0] 57) := ⟨_, rfl⟩
  have hs0 : W0.heap.size = W.heap.size + 1 := by rw [hW0]; simp
  have K0 : Hid (Kp W W0) := by show Kp W W0; rw [hW0]; exact kp_alloc W _
  have B0 : Hid (Blk W0 W.heap.size 57 #[.int .i64 0, .int .i64 0, .int .i64 0, .string ⟨#[]⟩, .slice none 0 0]) := by show Blk _ _ _ _; rw [hW0]; exact Blk.new _ _ _
  have HW0 := Lib.hid hW0; have Z0 := Lib.hid hs0
  have MB : Hid (Mine F W W0 W.heap.size) := by show Mine _ _ _ _; exact .inr ⟨Nat.le_refl _, by omega⟩
  have BAD : Hid (∀ a e W', Keep (Mine F W W0) W0 W' → r = .bad a e → Q (pan a e) W') := by
    intro a e W' hk he
    rw [HQ.out, he]
    exact ⟨rfl, (Kp.keep K0.out H.out.dom).trans (hk.mono (fun k hk => .inl hk))⟩
  clear hQ h hW0 hs0 hf
  unfold named at hr
  rcases bnd_some hr with ⟨a, e, hm, he⟩ | ⟨_, s1, hm, hk1⟩
  · have C := Lib.hid (expect_st (H.out.fresh K0.out) (X := ⟨#[40]⟩) (w := [40]) rfl (lt_mem (by decide)) (by decide) hm)
    have HE := Lib.hid he
    clear hr hm he
    go_enter Tryz.func173, Tryz.ntmps173
    go_wp2_with fail
    rw [← HW0.out]
    refine C.out.mono ?_
    rintro e1 W1 ⟨rfl, hk⟩
    exact ⟨rfl, BAD.out _ _ _ hk HE.out⟩
  · have C := Lib.hid (expect_st (H.out.fresh K0.out) (X := ⟨#[40]⟩) (w := [40]) rfl (lt_mem (by decide)) (by decide) hm)
    have HK1 := Lib.hid hk1
    clear hr hm hk1
    go_enter Tryz.func173, Tryz.ntmps173
    go_wp2_with fail
    rw [← HW0.out]
    refine C.out.mono ?_
    rintro e1 W1 ⟨⟨v, rfl, rfl⟩, hpi, hke⟩
    have PI1 := Lib.hid hpi; have KE1 := Lib.hid hke
    clear hpi hke C
    rcases bnd_some HK1.out with ⟨a, e, hm, he⟩ | ⟨⟨K, T, NM, AT⟩, s2, hm, hk2⟩
    · have C := Lib.hid (text_st PI1.out HF.out hm)
      have HE := Lib.hid he
      clear hm he
      go_wp2_with fail
      refine C.out.mono ?_
      rintro e1 W2 ⟨rfl, hk⟩
      exact ⟨rfl, BAD.out _ _ _ (KE1.out.trans hk) HE.out⟩
    · have C := Lib.hid (text_st PI1.out HF.out hm)
      have HK2 := Lib.hid hk2
      clear hm hk2
      go_wp2_with fail
      refine C.out.mono ?_
      rintro e1 W2 ⟨⟨v, rfl, rfl, hT⟩, hpi, hke⟩
      have PI2 := Lib.hid hpi; have KE2 := Lib.hid (KE1.out.trans hke)
      clear hpi hke C hT
      obtain ⟨W3, hW3⟩ : ∃ W3, W3 = W2.alloc (Obj.cells #[.int .i64 (k : Nat), .int .i64 0, .int .i64 0, .string (st T), .slice none 0 0] 57) := ⟨_, rfl⟩
      have K3 : Hid (Kp W2 W3) := by show Kp W2 W3; rw [hW3]; exact kp_alloc W2 _
      have B3 : Hid (Blk W3 W2.heap.size 57 #[.int .i64 (k : Nat), .int .i64 0, .int .i64 0, .string (st T), .slice none 0 0]) := by show Blk _ _ _ _; rw [hW3]; exact Blk.new _ _ _
      have MB3 : Hid (Mine (Mine F W W0) W2 W3 W2.heap.size) := by show Mine _ _ _ _; exact .inr ⟨Nat.le_refl _, by rw [hW3]; simp⟩
      have HW3 := Lib.hid hW3
      have hf1 := fun w => fld1 (K : Nat) (NM : Nat) (AT : Nat) (st T) w
      clear hW3
      rcases bnd_some HK2.out with ⟨a, e, hm, he⟩ | ⟨_, s3, hm, hk3⟩
      · have C := Lib.hid (expect_st (PI2.out.fresh K3.out) (X := ⟨#[41]⟩) (w := [41]) rfl (lt_mem (by decide)) (by decide) hm)
        have HE := Lib.hid he
        clear hm he
        go_wp2_with fail
        rw [← HW3.out]
        refine C.out.mono ?_
        rintro e1 W4 ⟨rfl, hk⟩
        exact ⟨rfl, BAD.out _ _ _ ((KE2.out.trans (Kp.keep K3.out PI2.out.dom)).trans (hk.mono (fun k hk => .inl hk))) HE.out⟩
      · have C := Lib.hid (expect_st (PI2.out.fresh K3.out) (X := ⟨#[41]⟩) (w := [41]) rfl (lt_mem (by decide)) (by decide) hm)
        have HK3 := Lib.hid hk3
        clear hm hk3
        go_wp2_with fail
        rw [← HW3.out]
        refine C.out.mono ?_
        rintro e1 W4 ⟨⟨v, rfl, rfl⟩, hpi, hke⟩
        have b4 := B3.out.kept hke MB3.out
        have b0 := (B0.out.kept KE2.out MB.out).keep K3.out |>.kept hke (.inl MB.out)
        have hbk := PI.back PI2.out K3.out hpi hke (W2 := W4) (Nat.le_refl _) ⟨rfl, rfl, rfl⟩ (fun _ _ _ => rfl)
        have FIN : Hid (∀ Y, Only W.heap.size W4 Y → Q (.returned (.agg #[.int .i64 (k : Nat), .int .i64 0, .int .i64 0, .string (st T), .slice none 0 0])) Y) := by
          intro Y ho
          have hk := HK3.out
          unfold ret at hk
          injection hk with hk
          have hb2 := PI.back H.out K0.out hbk.1 (KE2.out.trans hbk.2) (W2 := Y) (Nat.le_of_eq ho.size) ⟨ho.os, ho.tape, ho.output⟩ (fun b hb hn => ho.block b (fun e => hn ⟨by omega, by have := Z0.out; omega⟩))
          rw [HQ.out, ← hk]
          exact ⟨_, F, rfl, fun k hk => hk, hb2.1, Ints.nil _ _, hb2.2⟩
        have q0 := b4.cell 0 rfl; have q1 := b4.cell 1 rfl; have q2 := b4.cell 2 rfl; have q3 := b4.cell 3 rfl; have q4 := b4.cell 4 rfl
        have z0 := b0.cell 0 rfl; have z1 := b0.cell 1 rfl; have z2 := b0.cell 2 rfl; have z3 := b0.cell 3 rfl; have z4 := b0.cell 4 rfl
        have g0 := b0.free 0; have g1 := b0.free 1; have g2 := b0.free 2; have g3 := b0.free 3; have g4 := b0.free 4
        have BX := Lib.hid b0
        clear hpi hke b4 b0 hbk C
        go_wp2_with fail
        clear q0 q1 q2 q3 q4 z0 z1 z2 z3 z4 g0 g1 g2 g3 g4
        obtain ⟨Y, hY⟩ : ∃ Y, Y = ((((W4.setCell ⟨W.heap.size, 0, none⟩ (.int .i64 (k : Nat))).setCell ⟨W.heap.size, 1, none⟩ (.int .i64 0)).setCell ⟨W.heap.size, 2, none⟩ (.int .i64 0)).setCell ⟨W.heap.size, 3, none⟩ (.string (st T))).setCell ⟨W.heap.size, 4, none⟩ (.slice none 0 0) := ⟨_, rfl⟩
        have oy : Only W.heap.size W4 Y := by rw [hY]; exact (((((Only.refl _ W4).set 0 _).set 1 _).set 2 _).set 3 _).set 4 _
        have by5 : Blk Y W.heap.size 57 #[.int .i64 (k : Nat), .int .i64 0, .int .i64 0, .string (st T), .slice none 0 0] := by rw [hY]; exact ((((BX.out.set 0 _).set 1 _).set 2 _).set 3 _).set 4 _
        rw [← hY]
        have c0 := by5.cell 0 rfl; have c1 := by5.cell 1 rfl; have c2 := by5.cell 2 rfl; have c3 := by5.cell 3 rfl; have c4 := by5.cell 4 rfl
        exact bodyPost_ret (by simp [results, Tryz.results173, go_sem, c0, c1, c2, c3, c4]) rfl (FIN.out Y oy)
end By
end Go.Proofs.YtmflgfojicaecaaGreatDoor
