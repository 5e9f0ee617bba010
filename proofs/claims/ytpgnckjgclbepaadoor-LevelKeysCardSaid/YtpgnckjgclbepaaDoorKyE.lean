/- The library's Collect of a slice's keys: a range over a function. Condition: at most a thousand keys. -/
import Derived.Test.YtpgnckjgclbepaaDoorKyD
import Derived.Test.YtpgnckjgclbepaaDoorWRange
import Derived.Maps.OwnIn
namespace Go.Proofs.YtpgnckjgclbepaaDoor
namespace By
open Go.RowKit Go.Shelf WireN LexN RevN KeyN
set_option linter.unusedVariables false
set_option linter.unusedSimpArgs false
attribute [local go_sem] Oper.semAt_some

theorem heap_keepk {w W : World} {k : Nat} {o : Obj} (h : w.heap[k]? = some o) (hk : Kp w W) : W.heap[k]? = some o := by
  have hlt : k < w.heap.size := by
    rcases Nat.lt_or_ge k w.heap.size with h1 | h1
    · exact h1
    · rw [Array.getElem?_eq_none h1] at h; cases h
  rw [hk.block k hlt]; exact h
theorem heap_atk {w : World} (o : Obj) {W : World} (hk : Kp (w.alloc o) W) {n : Nat} (hn : w.heap.size = n) : W.heap[n]? = some o := by
  subst hn
  exact heap_keepk (World.alloc_heap_new w o) hk
/-- How AppendSeq's memory stands between two rounds: the box of the slice, the deferred calls, the loop's record, the row. -/
structure AI (w W : World) (lo : Obj) (vo : Value) (ks : List Ky) : Prop where
  kp : Kp w W
  co : Blk W w.heap.size 23 #[vo]
  df : W.heap[w.heap.size + 1]? = some (.deferred (some []))
  lp : W.heap[w.heap.size + 2]? = some lo
  own : W.ownsRow (w.heap.size + 3) 29 3 vo ks.length (kcel ks)
theorem AI.keep {w W W' : World} {lo : Obj} {vo : Value} {ks : List Ky} (h : AI w W lo vo ks) (hk : Kp W W') : AI w W' lo vo ks := by
  refine ⟨Kp.trans h.kp hk, h.co.keep hk, heap_keepk h.df hk, heap_keepk h.lp hk, ?_⟩
  refine World.ownsRow.kept (row := none) h.own ⟨hk.os, hk.tape, hk.output, hk.size, fun i hi _ => hk.block i hi⟩ ?_
  rcases h.own.2 with ⟨rfl, _⟩ | ⟨g', cap', cur, rfl, hb', _⟩
  · exact .inl rfl
  · right; intro e; simp [Value.ownBlock] at e
theorem AI.by {w W W' : World} {lo : Obj} {vo : Value} {ks : List Ky} {b : Nat} (h : AI w W lo vo ks) (hg : W.grownBy W' (some b)) (hb : b < w.heap.size + 3) (hb0 : w.heap.size ≤ b) : Kp w W' ∧ W'.ownsRow (w.heap.size + 3) 29 3 vo ks.length (kcel ks) := by
  refine ⟨Below.grown h.kp hg h.kp.size (fun k hk => by injection hk; omega), ?_⟩
  refine World.ownsRow.kept h.own hg ?_
  rcases h.own.2 with ⟨rfl, _⟩ | ⟨g', cap', cur, rfl, hb', _⟩
  · exact .inl rfl
  · right; intro e; simp [Value.ownBlock] at e; omega
theorem AI.put {w W : World} {r : Loop} {lo' : Obj} {vo : Value} {ks : List Ky} (h : AI w W (.loop r) vo ks) : AI w (W.putObj (w.heap.size + 2) lo') lo' vo ks := by
  have hg := grownBy_putObj' W (w.heap.size + 2) lo'
  have hlt : w.heap.size + 2 < W.heap.size := (Array.getElem?_eq_some_iff.1 h.lp).1
  obtain ⟨h1, h2⟩ := h.by hg (by omega) (by omega)
  exact ⟨h1, h.co.by hg (by simp), (World.putObj_heap_other (by omega)).trans h.df, World.putObj_heap_same hlt, h2⟩
/-- Behind an append and its store. -/
theorem AI.out {w W W' : World} {lo : Obj} {vo v' : Value} {ks : List Ky} {k : Ky} (h : AI w W lo vo ks) (hg : W.grownBy W' vo.ownBlock)
    (hr : W'.ownsRow (w.heap.size + 3) 29 3 v' (ks.length + 1) (kcel ks ++ [.int .i64 k.1, .string (st k.2.1), .string (st k.2.2)])) : AI w (W'.setCell ⟨w.heap.size, 0, none⟩ v') lo v' (ks ++ [k]) := by
  have hne : ∀ n, n < w.heap.size + 3 → some n ≠ vo.ownBlock := fun n hn e => by have := ((row_frm h.own).2 n e.symm).1; omega
  have k1 : Kp w W' := Below.grown h.kp hg h.kp.size (fun k hk => by have := ((row_frm h.own).2 k hk).1; omega)
  have g0 := grownBy_setCell' W' w.heap.size v'
  have hz1 : w.heap.size + 1 < W.heap.size := (Array.getElem?_eq_some_iff.1 h.df).1
  have hz2 : w.heap.size + 2 < W.heap.size := (Array.getElem?_eq_some_iff.1 h.lp).1
  have b0 := h.co.by hg (hne _ (by omega))
  refine ⟨Below.grown k1 g0 k1.size (fun k hk => by injection hk; omega), b0.set 0 v', ?_, ?_, ?_⟩
  · rw [g0.block _ (Nat.lt_of_lt_of_le hz1 hg.size) (by simp), hg.block _ hz1 (hne _ (by omega))]; exact h.df
  · rw [g0.block _ (Nat.lt_of_lt_of_le hz2 hg.size) (by simp), hg.block _ hz2 (hne _ (by omega))]; exact h.lp
  · have hr2 : W'.ownsRow (w.heap.size + 3) 29 3 v' (ks ++ [k]).length (kcel (ks ++ [k])) := by rw [List.length_append, kcel_snoc]; exact hr
    refine World.ownsRow.kept hr2 g0 ?_
    rcases hr2.2 with ⟨rfl, _⟩ | ⟨g', cap', cur, rfl, hb', _⟩
    · exact .inl rfl
    · right; intro e; simp [Value.ownBlock] at e; omega
theorem AI.shut {w W : World} {lo : Obj} {vo : Value} {ks : List Ky} (h : AI w W lo vo ks) (hok : ∀ x ∈ ks, KyOk x) :
    Blk (W.putObj (w.heap.size + 1) (.deferred none)) w.heap.size 23 #[vo] ∧ OwK w (W.putObj (w.heap.size + 1) (.deferred none)) vo ks := by
  have hg := grownBy_putObj' W (w.heap.size + 1) (.deferred none)
  obtain ⟨h1, h2⟩ := h.by hg (by omega) (by omega)
  refine ⟨h.co.by hg (by simp), ?_, hok, h1⟩
  refine ⟨h2.1, ?_⟩
  rcases h2.2 with h3 | ⟨g, cap, cur, e1, e2, e3⟩
  · exact .inl h3
  · exact .inr ⟨g, cap, cur, e1, by omega, e3⟩
set_option maxRecDepth 100000 in
set_option maxHeartbeats 4000000 in
theorem AppendSeq_k {w : World} {bx n cap : Nat} {ao : Option Addr} {ks : List Ky} (hb : Blk w bx 23 #[.slice ao n cap]) (hs : Kw w (.slice ao n cap) ks) (hn2 : n ≤ 1000) :
    Calls Tryd.prog 58 #[.slice none 0 0, .func (.func 48) #[] #[.pointer (some ⟨bx, 0, none⟩)]] w fun e w' => ∃ v, e = .returned v ∧ OwK w w' v ks := by
  obtain ⟨ao', cap', e, hcap, -, -⟩ := hs.open3
  simp only [Value.slice.injEq] at e
  obtain ⟨rfl, hn, rfl⟩ := e
  have HB := Lib.hid hb; have HS := Lib.hid hs; have HN := Lib.hid hn
  have hni : (n : Int) ≤ 1000 := by omega
  have hci : (n : Int) ≤ (cap : Int) := by omega
  obtain ⟨R, hR⟩ : ∃ R : Ending → World → Prop, R = fun e w' => ∃ v, e = .returned v ∧ OwK w w' v ks := ⟨_, rfl⟩
  have FIN : Hid (∀ (W : World) (vo : Value) (lo : Obj), AI w W lo vo ks → R (.returned vo) (W.putObj (w.heap.size + 1) (.deferred none))) := Lib.hid (by
    intro W vo lo h
    rw [hR]
    exact ⟨vo, rfl, (h.shut HS.out.ok).2⟩)
  rw [← hR]
  clear hR hb hs hn hcap hn2
  refine (callsIn_wide (n := 5)).1 ?_
  refine callsIn_of_wp_marks Tryd.func58 rfl trivial ?_ rfl
  simp only [Tryd.ntmps58, List.size_toArray, List.length_cons, List.length_nil, Nat.reduceAdd, Nat.reduceSub, Array.replicate_succ, Array.replicate_zero, List.push_toArray, List.append_toArray, List.nil_append, List.cons_append]
  gi_wp2_with fail
  refine range_begin rfl (fun _ => trivial) (by omega) rfl (enters_of Tryd.func48 (by kernel_rfl) rfl) (fun fn asg bdy tm hasg hbdy htm => ?_)
  refine callsIn_of_wp Tryd.func48 rfl trivial ?_ rfl
  simp only [Tryd.ntmps48, List.size_toArray, List.length_cons, List.length_nil, Nat.reduceAdd, Nat.reduceSub, Array.replicate_succ, Array.replicate_zero, List.push_toArray, List.append_toArray, List.nil_append, List.cons_append]
  have HASG := Lib.hid hasg; have HBDY := Lib.hid hbdy; have HTM := Lib.hid htm
  clear hasg hbdy htm
  have hAI0 : AI w (((w.alloc (.cells #[.slice none 0 0] 23)).alloc (.deferred (some []))).alloc (.loop (recd fn tm #[7] asg bdy (w.heap.size + 1) .ready none))) (.loop (recd fn tm #[7] asg bdy (w.heap.size + 1) .ready none)) (.slice none 0 0) [] :=
    ⟨Kp.alloc (Kp.alloc (kp_alloc _ _) _) _, heap_atk _ (Kp.alloc (kp_alloc _ _) _) rfl, heap_atk _ (kp_alloc _ _) (by simp), heap_atk _ (Kp.refl _) (by simp), World.ownsRow_nil _ _ _ _⟩
  have HAI0 := Lib.hid hAI0
  have cb := (HB.out.keep hAI0.kp).cell 0 rfl
  clear hAI0
  gi_wp2_with fail
  clear cb
  gi_loopw [7] (fun p wr => ∃ (j : Nat) (vo : Value), p = .int .i64 (j : Nat) ∧ j ≤ n ∧ AI w wr (.loop (recd fn tm #[7] asg bdy (w.heap.size + 1) .ready none)) vo (ks.take j)) (fun p _ => n - (intOf p).toNat)
  case atStart => exact ⟨0, _, rfl, Nat.zero_le _, HAI0.out⟩
  case round =>
    obtain ⟨j, vo, rfl, hj, hai⟩ := hrel
    rename World => wx
    have HAI := Lib.hid hai
    clear hai
    by_cases hjn : j < n
    · obtain ⟨x, hx⟩ : ∃ x, ks[j]? = some x := ⟨_, List.getElem?_eq_getElem (by have := HN.out; omega)⟩
      obtain ⟨b, off, rfl, hc⟩ := (HS.out.keep HAI.out.kp).cell (by omega)
      obtain ⟨c0, c1, c2⟩ := hc j x hx
      have HX := Lib.hid hx
      have hji : (j : Int) < (n : Int) := by omega
      obtain ⟨x1, x2, x3⟩ := x
      simp only at c0 c1 c2
      clear hc hx
      have HXO : Hid (KyOk (x1, x2, x3)) := Lib.hid (HS.out.ok _ (List.mem_of_getElem? HX.out))
      obtain ⟨S2, hS2⟩ : ∃ S, S = st x2 := ⟨_, rfl⟩
      obtain ⟨S3, hS3⟩ : ∃ S, S = st x3 := ⟨_, rfl⟩
      rw [← hS2] at c1
      rw [← hS3] at c2
      have HS2 := Lib.hid hS2; have HS3 := Lib.hid hS3
      clear hS2 hS3
      have CC := Lib.hid (And.intro c0 (And.intro c1 c2))
      clear c0 c1 c2
      have HAI2 := Lib.hid (HAI.out.keep (kp_alloc wx (.cells #[.int .i64 x1, .string S2, .string S3] 29)))
      have hY : YieldAt Fence.wide 3 Tryd.prog (w.heap.size + 1 + 1) #[.agg #[.int .i64 x1, .string S2, .string S3]] (wx.alloc (.cells #[.int .i64 x1, .string S2, .string S3] 29)) (fun e W' => e = .returned (.bool true) ∧ ∃ vo', AI w W' (.loop (recd fn tm #[7] asg bdy (w.heap.size + 1) .ready none)) vo' (ks.take (j + 1))) := by
        refine round_at' HASG.out HBDY.out HTM.out (fun _ => trivial) HAI2.out.lp rfl ?_
        have hkr := kp_alloc (wx.alloc (.cells #[.int .i64 x1, .string S2, .string S3] 29)) (.cells #[.int .i64 x1, .string S2, .string S3] 29)
        have hRb := Blk.new (wx.alloc (.cells #[.int .i64 x1, .string S2, .string S3] 29)) 29 #[.int .i64 x1, .string S2, .string S3]
        have hAI3 := HAI2.out.keep hkr
        have HAI3 := Lib.hid hAI3; have HRB := Lib.hid hRb
        clear hkr hRb hAI3
        gi_wp2_with fail
        refine ⟨HAI3.out.lp, ?_⟩
        have hg4 := grownBy_putObj' ((wx.alloc (.cells #[.int .i64 x1, .string S2, .string S3] 29)).alloc (.cells #[.int .i64 x1, .string S2, .string S3] 29)) (w.heap.size + 2) (.loop (recd fn tm #[7] asg bdy (w.heap.size + 1) .busy none))
        have hAI4 : AI w _ (.loop (recd fn tm #[7] asg bdy (w.heap.size + 1) .busy none)) vo (ks.take j) := HAI3.out.put
        have hz2 : (wx.alloc (.cells #[.int .i64 x1, .string S2, .string S3] 29)).heap.size = wx.heap.size + 1 := by simp
        have hlt2 : w.heap.size + 2 < wx.heap.size := (Array.getElem?_eq_some_iff.1 HAI.out.lp).1
        have hRb4 := HRB.out.by hg4 (by rw [hz2]; intro e; injection e; omega)
        rw [hz2] at hRb4
        obtain ⟨W4, hW4⟩ : ∃ W4, W4 = ((wx.alloc (.cells #[.int .i64 x1, .string S2, .string S3] 29)).alloc (.cells #[.int .i64 x1, .string S2, .string S3] 29)).putObj (w.heap.size + 2) (.loop (recd fn tm #[7] asg bdy (w.heap.size + 1) .busy none)) := ⟨_, rfl⟩
        rw [← hW4] at hAI4 hRb4 ⊢
        have HAI4 := Lib.hid hAI4
        have cv := hAI4.co.cell 0 rfl
        have cr0 := hRb4.cell 0 rfl; have cr1 := hRb4.cell 1 rfl; have cr2 := hRb4.cell 2 rfl
        have HLEN : Hid ((ks.take j).length = j) := Lib.hid (by rw [List.length_take]; have := HN.out; omega)
        obtain ⟨⟨a0, l0, c0, rfl⟩, -⟩ := row_frm hAI4.own
        have HAI5 := Lib.hid (HAI4.out.keep (kp_alloc W4 (.cells #[.int .i64 x1, .string S2, .string S3] 29)))
        have HNEWS : Hid (∀ (i : Nat) (u : Value), ([.int .i64 x1, .string S2, .string S3] : List Value)[i]? = some u → (W4.alloc (.cells #[.int .i64 x1, .string S2, .string S3] 29)).cell? ((⟨W4.heap.size, 0, none⟩ : Addr).add i) = some u) := Lib.hid (by
          intro i u hu
          rw [Addr.add_lit]
          exact (Blk.new W4 29 #[.int .i64 x1, .string S2, .string S3]).cell (0 + i) (by rw [Nat.zero_add]; simpa using hu))
        clear hW4 hg4 hAI4 hz2 hlt2 hRb4
        obtain ⟨hii, hi1, hi2, hi3, hi4⟩ := info_parts infoKey
        have HIP := Lib.hid (And.intro hi1 (And.intro hi2 (And.intro hi3 hi4)))
        clear hi1 hi2 hi3 hi4
        gi_wp2_with (gi_at_builtin; refine wpListIn_append_own_at (P := Tryd.prog) _ rfl (.tmp 8) (.tmp 10) _ rfl (w.heap.size + 3) _ hii _ 3 40 Tryd.underlying23 HIP.out.1 HIP.out.2.1 HIP.out.2.2.1 HIP.out.2.2.2 rfl (by omega) (.slice a0 l0 c0) (ks.take j).length (kcel (ks.take j)) rfl HAI5.out.own ⟨W4.heap.size, 0, none⟩ 1 1 [.int .i64 x1, .string S2, .string S3] rfl rfl HNEWS.out (by intro u hu; simp at hu; rcases hu with rfl | rfl | rfl <;> rfl) (by rw [HLEN.out]; unfold maxLen; omega) (by rw [HLEN.out]; omega) (by have := HAI5.out.kp.size; have := (Array.getElem?_eq_some_iff.1 HAI5.out.lp).1; omega) ?_)
        intro v1 w1 h1 h2 _ h3
        have hO : AI w (w1.setCell ⟨w.heap.size, 0, none⟩ v1) (.loop (recd fn tm #[7] asg bdy (w.heap.size + 1) .busy none)) v1 (ks.take j ++ [(x1, x2, x3)]) := HAI5.out.out h2 (by rw [← HS2.out, ← HS3.out, List.length_take]; exact h1)
        have hne : some w.heap.size ≠ (Value.slice a0 l0 c0).ownBlock := fun e => by have := ((row_frm HAI5.out.own).2 _ e.symm).1; omega
        have b1 := HAI5.out.co.by h2 hne
        have x0 := b1.cell 0 rfl
        have y0 := b1.free 0
        have e : ks.take (j + 1) = ks.take j ++ [(x1, x2, x3)] := by rw [List.take_add_one, HX.out]; rfl
        rw [← e] at hO
        have HFIN := Lib.hid hO
        clear e
        obtain ⟨⟨a1, l1, c1, rfl⟩, -⟩ := row_frm h1
        clear hO hne b1 h1 h2 h3 cv cr0 cr1 cr2
        gi_wp2_with fail
        exact ⟨_, _, run_endRound none HFIN.out.lp, rfl, _, HFIN.out.put⟩
      obtain ⟨fn', tmps', assign', body', hy, hR⟩ := hY
      obtain ⟨c0, c1, c2⟩ := CC.out
      gi_wp2_with fail
      refine hR.mono ?_
      clear hR hy
      rintro e W' ⟨rfl, vo', hai'⟩
      have HF := Lib.hid hai'
      clear hai'
      gi_wp2_with fail
      exact ⟨⟨j + 1, vo', by go_num, by omega, HF.out⟩, by simp [intOf]; omega⟩
    · obtain rfl : j = n := by omega
      have HT : ks.take j = ks := List.take_of_length_le (by have := HN.out; omega)
      rw [HT] at HAI
      clear HT hjn
      gi_wp2_with fail
      refine ⟨rfl, .tuple #[], by simp [results, Tryd.func48, go_sem], ?_⟩
      refine ⟨none, _, run_endLoop HAI.out.lp (by simp [recd]), ?_⟩
      have HG := HAI.out.put (lo' := .loop { recd fn tm #[7] asg bdy (w.heap.size + 1) .ready none with state := .exhausted })
      obtain ⟨W7, hW7⟩ : ∃ W7, W7 = wx.putObj (w.heap.size + 2) (.loop { recd fn tm #[7] asg bdy (w.heap.size + 1) .ready none with state := .exhausted }) := ⟨_, rfl⟩
      change Exit.inBlock _ _ Exit.normal _ (wx.putObj (w.heap.size + 2) (.loop { recd fn tm #[7] asg bdy (w.heap.size + 1) .ready none with state := .exhausted }))
      rw [← hW7] at HG ⊢
      have HG := Lib.hid HG
      obtain ⟨⟨a0, l0, c0, rfl⟩, -⟩ := row_frm HG.out.own
      have cv := HG.out.co.cell 0 rfl
      clear hW7
      gi_wp2_with fail
      refine ⟨by simp, .inl ⟨_, _, rfl, run_takeDeferred HG.out.df, ?_⟩⟩
      refine ⟨_, ?_, FIN.out _ _ _ HG.out⟩
      simp [results, Tryd.func58, go_sem]
end By
end Go.Proofs.YtpgnckjgclbepaaDoor
