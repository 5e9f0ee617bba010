/- The parser's parameter. Condition: the parser lies in memory as it is named. -/
import Derived.Test.YtmflgfojicaecaaGreatDoorMSe
namespace Go.Proofs.YtmflgfojicaecaaGreatDoor
namespace By
open Go.RowKit WireN LexN SrcN
set_option linter.unusedVariables false
set_option linter.unusedSimpArgs false

theorem infoS : (Tryz.prog.info? 9).map (fun i => (i.zero, i.size, i.bytes)) = some (some (.string ⟨#[]⟩), 1, 16) := by kernel_rfl
theorem step_bldS {wx : World} {ops : Array Oper} {o : Oper} {a : Act} {K : Act → World → Prop} {Q : Exit → Act → World → Prop} {E : Prop} (hgd : o.guard = none) (k j : Tmp)
    (ho : o.op = .buildSlice 26 1 #[(0, .tmp j)]) (hdst : o.dst = some k) {u : ByteArray} (hx : a.eval (.tmp j) = .string u)
    (h : ∀ w', w' = wx.alloc (.cells #[.string u] 9) → K (a.put (some k) (.slice (some ⟨wx.heap.size, 0, none⟩) 1 1)) w') :
    if Region.wanted o (yielded ops a.tmps) = true then Oper.wp Tryz.prog o a wx K Q else E := by
  have hw : Region.wanted o (yielded ops a.tmps) = true := by simp [Region.wanted, hgd]
  rw [if_pos hw]
  have hP := h _ rfl
  unfold Oper.wp
  have hx' : a.tmps[j]?.getD undef = .string u := by simpa [Act.eval] using hx
  simp [execOp, ho, resolve, hdst, hx', go_sem, Result.andThen]
  exact hP
theorem idx_has (T : List Nat) : ∀ (ns : List (List Nat)) (k : Nat), decide (0 ≤ idxV (idxOf T ns k)) = ns.contains T
  | [], k => rfl
  | x :: r, k => by
    unfold idxOf
    by_cases h : x = T
    · rw [if_pos h, h]
      have : decide ((0 : Int) ≤ idxV (some k)) = true := decide_eq_true (by unfold idxV; simp)
      rw [this]
      simp
    · rw [if_neg h, idx_has T r (k + 1)]
      rw [List.contains_cons, beq_eq_false_iff_ne.2 (fun e => h e.symm), Bool.false_or]
set_option maxRecDepth 100000 in
theorem Contains_any {W : World} {v : Value} {ns : List (List Nat)} {T : List Nat} (hrow : W.ownsRow 0 9 1 v ns.length (ns.map fun n => Value.string (st n))) (hT : Lt T) (hns : ∀ n ∈ ns, Lt n) (hl : ns.length ≤ 100000) :
    Calls Tryz.prog 127 #[v, .string (st T)] W fun e W' => e = .returned (.bool (ns.contains T)) ∧ W = W' := by
  have C := Lib.hid (Index_any hrow hT hns hl)
  have hb := idx_has T ns 0
  obtain ⟨i, hi⟩ : ∃ i, i = idxV (idxOf T ns 0) := ⟨_, rfl⟩
  obtain ⟨B, hB⟩ : ∃ B, B = ns.contains T := ⟨_, rfl⟩
  rw [← hi] at C hb
  rw [← hB] at hb ⊢
  have HB := Lib.hid hb
  obtain ⟨ao, ac, rfl⟩ := row_open hrow
  obtain ⟨len, hlen⟩ : ∃ len, len = ns.length := ⟨_, rfl⟩
  rw [← hlen] at C ⊢
  clear hi hB hb hrow hlen
  go_enter Tryz.func127, Tryz.ntmps127
  go_wp2_with fail
  refine C.out.mono ?_
  rintro e W1 ⟨rfl, rfl⟩
  go_wp2_with fail
  go_ret
  exact ⟨by rw [← HB.out]; rfl, rfl⟩
/-- A parameter is added. -/
theorem PM.pushP {F : Nat → Prop} {g p : Nat} {W W5 W6 X : World} {s : St} {o rc : Nat} {pv bv pv' : Value} {vs : List Value} (h : PM F g p W s o rc pv bv vs) (hlv : s.lv = true) {T : List Nat} (hT : Lt T)
    (hk : Kp W W5) (hr : W6.ownsRow 0 9 1 pv' (s.ps.length + 1) ((s.ps.map fun n => Value.string (st n)) ++ [.string (st T)])) (hg : W5.grownBy W6 pv.ownBlock) (ha : pv'.ownBlock = pv.ownBlock ∨ pv'.ownBlock = some W5.heap.size) (hX : X = W6.setCell ⟨p, 1, none⟩ pv') (hn : s.ps.length < 8) :
    PI F g p X ⟨s.ts, s.ps ++ [T], s.bd, s.lv⟩ ∧ Keep F W X := by
  have hz : W.heap.size ≤ X.heap.size := by rw [hX]; simpa using Nat.le_trans hk.size hg.size
  have hc : ∀ b, b < W.heap.size → b ≠ p → pv.ownBlock ≠ some b → X.heap[b]? = W.heap[b]? := fun b hlt hp hbv => by
    rw [hX, heap_setCell_other W6 ⟨p, 1, none⟩ b _ hp]
    exact (hg.block b (Nat.lt_of_lt_of_le hlt hk.size) (fun e => hbv e.symm)).trans (hk.block b hlt)
  have hf : ∀ b, F b → X.heap[b]? = W.heap[b]? := fun b hfb => hc b (h.dom b hfb) (fun e => h.own (e ▸ hfb)) (fun e => (h.poff hlv b e).1 hfb)
  have hnew : ∀ b, pv'.ownBlock = some b → pv.ownBlock = some b ∨ b = W5.heap.size := fun b e => by
    rcases ha with ha | ha
    · exact .inl (ha ▸ e)
    · rw [ha] at e; injection e with e; exact .inr e.symm
  have hp5 : p < W5.heap.size := Nat.lt_of_lt_of_le h.lt hk.size
  have hpp : pv.ownBlock ≠ some p := fun e => (h.poff hlv p e).2 rfl
  have bp : Blk X p 87 #[.slice (some ⟨g, o * 4, none⟩) s.ts.length rc, pv', bv] := by
    have h6 : Blk W6 p 87 #[.slice (some ⟨g, o * 4, none⟩) s.ts.length rc, pv, bv] := (hg.block p hp5 (fun e => hpp e.symm)).trans (h.blk.keep hk)
    rw [hX]
    exact h6.set 1 pv'
  refine ⟨⟨o, rc, pv', bv, vs, ?_⟩, ?_⟩
  · exact {
      dom := fun k hk' => Nat.lt_of_lt_of_le (h.dom k hk') hz
      tok := h.tok
      glob := h.glob.keep (g := g) (fun b hx => hf b (h.tok b hx))
      own := h.own
      blk := bp
      toks := fun i t ht j u hu => (World.cell?_of_block (hf g (h.tok g (.inl rfl)))).trans (h.toks i t ht j u hu)
      good := h.good
      cap := h.cap
      pown := fun _ => by
        show X.ownsRow 0 9 1 pv' (s.ps ++ [T]).length ((s.ps ++ [T]).map fun n => Value.string (st n))
        rw [List.length_append, List.map_append]
        refine own_keep hr (fun b e => ?_)
        rw [hX]
        refine heap_setCell_other W6 ⟨p, 1, none⟩ b _ (fun e2 => ?_)
        simp only at e2
        subst e2
        rcases hnew b e with e | e
        · exact hpp e
        · omega
      pfew := fun _ => by show (s.ps ++ [T]).length ≤ 8; simp; omega
      plt := fun _ n hn => by
        rcases List.mem_append.1 hn with hn | hn
        · exact h.plt hlv n hn
        · obtain rfl := List.mem_singleton.1 hn
          exact hT
      poff := fun _ b e => by
        rcases hnew b e with e | e
        · exact h.poff hlv b e
        · subst e
          exact ⟨fun hk' => absurd (h.dom _ hk') (by have := hk.size; omega), by omega⟩
      bown := fun _ => own_keep (h.bown hlv) (fun b hv => hc b ((h.bown hlv).lt b hv).2 (h.boff hlv b hv).2.1 (fun e => (h.boff hlv b hv).2.2 e))
      bfew := h.bfew
      boff := fun _ b hv => ⟨(h.boff hlv b hv).1, (h.boff hlv b hv).2.1, fun e => by
        rcases hnew b e with e | e
        · exact (h.boff hlv b hv).2.2 e
        · have := ((h.bown hlv).lt b hv).2; have := hk.size; omega⟩
      vlen := h.vlen
      args := fun _ i n v hi hv => (h.args hlv i n v hi hv).mono (fun b hx hl => ⟨⟨hx.1, hx.2.1, fun e => by
        rcases hnew b e with e | e
        · exact hx.2.2.1 e
        · have := hk.size; omega, hx.2.2.2⟩, hc b hl hx.2.1 hx.2.2.1⟩) hz }
  · have e : X.os = W6.os ∧ X.tape = W6.tape ∧ X.output = W6.output := by rw [hX]; exact ⟨rfl, rfl, rfl⟩
    exact ⟨e.1.trans (hg.os.trans hk.os), e.2.1.trans (hg.tape.trans hk.tape), e.2.2.trans (hg.output.trans hk.output), hz, hf⟩
/-- Nothing besides lies in the frame. -/
def noStab : Unit → (Nat → Prop) → World → Prop := fun _ _ _ => True
set_option maxRecDepth 100000 in
set_option maxHeartbeats 4000000 in
theorem parameter_st {F : Nat → Prop} {g p : Nat} {W : World} {s : St} (h : PI F g p W s) {r : Out Unit} (hr : param () s = some r) :
    Calls Tryz.prog 131 #[.pointer (some ⟨p, 0, none⟩)] W (AnsL F g p noStab r W) := by
  obtain ⟨Q, hQ⟩ : ∃ Q, Q = AnsL F g p noStab r W := ⟨_, rfl⟩
  rw [← hQ]
  have HQ := Lib.hid hQ
  have H := Lib.hid h
  have BAD : Hid (∀ a e W', Keep F W W' → r = .bad a e → Q (pan a e) W') := by
    intro a e W' hk he
    rw [HQ.out, he]
    exact ⟨rfl, hk⟩
  have hr' : bnd name (fun t => fun s => if s.lv = false then none else if 8 ≤ s.ps.length then SrcN.fail t 2 s else if s.ps.contains t.2.1 then SrcN.fail t 10 s else some (.ok () ⟨s.ts, s.ps ++ [t.2.1], s.bd, s.lv⟩)) s = some r := hr
  clear hQ h hr
  rcases bnd_some hr' with ⟨a, e, hm, he⟩ | ⟨⟨K, T, NM, AT⟩, s1, hm, hk1⟩
  · have C := Lib.hid (name_st H.out hm)
    have HE := Lib.hid he
    clear hr' hm he
    go_enter Tryz.func131, Tryz.ntmps131
    go_wp2_with fail
    refine C.out.mono ?_
    rintro e1 W1 ⟨rfl, hk⟩
    exact ⟨rfl, BAD.out _ _ _ hk HE.out⟩
  · have C := Lib.hid (name_st H.out hm)
    by_cases hlv' : s1.lv = false
    · have hx : (if s1.lv = false then none else if 8 ≤ s1.ps.length then SrcN.fail (K, T, NM, AT) 2 s1 else if s1.ps.contains T then SrcN.fail (K, T, NM, AT) 10 s1 else some (.ok () ⟨s1.ts, s1.ps ++ [T], s1.bd, s1.lv⟩)) = some r := hk1
      rw [if_pos hlv'] at hx; cases hx
    have hlv : s1.lv = true := by simpa using hlv'
    have HLV := Lib.hid hlv
    replace hk1 : (if s1.lv = false then none else if 8 ≤ s1.ps.length then SrcN.fail (K, T, NM, AT) 2 s1 else if s1.ps.contains T then SrcN.fail (K, T, NM, AT) 10 s1 else some (.ok () ⟨s1.ts, s1.ps ++ [T], s1.bd, s1.lv⟩)) = some r := hk1
    rw [if_neg hlv'] at hk1
    clear hlv' hlv
    have HK1 : Hid ((if 8 ≤ s1.ps.length then SrcN.fail (K, T, NM, AT) 2 s1 else if s1.ps.contains T then SrcN.fail (K, T, NM, AT) 10 s1 else some (.ok () ⟨s1.ts, s1.ps ++ [T], s1.bd, s1.lv⟩)) = some r) := hk1
    clear hr' hm hk1
    go_enter Tryz.func131, Tryz.ntmps131
    go_wp2_with fail
    refine C.out.mono ?_
    rintro e1 W1 ⟨⟨v, rfl, rfl, hT⟩, hpi, hke⟩
    have PI1 := Lib.hid hpi; have KE1 := Lib.hid hke; have HT := Lib.hid hT
    obtain ⟨o, rc, pv, bv, vs, hpm⟩ := hpi
    obtain ⟨po, pc, rfl⟩ := row_open (hpm.pown HLV.out)
    have HPM := Lib.hid hpm
    obtain ⟨pl, hpl⟩ : ∃ pl, pl = s1.ps.length := ⟨_, rfl⟩
    have HPL := Lib.hid hpl
    rw [← hpl] at HPM
    obtain ⟨W2, hW2⟩ : ∃ W2, W2 = W1.alloc (Obj.cells #[.int .i64 (K : Nat), .string (st T), .int .i64 (NM : Nat), .int .i64 (AT : Nat)] 111) := ⟨_, rfl⟩
    have K2 : Hid (Kp W1 W2) := by show Kp W1 W2; rw [hW2]; exact kp_alloc W1 _
    obtain ⟨tb, htb⟩ : ∃ tb, tb = W1.heap.size := ⟨_, rfl⟩
    have TB : Hid (Blk W2 tb 111 #[.int .i64 (K : Nat), .string (st T), .int .i64 (NM : Nat), .int .i64 (AT : Nat)]) := by show Blk _ _ _ _; rw [hW2, htb]; exact Blk.new _ _ _
    have ETB := Lib.hid htb
    have HW2 := Lib.hid hW2
    have FCT : Hid (∀ W', Kp W2 W' → W'.cell? ⟨p, 1, none⟩ = some (.slice po pl pc) ∧ W'.cell? ⟨tb, 0, none⟩ = some (.int .i64 (K : Nat)) ∧ W'.cell? ⟨tb, 1, none⟩ = some (.string (st T)) ∧ W'.cell? ⟨tb, 2, none⟩ = some (.int .i64 (NM : Nat)) ∧ W'.cell? ⟨tb, 3, none⟩ = some (.int .i64 (AT : Nat))) := fun W' k => ⟨(HPM.out.kp (Kp.trans K2.out k)).blk.cell 1 rfl, (TB.out.keep k).cell 0 rfl, (TB.out.keep k).cell 1 rfl, (TB.out.keep k).cell 2 rfl, (TB.out.keep k).cell 3 rfl⟩
    have FAIL : Hid (∀ e W', Kp W1 W' → r = .bad AT e → Q (pan AT e) W') := fun e W' k he => BAD.out _ _ _ (KE1.out.trans (Kp.keep k PI1.out.dom)) he
    obtain ⟨q1, q2, q3, q4, q5⟩ := FCT.out W2 (Kp.refl _)
    rw [hW2] at q1 q2 q3 q4 q5
    rw [htb] at q2 q3 q4 q5
    clear hke hT hpm hpl hW2 htb C
    go_wp2_with fail
    rw [← HW2.out] at q1 q2 q3 q4 q5 ⊢
    rw [← ETB.out] at q2 q3 q4 q5 ⊢
    go_still_tail 6, (by kernel_rfl)
    change wpList _ _ _ _ _ W2.drew
    have KD : Hid (Kp W2 W2.drew) := kp_drew W2
    generalize W2.drew = Wd at KD
    clear q1 q2 q3 q4 q5
    by_cases hn : 8 ≤ pl
    · have hni : (8 : Int) ≤ (pl : Int) := by omega
      have HE : Hid (r = .bad AT 2) := by
        have := HK1.out
        rw [if_pos (by rw [← HPL.out]; exact hn)] at this
        injection this with this
        exact this.symm
      go_wp2_with fail
      refine (room_no K NM AT (st T) pl 8 hni Wd).mono ?_
      rintro e1 W3 ⟨rfl, hk⟩
      exact ⟨rfl, FAIL.out _ _ (Kp.trans K2.out (Kp.trans KD.out hk)) HE.out⟩
    · have hni : (pl : Int) < (8 : Int) := by omega
      have HK2 : Hid ((if s1.ps.contains T then SrcN.fail (K, T, NM, AT) 10 s1 else some (.ok () ⟨s1.ts, s1.ps ++ [T], s1.bd, s1.lv⟩)) = some r) := by
        have := HK1.out
        rw [if_neg (by rw [← HPL.out]; exact hn)] at this
        exact this
      clear HK1
      go_wp2_with fail
      refine (room_yes K NM AT (st T) pl 8 hni Wd).mono ?_
      rintro e1 W3 ⟨rfl, hk⟩
      have K3 : Hid (Kp W2 W3) := Kp.trans KD.out hk
      obtain ⟨q1, q2, q3, q4, q5⟩ := FCT.out W3 K3.out
      clear hk KD
      go_wp2_with fail
      go_still_tail 6, (by kernel_rfl)
      change wpList _ _ _ _ _ W3.drew
      have KD : Hid (Kp W2 W3.drew) := Kp.trans K3.out (kp_drew W3)
      generalize W3.drew = We at KD
      clear q1 q2 q3 q4 q5
      have CC : Hid (Calls Tryz.prog 127 #[.slice po pl pc, .string (st T)] We fun e W' => e = .returned (.bool (s1.ps.contains T)) ∧ We = W') := by
        have hrow := (HPM.out.kp (Kp.trans K2.out KD.out)).pown HLV.out
        have := Contains_any hrow HT.out.1 (HPM.out.plt HLV.out) (by have := HPM.out.pfew HLV.out; omega)
        exact this
      go_wp2_with fail
      refine CC.out.mono ?_
      rintro e1 W4 ⟨rfl, rfl⟩
      obtain ⟨q1, q2, q3, q4, q5⟩ := FCT.out We KD.out
      cases hcT : s1.ps.contains T with
      | true =>
        have HE : Hid (r = .bad AT 10) := by
          have := HK2.out
          rw [hcT, if_pos rfl] at this
          injection this with this
          exact this.symm
        clear hcT
        go_wp2_with fail
        refine (fail_any K NM AT (st T) 10 We).mono ?_
        rintro e1 W5 ⟨rfl, hk⟩
        exact ⟨rfl, FAIL.out _ _ (Kp.trans K2.out (Kp.trans KD.out hk)) HE.out⟩
      | false =>
        have HE : Hid (r = .ok () ⟨s1.ts, s1.ps ++ [T], s1.bd, s1.lv⟩) := by
          have := HK2.out
          rw [hcT, if_neg (by simp)] at this
          injection this with this
          exact this.symm
        have BASE : Hid (∀ W4, W4 = World.drew We → Kp W1 W4 ∧ W4.cell? ⟨p, 1, none⟩ = some (.slice po pl pc) ∧ W4.cell? ⟨tb, 1, none⟩ = some (.string (st T))) := by
          intro W4 e
          have k : Kp W2 W4 := by rw [e]; exact Kp.trans KD.out (kp_drew We)
          obtain ⟨x1, -, x2, -, -⟩ := FCT.out W4 k
          exact ⟨Kp.trans K2.out k, x1, x2⟩
        have AL : Hid (∀ W4 W5, Kp W1 W4 → W4.cell? ⟨p, 1, none⟩ = some (.slice po pl pc) → W5 = W4.alloc (.cells #[.string (st T)] 9) → Kp W1 W5 ∧ W5.cell? ⟨p, 1, none⟩ = some (.slice po pl pc) ∧ W5.cell? ⟨W4.heap.size, 0, none⟩ = some (.string (st T))) := by
          intro W4 W5 k4 hc e
          have k45 : Kp W4 W5 := by rw [e]; exact kp_alloc W4 _
          have b : Blk W5 W4.heap.size 9 #[.string (st T)] := by rw [e]; exact Blk.new _ _ _
          exact ⟨Kp.trans k4 k45, (k45.cell (World.block_lt_of_cell? W4 _ hc)).trans hc, b.cell 0 rfl⟩
        have ROW : Hid (∀ W5, Kp W1 W5 → W5.ownsRow 0 9 1 (.slice po pl pc) pl (s1.ps.map fun n => Value.string (st n))) := by
          intro W5 k5
          have := (HPM.out.kp k5).pown HLV.out
          rw [← HPL.out] at this
          exact this
        have GR : Hid (∀ W5 W6, Kp W1 W5 → W5.grownBy W6 (Value.slice po pl pc).ownBlock → W6.frozen? ⟨p, 1, none⟩ = false ∧ W6.cell? ⟨p, 1, none⟩ = some (.slice po pl pc)) := by
          intro W5 W6 k5 g6
          have hlt : p < W5.heap.size := Nat.lt_of_lt_of_le HPM.out.lt k5.size
          have hb6 : Blk W6 p 87 #[.slice (some ⟨g, o * 4, none⟩) s1.ts.length rc, .slice po pl pc, bv] := (g6.block p hlt (fun e => (HPM.out.poff HLV.out p e.symm).2 rfl)).trans (HPM.out.blk.keep k5)
          exact ⟨hb6.free 1, hb6.cell 1 rfl⟩
        have FIN : Hid (∀ W5 W6 b6 c6, Kp W1 W5 → W6.ownsRow 0 9 1 (.slice b6 (pl + 1) c6) (pl + 1) ((s1.ps.map fun n => Value.string (st n)) ++ [.string (st T)]) → W5.grownBy W6 (Value.slice po pl pc).ownBlock → ((Value.slice b6 (pl + 1) c6).ownBlock = (Value.slice po pl pc).ownBlock ∨ (Value.slice b6 (pl + 1) c6).ownBlock = some W5.heap.size) → Q (.returned (.tuple #[])) (W6.setCell ⟨p, 1, none⟩ (.slice b6 (pl + 1) c6))) := by
          intro W5 W6 b6 c6 k5 r6 g6 a6
          have hl := HPL.out
          have := PM.pushP HPM.out HLV.out HT.out.1 k5 (by rw [← hl]; exact r6) g6 a6 rfl (by omega)
          rw [HQ.out, HE.out]
          exact ⟨rfl, F, fun k hk => hk, this.1, trivial, KE1.out.trans this.2⟩
        clear hcT q1 q2 q3 q4 q5 CC
        go_upto_region 4 with fail
        refine wp_region_any (by kernel_rfl) ?_
        change wpAny _ _ _ _ _ _ _ (World.drew _)
        obtain ⟨W4, hW4⟩ : ∃ W4, W4 = World.drew We := ⟨_, rfl⟩
        rw [← hW4]
        obtain ⟨KW4, p1, x1⟩ := BASE.out W4 hW4
        clear hW4
        refine wpAny_take (i := 0) (v := (.pointer (some ⟨p, 0, none⟩))) rfl (by kernel_rfl) (by kernel_rfl) (by kernel_rfl) (fun _ _ _ h => h) (Or.inl ⟨by rfl, fun wq => ?_⟩) ?_
        · go_simp
        try simp only [Act.put, List.setIfInBounds_toArray, List.set_cons_zero, List.set_cons_succ]
        refine wpAny_take (i := 1) (v := (.pointer (some ⟨p, 0, none⟩))) rfl (by kernel_rfl) (by kernel_rfl) (by kernel_rfl) (fun _ _ _ h => h) (Or.inl ⟨by rfl, fun wq => ?_⟩) ?_
        · go_simp
        try simp only [Act.put, List.setIfInBounds_toArray, List.set_cons_zero, List.set_cons_succ]
        refine wpAny_take (i := 2) (v := (.pointer (some ⟨p, 0, none⟩))) rfl (by kernel_rfl) (by kernel_rfl) (by kernel_rfl) (fun _ _ _ h => h) (Or.inl ⟨by rfl, fun wq => ?_⟩) ?_
        · go_simp
        try simp only [Act.put, List.setIfInBounds_toArray, List.set_cons_zero, List.set_cons_succ]
        refine wpAny_take (i := 3) (v := (.pointer (some ⟨p, 1, none⟩))) rfl (by kernel_rfl) (by kernel_rfl) (by kernel_rfl) (fun _ _ _ h => h) (Or.inl ⟨by rfl, fun wq => ?_⟩) ?_
        · go_simp
        try simp only [Act.put, List.setIfInBounds_toArray, List.set_cons_zero, List.set_cons_succ]
        refine wpAny_take (i := 5) (v := (.pointer (some ⟨tb, 1, none⟩))) rfl (by kernel_rfl) (by kernel_rfl) (by kernel_rfl) (fun _ _ _ h => h) (Or.inl ⟨by rfl, fun wq => ?_⟩) ?_
        · go_simp
        try simp only [Act.put, List.setIfInBounds_toArray, List.set_cons_zero, List.set_cons_succ]
        refine wpAny_ready (rs := [4, 6]) (by kernel_rfl) (by simp) (AllReady.cons rfl (fun KK hK => ?_) (AllReady.cons rfl (fun KK hK => ?_) AllReady.nil))
        · go_simp
          refine hK _ _ ?_
          clear hK KK
          try simp only [Act.put, List.setIfInBounds_toArray, List.set_cons_zero, List.set_cons_succ]
          refine wpAny_ready (rs := [6]) (by kernel_rfl) (by simp) (AllReady.cons rfl (fun KK hK => ?_) AllReady.nil)
          go_simp
          refine hK _ _ ?_
          clear hK KK
          try simp only [Act.put, List.setIfInBounds_toArray, List.set_cons_zero, List.set_cons_succ]
          refine wpAny_ready (rs := [7]) (by kernel_rfl) (by simp) (AllReady.cons rfl (fun KK hK => ?_) AllReady.nil)
          refine step_bldS rfl 28 27 rfl rfl rfl ?_; intro W5 hW5; obtain ⟨k45, r2, y0⟩ := AL.out W4 W5 KW4 p1 hW5; clear hW5
          refine hK _ _ ?_
          clear hK KK
          try simp only [Act.put, List.setIfInBounds_toArray, List.set_cons_zero, List.set_cons_succ]
          refine wpAny_ready (rs := [8]) (by kernel_rfl) (by simp) (AllReady.cons rfl (fun KK hK => ?_) AllReady.nil)
          refine step_row rfl (.tmp 25) (.tmp 28) 26 rfl 0 9 _ 1 16 Tryz.underlying26 infoS rfl (by omega) _ pl (s1.ps.map fun n => Value.string (st n)) rfl (ROW.out W5 k45) ⟨W4.heap.size, 0, none⟩ 1 1 [.string (st T)] rfl rfl ?_ (by intro u hu; simp at hu; subst hu; rfl) (by unfold maxLen; omega) (by omega) (Nat.zero_le _) ?_
          · (intro j u hu; rw [Addr.add_lit, Nat.zero_add]; match j, hu with | 0, hu => (injection hu with hu; rw [← hu]; exact y0))
          intro v6 W6 r6 g6 a6; obtain ⟨b6, c6, rfl⟩ := row_open r6; obtain ⟨fp, cp⟩ := GR.out W5 W6 k45 g6; have F6 := Lib.hid (FIN.out W5 W6 b6 c6 k45 r6 g6 a6); clear r6 g6 a6
          refine hK _ _ ?_
          clear hK KK
          try simp only [Act.put, List.setIfInBounds_toArray, List.set_cons_zero, List.set_cons_succ]
          refine wpAny_ready (rs := [9]) (by kernel_rfl) (by simp) (AllReady.cons rfl (fun KK hK => ?_) AllReady.nil)
          go_simp
          refine hK _ _ ?_
          clear hK KK
          try simp only [Act.put, List.setIfInBounds_toArray, List.set_cons_zero, List.set_cons_succ]
          refine wpAny_ready (rs := [10]) (by kernel_rfl) (by simp) (AllReady.cons rfl (fun KK hK => ?_) AllReady.nil)
          go_simp
          refine hK _ _ ?_
          clear hK KK
          try simp only [Act.put, List.setIfInBounds_toArray, List.set_cons_zero, List.set_cons_succ]
          refine wpAny_ready (rs := [11]) (by kernel_rfl) (by simp) (AllReady.cons rfl (fun KK hK => ?_) AllReady.nil)
          go_simp
          refine hK _ _ ?_
          clear hK KK
          try simp only [Act.put, List.setIfInBounds_toArray, List.set_cons_zero, List.set_cons_succ]
          refine wpAny_done (by kernel_rfl) ?_ _
          go_wp2_with fail
          exact ⟨rfl, _, results_none rfl _ _ _, F6.out⟩
        · go_simp
          refine hK _ _ ?_
          clear hK KK
          try simp only [Act.put, List.setIfInBounds_toArray, List.set_cons_zero, List.set_cons_succ]
          refine wpAny_ready (rs := [4, 7]) (by kernel_rfl) (by simp) (AllReady.cons rfl (fun KK hK => ?_) (AllReady.cons rfl (fun KK hK => ?_) AllReady.nil))
          · go_simp
            refine hK _ _ ?_
            clear hK KK
            try simp only [Act.put, List.setIfInBounds_toArray, List.set_cons_zero, List.set_cons_succ]
            refine wpAny_ready (rs := [7]) (by kernel_rfl) (by simp) (AllReady.cons rfl (fun KK hK => ?_) AllReady.nil)
            refine step_bldS rfl 28 27 rfl rfl rfl ?_; intro W5 hW5; obtain ⟨k45, r2, y0⟩ := AL.out W4 W5 KW4 p1 hW5; clear hW5
            refine hK _ _ ?_
            clear hK KK
            try simp only [Act.put, List.setIfInBounds_toArray, List.set_cons_zero, List.set_cons_succ]
            refine wpAny_ready (rs := [8]) (by kernel_rfl) (by simp) (AllReady.cons rfl (fun KK hK => ?_) AllReady.nil)
            refine step_row rfl (.tmp 25) (.tmp 28) 26 rfl 0 9 _ 1 16 Tryz.underlying26 infoS rfl (by omega) _ pl (s1.ps.map fun n => Value.string (st n)) rfl (ROW.out W5 k45) ⟨W4.heap.size, 0, none⟩ 1 1 [.string (st T)] rfl rfl ?_ (by intro u hu; simp at hu; subst hu; rfl) (by unfold maxLen; omega) (by omega) (Nat.zero_le _) ?_
            · (intro j u hu; rw [Addr.add_lit, Nat.zero_add]; match j, hu with | 0, hu => (injection hu with hu; rw [← hu]; exact y0))
            intro v6 W6 r6 g6 a6; obtain ⟨b6, c6, rfl⟩ := row_open r6; obtain ⟨fp, cp⟩ := GR.out W5 W6 k45 g6; have F6 := Lib.hid (FIN.out W5 W6 b6 c6 k45 r6 g6 a6); clear r6 g6 a6
            refine hK _ _ ?_
            clear hK KK
            try simp only [Act.put, List.setIfInBounds_toArray, List.set_cons_zero, List.set_cons_succ]
            refine wpAny_ready (rs := [9]) (by kernel_rfl) (by simp) (AllReady.cons rfl (fun KK hK => ?_) AllReady.nil)
            go_simp
            refine hK _ _ ?_
            clear hK KK
            try simp only [Act.put, List.setIfInBounds_toArray, List.set_cons_zero, List.set_cons_succ]
            refine wpAny_ready (rs := [10]) (by kernel_rfl) (by simp) (AllReady.cons rfl (fun KK hK => ?_) AllReady.nil)
            go_simp
            refine hK _ _ ?_
            clear hK KK
            try simp only [Act.put, List.setIfInBounds_toArray, List.set_cons_zero, List.set_cons_succ]
            refine wpAny_ready (rs := [11]) (by kernel_rfl) (by simp) (AllReady.cons rfl (fun KK hK => ?_) AllReady.nil)
            go_simp
            refine hK _ _ ?_
            clear hK KK
            try simp only [Act.put, List.setIfInBounds_toArray, List.set_cons_zero, List.set_cons_succ]
            refine wpAny_done (by kernel_rfl) ?_ _
            go_wp2_with fail
            exact ⟨rfl, _, results_none rfl _ _ _, F6.out⟩
          · refine step_bldS rfl 28 27 rfl rfl rfl ?_; intro W5 hW5; obtain ⟨k45, r2, y0⟩ := AL.out W4 W5 KW4 p1 hW5; clear hW5
            refine hK _ _ ?_
            clear hK KK
            try simp only [Act.put, List.setIfInBounds_toArray, List.set_cons_zero, List.set_cons_succ]
            refine wpAny_ready (rs := [4]) (by kernel_rfl) (by simp) (AllReady.cons rfl (fun KK hK => ?_) AllReady.nil)
            go_simp
            refine hK _ _ ?_
            clear hK KK
            try simp only [Act.put, List.setIfInBounds_toArray, List.set_cons_zero, List.set_cons_succ]
            refine wpAny_ready (rs := [8]) (by kernel_rfl) (by simp) (AllReady.cons rfl (fun KK hK => ?_) AllReady.nil)
            refine step_row rfl (.tmp 25) (.tmp 28) 26 rfl 0 9 _ 1 16 Tryz.underlying26 infoS rfl (by omega) _ pl (s1.ps.map fun n => Value.string (st n)) rfl (ROW.out W5 k45) ⟨W4.heap.size, 0, none⟩ 1 1 [.string (st T)] rfl rfl ?_ (by intro u hu; simp at hu; subst hu; rfl) (by unfold maxLen; omega) (by omega) (Nat.zero_le _) ?_
            · (intro j u hu; rw [Addr.add_lit, Nat.zero_add]; match j, hu with | 0, hu => (injection hu with hu; rw [← hu]; exact y0))
            intro v6 W6 r6 g6 a6; obtain ⟨b6, c6, rfl⟩ := row_open r6; obtain ⟨fp, cp⟩ := GR.out W5 W6 k45 g6; have F6 := Lib.hid (FIN.out W5 W6 b6 c6 k45 r6 g6 a6); clear r6 g6 a6
            refine hK _ _ ?_
            clear hK KK
            try simp only [Act.put, List.setIfInBounds_toArray, List.set_cons_zero, List.set_cons_succ]
            refine wpAny_ready (rs := [9]) (by kernel_rfl) (by simp) (AllReady.cons rfl (fun KK hK => ?_) AllReady.nil)
            go_simp
            refine hK _ _ ?_
            clear hK KK
            try simp only [Act.put, List.setIfInBounds_toArray, List.set_cons_zero, List.set_cons_succ]
            refine wpAny_ready (rs := [10]) (by kernel_rfl) (by simp) (AllReady.cons rfl (fun KK hK => ?_) AllReady.nil)
            go_simp
            refine hK _ _ ?_
            clear hK KK
            try simp only [Act.put, List.setIfInBounds_toArray, List.set_cons_zero, List.set_cons_succ]
            refine wpAny_ready (rs := [11]) (by kernel_rfl) (by simp) (AllReady.cons rfl (fun KK hK => ?_) AllReady.nil)
            go_simp
            refine hK _ _ ?_
            clear hK KK
            try simp only [Act.put, List.setIfInBounds_toArray, List.set_cons_zero, List.set_cons_succ]
            refine wpAny_done (by kernel_rfl) ?_ _
            go_wp2_with fail
            exact ⟨rfl, _, results_none rfl _ _ _, F6.out⟩
end By
end Go.Proofs.YtmflgfojicaecaaGreatDoor

/- Rows of declarations, and whether a name is taken in one. Condition: the row reads as the declarations that are named. -/
namespace Go.Proofs.YtmflgfojicaecaaGreatDoor
namespace By
open Go.RowKit WireN LexN SrcN
set_option linter.unusedVariables false
set_option linter.unusedSimpArgs false

/-- The cells of a declaration. -/
def dcell (d : Dc) (x : Value × Value) : List Value := [.int .i64 (d.k : Nat), .string (st d.nm), x.1, x.2]
def dcells : List Dc → List (Value × Value) → List Value
  | d :: ds, x :: xs => dcell d x ++ dcells ds xs
  | _, _ => []
theorem dcells_snoc : ∀ (ds : List Dc) (xs : List (Value × Value)) (d : Dc) (x : Value × Value), xs.length = ds.length → dcells (ds ++ [d]) (xs ++ [x]) = dcells ds xs ++ dcell d x
  | [], [], d, x, _ => rfl
  | e :: ds, y :: xs, d, x, h => by
    have := dcells_snoc ds xs d x (by simpa using h)
    simp only [List.cons_append, dcells, this, List.append_assoc]
  | [], _ :: _, _, _, h => by simp at h
  | _ :: _, [], _, _, h => by simp at h
theorem dcells_at : ∀ (ds : List Dc) (xs : List (Value × Value)) (i : Nat) (d : Dc) (x : Value × Value), ds[i]? = some d → xs[i]? = some x → ∀ j, j < 4 → (dcells ds xs)[i * 4 + j]? = (dcell d x)[j]?
  | [], _, i, d, x, h, _ => by simp at h
  | _ :: _, [], i, d, x, _, h => by simp at h
  | e :: ds, y :: xs, 0, d, x, h1, h2 => by
    intro j hj
    obtain rfl : e = d := by simpa using h1
    obtain rfl : y = x := by simpa using h2
    simp only [dcells, Nat.zero_mul, Nat.zero_add]
    rw [List.getElem?_append_left (by simpa [dcell] using hj)]
  | e :: ds, y :: xs, i + 1, d, x, h1, h2 => by
    intro j hj
    have := dcells_at ds xs i d x (by simpa using h1) (by simpa using h2) j hj
    simp only [dcells]
    rw [List.getElem?_append_right (by simp [dcell]; omega), ← this]
    congr 1
    simp [dcell]; omega
theorem row_cells {W : World} {n sz : Nat} {T : TypeId} {v : Value} {xs : List Value} (h : W.ownsRow 0 T sz v n xs) (hn : 0 < n) : ∃ g c, v = .slice (some ⟨g, 0, none⟩) n c ∧ n ≤ c ∧ ∀ (i : Nat) (u : Value), xs[i]? = some u → W.cell? ⟨g, i, none⟩ = some u := by
  rcases h.2 with ⟨rfl, h0⟩ | ⟨g, cap, cur, rfl, hb, hg, hnc, hcm, hsz, htake⟩
  · omega
  · refine ⟨g, cap, rfl, hnc, fun i u hu => ?_⟩
    rw [cell_of_row W g _ _ _ (0, 0) hg, ← Array.getElem?_toList]
    rw [← htake, List.getElem?_take] at hu
    split at hu
    · exact hu
    · cases hu
/-- A row of declarations, as far as it is looked through. -/
structure DR (W : World) (v : Value) (ds : List Dc) (xs : List (Value × Value)) : Prop where
  own : W.ownsRow 0 38 4 v ds.length (dcells ds xs)
  len : xs.length = ds.length
  few : ds.length ≤ 64
  ok : ∀ d ∈ ds, Lt d.nm
  opn : ∀ x ∈ xs, ∃ a b c a' b' c', x = (Value.slice a b c, Value.slice a' b' c')
theorem DR.keep {W W' : World} {v : Value} {ds : List Dc} {xs : List (Value × Value)} (h : DR W v ds xs) (hk : ∀ b, v.ownBlock = some b → W'.heap[b]? = W.heap[b]?) : DR W' v ds xs := ⟨own_keep h.own hk, h.len, h.few, h.ok, h.opn⟩
theorem DR.kp {W W' : World} {v : Value} {ds : List Dc} {xs : List (Value × Value)} (h : DR W v ds xs) (hk : Kp W W') : DR W' v ds xs := h.keep (fun b hv => hk.block b (h.own.lt b hv).2)
/-- Whether a name is taken. -/
def takenB (k : Nat) (T : List Nat) (ds : List Dc) : Bool := ds.any fun d => d.k == k && d.nm == T
set_option maxRecDepth 100000 in
theorem decl1_any {k kb tb K NM AT : Nat} {T : List Nat} {d : Dc} {a a' : Option Addr} {b c b' c' : Nat} {W : World} (hK : Blk W kb 3 #[.int .i64 (k : Nat)]) (hT : Blk W tb 111 #[.int .i64 (K : Nat), .string (st T), .int .i64 (NM : Nat), .int .i64 (AT : Nat)]) (lT : Lt T) (lN : Lt d.nm) :
    Calls Tryz.prog 155 #[.agg #[.int .i64 (d.k : Nat), .string (st d.nm), .slice a b c, .slice a' b' c'], .pointer (some ⟨kb, 0, none⟩), .pointer (some ⟨tb, 0, none⟩)] W fun e W' => e = .returned (.bool (d.k == k && d.nm == T)) ∧ Kp W W' := by
  obtain ⟨W1, hW1⟩ : ∃ W1, W1 = W.alloc (Obj.cells #[.int .i64 (d.k : Nat), .string (st d.nm), .slice a b c, .slice a' b' c'] 38) := ⟨_, rfl⟩
  have k1 : Kp W W1 := by rw [hW1]; exact kp_alloc W _
  have b1 : Blk W1 W.heap.size 38 #[.int .i64 (d.k : Nat), .string (st d.nm), .slice a b c, .slice a' b' c'] := by rw [hW1]; exact Blk.new _ _ _
  have q0 := b1.cell 0 rfl; have q1 := b1.cell 1 rfl
  have t1 := (hT.keep k1).cell 1 rfl
  have y0 := (hK.keep k1).cell 0 rfl
  have HW := Lib.hid hW1; have KK := Lib.hid k1
  have hq := st_eqb lN lT
  obtain ⟨dk, hdk⟩ : ∃ dk, dk = d.k := ⟨_, rfl⟩
  obtain ⟨S, hS⟩ : ∃ S, S = st d.nm := ⟨_, rfl⟩
  obtain ⟨R, hR⟩ : ∃ R, R = st T := ⟨_, rfl⟩
  obtain ⟨E, hE⟩ : ∃ E, E = (d.nm == T) := ⟨_, rfl⟩
  rw [← hS, ← hR, ← hE] at hq
  rw [hW1] at q0 q1 t1 y0
  rw [← hdk, ← hS] at HW q0 q1 t1 y0
  rw [← hR] at t1
  rw [← hS, ← hdk, ← hE]
  clear hW1 b1 k1 hK hT hS hR hE hdk
  by_cases hk : dk = k
  · subst hk
    have hkk : (dk == dk) = true := beq_self_eq_true dk
    have hki : ((dk : Int) == (dk : Int)) = true := beq_self_eq_true _
    go_enter Tryz.func155, Tryz.ntmps155
    go_wp2_with fail
    go_ret
    exact ⟨by rw [hkk, ← hq]; rfl, by rw [← HW.out]; exact KK.out⟩
  · have hki : ((dk : Int) == (k : Int)) = false := beq_eq_false_iff_ne.2 (by omega)
    have hkk : (dk == k) = false := beq_eq_false_iff_ne.2 hk
    go_enter Tryz.func155, Tryz.ntmps155
    go_wp2_with fail
    go_ret
    exact ⟨by rw [hkk]; rfl, by rw [← HW.out]; exact KK.out⟩
theorem taken_yes {k : Nat} {T : List Nat} {ds : List Dc} {i : Nat} {d : Dc} (h : ds[i]? = some d) (hf : (d.k == k && d.nm == T) = true) : takenB k T ds = true := by
  unfold takenB
  rw [List.any_eq_true]
  exact ⟨d, List.mem_of_getElem? h, hf⟩
theorem taken_no {k : Nat} {T : List Nat} {ds : List Dc} (h : ∀ (i : Nat) (d : Dc), ds[i]? = some d → (d.k == k && d.nm == T) = false) : takenB k T ds = false := by
  unfold takenB
  rw [List.any_eq_false]
  intro d hd
  obtain ⟨i, hi, rfl⟩ := List.getElem_of_mem hd
  rw [h i _ (List.getElem?_eq_getElem hi)]
  simp
set_option maxRecDepth 100000 in
set_option maxHeartbeats 2000000 in
theorem idxD_any {k kb tb K NM AT : Nat} {T : List Nat} {ds : List Dc} {xs : List (Value × Value)} {v : Value} {W : World} (hD : DR W v ds xs) (hK : Blk W kb 3 #[.int .i64 (k : Nat)]) (hT : Blk W tb 111 #[.int .i64 (K : Nat), .string (st T), .int .i64 (NM : Nat), .int .i64 (AT : Nat)]) (lT : Lt T) :
    Calls Tryz.prog 138 #[v, .func (.func 155) #[] #[.pointer (some ⟨kb, 0, none⟩), .pointer (some ⟨tb, 0, none⟩)]] W fun e W' => ∃ r : Int, e = .returned (.int .i64 r) ∧ decide (0 ≤ r) = takenB k T ds ∧ Kp W W' := by
  obtain ⟨ao, cap, rfl⟩ := row_open hD.own
  obtain ⟨len, hlen⟩ : ∃ len, len = ds.length := ⟨_, rfl⟩
  obtain ⟨Q, hQ⟩ : ∃ Q, Q = takenB k T ds := ⟨_, rfl⟩
  have HQ := Lib.hid hQ
  have hl64 : len ≤ 64 := by rw [hlen]; exact hD.few
  rw [← hlen] at hD ⊢
  rw [← hQ]
  have HD := Lib.hid hD; have HL := Lib.hid hlen; have HKB := Lib.hid hK; have HTB := Lib.hid hT; have LT := Lib.hid lT
  clear hD hlen hQ hK hT lT
  go_enter Tryz.func138, Tryz.ntmps138
  go_wp2_with fail
  go_loopw [8] (fun iv wy => ∃ i : Nat, i ≤ len ∧ iv = .int .i64 i ∧ Kp W wy ∧ Hid (∀ (j : Nat) (d : Dc), j < i → ds[j]? = some d → (d.k == k && d.nm == T) = false)) (fun iv _ => len - (intOf iv).toNat)
  case atStart => exact ⟨0, Nat.zero_le _, rfl, Kp.refl _, fun j t hj => absurd hj (by omega)⟩
  case round =>
    obtain ⟨i, hi, rfl, hkp, hz⟩ := hrel
    have HKP := Lib.hid hkp
    clear hkp
    by_cases hil : i < len
    · have hd : ds[i]? = some (ds[i]'(by have := HL.out; omega)) := List.getElem?_eq_getElem _
      obtain ⟨d, ed⟩ : ∃ d, d = (ds[i]'(by have := HL.out; omega)) := ⟨_, rfl⟩
      rw [← ed] at hd
      have hxl : i < xs.length := by have := HL.out; have := HD.out.len; omega
      have hx : xs[i]? = some xs[i] := List.getElem?_eq_getElem hxl
      obtain ⟨a, b, c, a', b', c', ex⟩ := HD.out.opn _ (List.mem_of_getElem? hx)
      obtain ⟨g, c0, e0, -, hcell⟩ := row_cells (HD.out.kp HKP.out).own (by rw [← HL.out]; omega)
      simp only [Value.slice.injEq] at e0
      obtain ⟨rfl, -, rfl⟩ := e0
      have hat := dcells_at ds xs i d _ hd hx
      have k0 := hcell (i * 4) (.int .i64 (d.k : Nat)) (by have := hat 0 (by omega); rw [Nat.add_zero] at this; rw [this]; rfl)
      have k1 := hcell (i * 4 + 1) (.string (st d.nm)) (by rw [hat 1 (by omega)]; rfl)
      have k2 := hcell (i * 4 + 2) (.slice a b c) (by rw [hat 2 (by omega), ex]; rfl)
      have k3 := hcell (i * 4 + 3) (.slice a' b' c') (by rw [hat 3 (by omega), ex]; rfl)
      have HDD := Lib.hid hd
      have C := Lib.hid (decl1_any (k := k) (a := a) (a' := a') (b := b) (c := c) (b' := b') (c' := c') (HKB.out.keep HKP.out) (HTB.out.keep HKP.out) LT.out (HD.out.ok d (List.mem_of_getElem? hd)))
      clear ed hd hxl hx ex hcell hat
      cases hb : (d.k == k && d.nm == T) with
      | false =>
        rw [hb] at C
        have HB := Lib.hid hb
        clear hb
        go_wp2_with fail
        refine C.out.mono ?_
        rintro e W2 ⟨rfl, hk2⟩
        have HK2 := Lib.hid (Kp.trans HKP.out hk2)
        clear hk2
        go_wp2_with fail
        go_roundw
        case rel => exact ⟨i + 1, by omega, vint (by omega), HK2.out, fun j d' hj h => by
          by_cases hji : j = i
          · subst hji
            have e := HDD.out
            rw [h] at e
            injection e with e
            rw [e]; exact HB.out
          · exact hz.out j d' (by omega) h⟩
        case measure => simp [intOf]; omega
      | true =>
        rw [hb] at C
        have FIN : Hid (decide ((0 : Int) ≤ (i : Int)) = Q) := by
          show _ = _
          rw [HQ.out, taken_yes HDD.out hb]
          exact decide_eq_true (by omega)
        clear hb
        go_wp2_with fail
        refine C.out.mono ?_
        rintro e W2 ⟨rfl, hk2⟩
        have HK2 := Lib.hid (Kp.trans HKP.out hk2)
        clear hk2
        go_wp2_with fail
        go_ret
        exact ⟨_, rfl, FIN.out, HK2.out⟩
    · have FIN : Hid (decide ((0 : Int) ≤ -1) = Q) := by
        show _ = _
        rw [HQ.out, taken_no (fun j d h => hz.out j d (by
          have := HL.out
          rcases Nat.lt_or_ge j ds.length with h1 | h1
          · omega
          · rw [List.getElem?_eq_none h1] at h; cases h) h)]
        rfl
      go_wp2_with fail
      go_ret
      exact ⟨_, rfl, FIN.out, HKP.out⟩
set_option maxRecDepth 100000 in
theorem containsD_any {k kb tb K NM AT : Nat} {T : List Nat} {ds : List Dc} {xs : List (Value × Value)} {v : Value} {W : World} (hD : DR W v ds xs) (hK : Blk W kb 3 #[.int .i64 (k : Nat)]) (hT : Blk W tb 111 #[.int .i64 (K : Nat), .string (st T), .int .i64 (NM : Nat), .int .i64 (AT : Nat)]) (lT : Lt T) :
    Calls Tryz.prog 101 #[v, .func (.func 155) #[] #[.pointer (some ⟨kb, 0, none⟩), .pointer (some ⟨tb, 0, none⟩)]] W fun e W' => e = .returned (.bool (takenB k T ds)) ∧ Kp W W' := by
  have C := Lib.hid (idxD_any hD hK hT lT)
  clear hD hK hT
  obtain ⟨Q, hQ⟩ : ∃ Q, Q = takenB k T ds := ⟨_, rfl⟩
  rw [← hQ] at C ⊢
  clear hQ
  go_enter Tryz.func101, Tryz.ntmps101
  go_wp2_with fail
  refine C.out.mono ?_
  rintro e W2 ⟨r, rfl, hr, hk⟩
  have HR := Lib.hid hr; have HK := Lib.hid hk
  clear hr hk
  go_wp2_with fail
  go_ret
  rw [← HR.out]
  exact ⟨rfl, HK.out⟩
/-- A name. -/
def vS : List Nat → World → Value → Prop := fun n _ v => v = .string (st n) ∧ Lt n ∧ n.length ≤ 100000
set_option maxRecDepth 100000 in
set_option maxHeartbeats 4000000 in
theorem declared_st {F : Nat → Prop} {g p k : Nat} {W : World} {s : St} (h : PI F g p W s) {v : Value} {earlier : List Dc} {xs : List (Value × Value)} (hD : DR W v earlier xs) (hDF : ∀ b, v.ownBlock = some b → F b) {r : Out (List Nat)} (hr : declared k earlier s = some r) :
    Calls Tryz.prog 129 #[.pointer (some ⟨p, 0, none⟩), .int .i64 (k : Nat), v] W (Ans' F g p vS r W) := by
  obtain ⟨Q, hQ⟩ : ∃ Q, Q = Ans' F g p vS r W := ⟨_, rfl⟩
  rw [← hQ]
  have HQ := Lib.hid hQ
  have H := Lib.hid h
  obtain ⟨vo, vc, rfl⟩ := row_open hD.own
  obtain ⟨vl, hvl⟩ : ∃ vl, vl = earlier.length := ⟨_, rfl⟩
  rw [← hvl] at hD hDF ⊢
  have HDR := Lib.hid hD; have DF := Lib.hid hDF
  obtain ⟨Wa, hWa⟩ : ∃ Wa, Wa = W.alloc (Obj.cells #[.int .i64 (k : Nat)] 3) := ⟨_, rfl⟩
  obtain ⟨W0, hW0⟩ : ∃ W0, W0 = Wa.alloc (Obj.cells #[.int .i64 0, .string ⟨#[]⟩, .int .i64 0, .int .i64 0] 111) := ⟨_, rfl⟩
  obtain ⟨kb, hkb⟩ : ∃ kb, kb = W.heap.size := ⟨_, rfl⟩
  obtain ⟨tb, htb⟩ : ∃ tb, tb = W.heap.size + 1 := ⟨_, rfl⟩
  have hsa : Wa.heap.size = W.heap.size + 1 := by rw [hWa]; simp
  have hs0 : W0.heap.size = W.heap.size + 2 := by rw [hW0]; simp; omega
  have ka : Kp W Wa := by rw [hWa]; exact kp_alloc W _
  have kb' : Kp Wa W0 := by rw [hW0]; exact kp_alloc Wa _
  have K0 : Hid (Kp W W0) := Kp.trans ka kb'
  have KB : Hid (Blk W0 kb 3 #[.int .i64 (k : Nat)]) := by
    have : Blk Wa W.heap.size 3 #[.int .i64 (k : Nat)] := by rw [hWa]; exact Blk.new _ _ _
    show Blk _ _ _ _
    rw [hkb]
    exact this.keep kb'
  have TB : Hid (Blk W0 tb 111 #[.int .i64 0, .string ⟨#[]⟩, .int .i64 0, .int .i64 0]) := by show Blk _ _ _ _; rw [hW0, htb, ← hsa]; exact Blk.new _ _ _
  have HW0 : Hid (W0 = (W.alloc (Obj.cells #[.int .i64 (k : Nat)] 3)).alloc (Obj.cells #[.int .i64 0, .string ⟨#[]⟩, .int .i64 0, .int .i64 0] 111)) := by show _ = _; rw [hW0, hWa]
  have Z0 := Lib.hid hs0; have TBS : Hid (tb = W.heap.size + 1) := htb
  have NE : Hid (kb ≠ tb) := by show _ ≠ _; omega
  have MK : Hid (Mine F W W0 kb) := by show Mine _ _ _ _; exact .inr ⟨by omega, by omega⟩
  have MT : Hid (Mine F W W0 tb) := by show Mine _ _ _ _; exact .inr ⟨by omega, by omega⟩
  have BAD : Hid (∀ a e W', Keep (Mine F W W0) W0 W' → r = .bad a e → Q (pan a e) W') := by
    intro a e W' hk he
    rw [HQ.out, he]
    exact ⟨rfl, (Kp.keep K0.out H.out.dom).trans (hk.mono (fun k hk => .inl hk))⟩
  have c0 := KB.out.cell 0 rfl
  rw [HW0.out, hkb] at c0
  have EKB := Lib.hid hkb; have ETB := Lib.hid htb
  have hr2 : bnd (if k = 3 then text pathB else name) (fun t => if earlier.any (fun d => d.k == k && d.nm == t.2.1) then SrcN.fail t 10 else ret t.2.1) s = some r := hr
  clear hQ h hD hDF hvl hWa hW0 hkb htb hsa hs0 ka kb' hr
  by_cases hk3 : k = 3
  · rw [if_pos hk3] at hr2
    have hr' := hr2
    have hki : ((k : Int) == 3) = true := by rw [hk3]; rfl
    clear hr2 hk3
    rcases bnd_some hr' with ⟨a, e, hm, he⟩ | ⟨⟨K, T, NM, AT⟩, s1, hm, hk1⟩
    · have C := Lib.hid (text_st (H.out.fresh K0.out) fitsP hm)
      have HE := Lib.hid he
      clear hr' hm he
      go_enter Tryz.func129, Tryz.ntmps129
      go_wp2_with fail
      rw [← HW0.out]
      refine C.out.mono ?_
      rintro e1 W1 ⟨rfl, hk⟩
      exact ⟨rfl, BAD.out _ _ _ hk HE.out⟩
    · have C := Lib.hid (text_st (H.out.fresh K0.out) fitsP hm)
      have HK1 : Hid ((if earlier.any (fun d => d.k == k && d.nm == T) then SrcN.fail (K, T, NM, AT) 10 else ret T) s1 = some r) := hk1
      clear hr' hm hk1
      go_enter Tryz.func129, Tryz.ntmps129
      go_wp2_with fail
      rw [← HW0.out, ← ETB.out, ← EKB.out]
      clear c0
      refine C.out.mono ?_
      rintro e1 W1 ⟨⟨v, rfl, rfl, hT⟩, hpi, hke⟩
      have PI1 := Lib.hid hpi; have KE1 := Lib.hid hke; have HT := Lib.hid hT
      have b1 := TB.out.kept hke MT.out
      have z0 := b1.cell 0 rfl; have z1 := b1.cell 1 rfl; have z2 := b1.cell 2 rfl; have z3 := b1.cell 3 rfl
      have g0 := b1.free 0; have g1 := b1.free 1; have g2 := b1.free 2; have g3 := b1.free 3
      obtain ⟨X, hX⟩ : ∃ X, X = (((W1.setCell ⟨tb, 0, none⟩ (.int .i64 (K : Nat))).setCell ⟨tb, 1, none⟩ (.string (st T))).setCell ⟨tb, 2, none⟩ (.int .i64 (NM : Nat))).setCell ⟨tb, 3, none⟩ (.int .i64 (AT : Nat)) := ⟨_, rfl⟩
      have ox : Only tb W1 X := by rw [hX]; exact ((((Only.refl _ W1).set 0 _).set 1 _).set 2 _).set 3 _
      have TBX : Hid (Blk X tb 111 #[.int .i64 (K : Nat), .string (st T), .int .i64 (NM : Nat), .int .i64 (AT : Nat)]) := by show Blk _ _ _ _; rw [hX]; exact (((b1.set 0 _).set 1 _).set 2 _).set 3 _
      have KBX : Hid (Blk X kb 3 #[.int .i64 (k : Nat)]) := (ox.block kb NE.out).trans (KB.out.kept hke MK.out)
      have DRX : Hid (DR X (.slice vo vl vc) earlier xs) := by
        show DR _ _ _ _
        refine (HDR.out.kp K0.out).keep (fun b hb => ?_)
        have hf := DF.out b hb
        exact (ox.block b (fun e => by have := H.out.dom b hf; have := TBS.out; omega)).trans (hke.block b (.inl hf))
      have OX := Lib.hid ox; have HX := Lib.hid hX
      clear hpi hke hT b1 ox hX C
      go_wp2_with fail
      rw [← HX.out]
      clear z0 z1 z2 z3 g0 g1 g2 g3
      have BACK : Hid (∀ W2, Kp X W2 → PI F g p W2 s1 ∧ Keep F W W2) := by
        intro W2 k2
        refine PI.back H.out K0.out PI1.out KE1.out (Nat.le_trans (Nat.le_of_eq OX.out.size) k2.size) ⟨k2.os.trans OX.out.os, k2.tape.trans OX.out.tape, k2.output.trans OX.out.output⟩ (fun b hb hn => ?_)
        have hbX : b < X.heap.size := by have := OX.out.size; omega
        exact (k2.block b hbX).trans (OX.out.block b (fun e => hn (by have := TBS.out; have := Z0.out; omega)))
      have CC := Lib.hid (containsD_any DRX.out KBX.out TBX.out HT.out.1)
      refine CC.out.mono ?_
      rintro e1 W2 ⟨rfl, hk2⟩
      have KK2 := Lib.hid hk2
      have q0 := (TBX.out.keep hk2).cell 0 rfl; have q1 := (TBX.out.keep hk2).cell 1 rfl; have q2 := (TBX.out.keep hk2).cell 2 rfl; have q3 := (TBX.out.keep hk2).cell 3 rfl
      have htk : takenB k T earlier = earlier.any (fun d => d.k == k && d.nm == T) := rfl
      rw [htk]
      clear hk2 htk
      cases ht : earlier.any (fun d => d.k == k && d.nm == T) with
      | true =>
        have HE : Hid (r = .bad AT 10) := by
          have := HK1.out
          rw [ht, if_pos rfl] at this
          injection this with this
          exact this.symm
        clear ht
        go_wp2_with fail
        refine (fail_any K NM AT (st T) 10 W2).mono ?_
        rintro e1 W3 ⟨rfl, hk⟩
        refine ⟨rfl, ?_⟩
        rw [HQ.out, HE.out]
        exact ⟨rfl, (BACK.out W3 (Kp.trans KK2.out hk)).2⟩
      | false =>
        have HE : Hid (r = .ok T s1) := by
          have := HK1.out
          rw [ht, if_neg (by simp)] at this
          injection this with this
          exact this.symm
        clear ht
        have F2 : Hid (Q (.returned (.string (st T))) W2) := by
          show Q _ _
          have hb := BACK.out W2 KK2.out
          rw [HQ.out, HE.out]
          exact ⟨⟨_, rfl, rfl, HT.out.1, HT.out.2.1⟩, hb.1, hb.2⟩
        go_wp2_with fail
        first | exact F2.out | (go_ret3; exact F2.out) | (go_ret; exact F2.out)
  · rw [if_neg hk3] at hr2
    have hr' := hr2
    have hki : ((k : Int) == 3) = false := beq_eq_false_iff_ne.2 (by omega)
    clear hr2
    rcases bnd_some hr' with ⟨a, e, hm, he⟩ | ⟨⟨K, T, NM, AT⟩, s1, hm, hk1⟩
    · have C := Lib.hid (name_st (H.out.fresh K0.out) hm)
      have HE := Lib.hid he
      clear hr' hm he
      go_enter Tryz.func129, Tryz.ntmps129
      go_wp2_with fail
      rw [← HW0.out]
      refine C.out.mono ?_
      rintro e1 W1 ⟨rfl, hk⟩
      exact ⟨rfl, BAD.out _ _ _ hk HE.out⟩
    · have C := Lib.hid (name_st (H.out.fresh K0.out) hm)
      have HK1 : Hid ((if earlier.any (fun d => d.k == k && d.nm == T) then SrcN.fail (K, T, NM, AT) 10 else ret T) s1 = some r) := hk1
      clear hr' hm hk1
      go_enter Tryz.func129, Tryz.ntmps129
      go_wp2_with fail
      rw [← HW0.out, ← ETB.out, ← EKB.out]
      clear c0
      refine C.out.mono ?_
      rintro e1 W1 ⟨⟨v, rfl, rfl, hT⟩, hpi, hke⟩
      have PI1 := Lib.hid hpi; have KE1 := Lib.hid hke; have HT := Lib.hid hT
      have b1 := TB.out.kept hke MT.out
      have z0 := b1.cell 0 rfl; have z1 := b1.cell 1 rfl; have z2 := b1.cell 2 rfl; have z3 := b1.cell 3 rfl
      have g0 := b1.free 0; have g1 := b1.free 1; have g2 := b1.free 2; have g3 := b1.free 3
      obtain ⟨X, hX⟩ : ∃ X, X = (((W1.setCell ⟨tb, 0, none⟩ (.int .i64 (K : Nat))).setCell ⟨tb, 1, none⟩ (.string (st T))).setCell ⟨tb, 2, none⟩ (.int .i64 (NM : Nat))).setCell ⟨tb, 3, none⟩ (.int .i64 (AT : Nat)) := ⟨_, rfl⟩
      have ox : Only tb W1 X := by rw [hX]; exact ((((Only.refl _ W1).set 0 _).set 1 _).set 2 _).set 3 _
      have TBX : Hid (Blk X tb 111 #[.int .i64 (K : Nat), .string (st T), .int .i64 (NM : Nat), .int .i64 (AT : Nat)]) := by show Blk _ _ _ _; rw [hX]; exact (((b1.set 0 _).set 1 _).set 2 _).set 3 _
      have KBX : Hid (Blk X kb 3 #[.int .i64 (k : Nat)]) := (ox.block kb NE.out).trans (KB.out.kept hke MK.out)
      have DRX : Hid (DR X (.slice vo vl vc) earlier xs) := by
        show DR _ _ _ _
        refine (HDR.out.kp K0.out).keep (fun b hb => ?_)
        have hf := DF.out b hb
        exact (ox.block b (fun e => by have := H.out.dom b hf; have := TBS.out; omega)).trans (hke.block b (.inl hf))
      have OX := Lib.hid ox; have HX := Lib.hid hX
      clear hpi hke hT b1 ox hX C
      go_wp2_with fail
      rw [← HX.out]
      clear z0 z1 z2 z3 g0 g1 g2 g3
      have BACK : Hid (∀ W2, Kp X W2 → PI F g p W2 s1 ∧ Keep F W W2) := by
        intro W2 k2
        refine PI.back H.out K0.out PI1.out KE1.out (Nat.le_trans (Nat.le_of_eq OX.out.size) k2.size) ⟨k2.os.trans OX.out.os, k2.tape.trans OX.out.tape, k2.output.trans OX.out.output⟩ (fun b hb hn => ?_)
        have hbX : b < X.heap.size := by have := OX.out.size; omega
        exact (k2.block b hbX).trans (OX.out.block b (fun e => hn (by have := TBS.out; have := Z0.out; omega)))
      have CC := Lib.hid (containsD_any DRX.out KBX.out TBX.out HT.out.1)
      refine CC.out.mono ?_
      rintro e1 W2 ⟨rfl, hk2⟩
      have KK2 := Lib.hid hk2
      have q0 := (TBX.out.keep hk2).cell 0 rfl; have q1 := (TBX.out.keep hk2).cell 1 rfl; have q2 := (TBX.out.keep hk2).cell 2 rfl; have q3 := (TBX.out.keep hk2).cell 3 rfl
      have htk : takenB k T earlier = earlier.any (fun d => d.k == k && d.nm == T) := rfl
      rw [htk]
      clear hk2 htk
      cases ht : earlier.any (fun d => d.k == k && d.nm == T) with
      | true =>
        have HE : Hid (r = .bad AT 10) := by
          have := HK1.out
          rw [ht, if_pos rfl] at this
          injection this with this
          exact this.symm
        clear ht
        go_wp2_with fail
        refine (fail_any K NM AT (st T) 10 W2).mono ?_
        rintro e1 W3 ⟨rfl, hk⟩
        refine ⟨rfl, ?_⟩
        rw [HQ.out, HE.out]
        exact ⟨rfl, (BACK.out W3 (Kp.trans KK2.out hk)).2⟩
      | false =>
        have HE : Hid (r = .ok T s1) := by
          have := HK1.out
          rw [ht, if_neg (by simp)] at this
          injection this with this
          exact this.symm
        clear ht
        have F2 : Hid (Q (.returned (.string (st T))) W2) := by
          show Q _ _
          have hb := BACK.out W2 KK2.out
          rw [HQ.out, HE.out]
          exact ⟨⟨_, rfl, rfl, HT.out.1, HT.out.2.1⟩, hb.1, hb.2⟩
        go_wp2_with fail
        first | exact F2.out | (go_ret3; exact F2.out) | (go_ret; exact F2.out)
end By
end Go.Proofs.YtmflgfojicaecaaGreatDoor
