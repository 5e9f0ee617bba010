/- The parser's node: it adds a node to the declaration. Condition: the parser lies in memory as it is named. -/
import Derived.Test.YtmflgfojicaecaaGreatDoorMSa
import Derived.StillTailTactics
import Derived.Deep.RegionHeld3
namespace Go.Proofs.YtmflgfojicaecaaGreatDoor
namespace By
open Go.RowKit WireN LexN SrcN
set_option linter.unusedVariables false
set_option linter.unusedSimpArgs false

theorem row_open {W : World} {B n m : Nat} {T : TypeId} {v : Value} {xs : List Value} (h : W.ownsRow B T n v m xs) : ∃ ao cap, v = .slice ao m cap := by
  rcases h.2 with ⟨rfl, h0⟩ | ⟨g, cap, cur, rfl, _⟩
  · exact ⟨none, 0, by rw [h0]⟩
  · exact ⟨_, cap, rfl⟩
theorem infoE : (Tryz.prog.info? 57).map (fun i => (i.zero, i.size, i.bytes)) = some (some (.agg #[.int .i64 0, .int .i64 0, .int .i64 0, .string ⟨#[]⟩, .slice none 0 0]), 5, 64) := by kernel_rfl
/-- An append to a row of the call's own, as one step of a region. -/
theorem step_row {w : World} {ops : Array Oper} {o : Oper} {a : Act} {K : Act → World → Prop} {Q : Exit → Act → World → Prop} {E : Prop} (hgd : o.guard = none) (s x : Operand) (t : TypeId)
    (ho : o.op = .call { callee := .builtin .append, args := #[s, x], argTypes := #[t, t] })
    (base : Nat) (e : TypeId) (z : Value) (size bytes : Nat) (ht : Tryz.prog.underlying t = some (.slice e)) (hinfo : (Tryz.prog.info? e).map (fun i => (i.zero, i.size, i.bytes)) = some (some z, size, bytes))
    (hzs : z.cells.size = size) (hsz : 0 < size)
    (v : Value) (n : Nat) (xs : List Value) (hs : a.eval s = v) (hown : w.ownsRow base e size v n xs)
    (ad : Addr) (m c : Nat) (news : List Value) (hx : a.eval x = .slice (some ad) m c) (hl : news.length = m * size) (hnews : ∀ j u, news[j]? = some u → w.cell? (ad.add j) = some u) (h1 : ∀ u ∈ news, u.oneCell' = true)
    (h63 : n + m ≤ maxLen) (hbytes : (n + m) * bytes ≤ 140737488355328) (hbase : base ≤ w.heap.size)
    (h : ∀ v' w', w'.ownsRow base e size v' (n + m) (xs ++ news) → w.grownBy w' v.ownBlock → (v'.ownBlock = v.ownBlock ∨ v'.ownBlock = some w.heap.size) → K (a.put o.dst v') w') :
    if Region.wanted o (yielded ops a.tmps) = true then Oper.wp Tryz.prog o a w K Q else E := by
  have hw : Region.wanted o (yielded ops a.tmps) = true := by simp [Region.wanted, hgd]
  rw [if_pos hw]
  obtain ⟨i, hi, hz, hsize, hby⟩ := info_parts hinfo
  obtain ⟨v', w', hr, h2, h3, h4, h5⟩ := run_append_own_at (P := Tryz.prog) w base t o.type e i z size bytes ht hi hz hsize hby hzs hsz v n xs hown ad m c news hl hnews h1 h63 hbytes hbase
  unfold Oper.wp
  simp [execOp, ho, resolve, invoke, builtin, hs, hx, hr, Result.andThen]
  exact h v' w' h2 h3 h5
set_option maxRecDepth 100000 in
set_option maxHeartbeats 1000000 in
theorem node_no {F : Nat → Prop} {g p : Nat} {W : World} {s : St} (h : PI F g p W s) (hlv : s.lv = true) {K NM AT : Nat} {T N : ByteArray} {k num op : Int} {ao : Option Addr} {al ac : Nat} (hn : 256 ≤ s.bd.length) :
    Calls Tryz.prog 157 #[.pointer (some ⟨p, 0, none⟩), .agg #[.int .i64 (K : Nat), .string T, .int .i64 (NM : Nat), .int .i64 (AT : Nat)], .agg #[.int .i64 k, .int .i64 num, .int .i64 op, .string N, .slice ao al ac]] W fun e W' => e = pan AT 2 ∧ Kp W W' := by
  obtain ⟨o, rc, pv, bv, vs, h⟩ := h
  obtain ⟨bo, bc, rfl⟩ := row_open (h.bown hlv)
  obtain ⟨n, hn'⟩ : ∃ n, n = s.bd.length := ⟨_, rfl⟩
  rw [← hn'] at hn
  obtain ⟨W1, hW1⟩ : ∃ W1, W1 = W.alloc (Obj.cells #[.int .i64 (K : Nat), .string T, .int .i64 (NM : Nat), .int .i64 (AT : Nat)] 111) := ⟨_, rfl⟩
  obtain ⟨W2, hW2⟩ : ∃ W2, W2 = W1.alloc (Obj.cells #[.int .i64 k, .int .i64 num, .int .i64 op, .string N, .slice ao al ac] 57) := ⟨_, rfl⟩
  have k1 : Kp W W1 := by rw [hW1]; exact kp_alloc W _
  have k2 : Kp W1 W2 := by rw [hW2]; exact kp_alloc W1 _
  have b1 : Blk W2 W.heap.size 111 #[.int .i64 (K : Nat), .string T, .int .i64 (NM : Nat), .int .i64 (AT : Nat)] := by
    have : Blk W1 W.heap.size 111 #[.int .i64 (K : Nat), .string T, .int .i64 (NM : Nat), .int .i64 (AT : Nat)] := by rw [hW1]; exact Blk.new _ _ _
    exact this.keep k2
  have KK := Lib.hid (Kp.trans k1 k2)
  have q0 := b1.cell 0 rfl; have q1 := b1.cell 1 rfl; have q2 := b1.cell 2 rfl; have q3 := b1.cell 3 rfl
  have c2 := ((h.kp k1).kp k2).blk.cell 2 rfl
  rw [← hn'] at c2
  have HW : Hid (W2 = (W.alloc (Obj.cells #[.int .i64 (K : Nat), .string T, .int .i64 (NM : Nat), .int .i64 (AT : Nat)] 111)).alloc (Obj.cells #[.int .i64 k, .int .i64 num, .int .i64 op, .string N, .slice ao al ac] 57)) := by show _ = _; rw [hW2, hW1]
  clear hW1 hW2 k1 k2 b1 h hn'
  have hni : (256 : Int) ≤ (n : Int) := by omega
  go_enter Tryz.func157, Tryz.ntmps157
  go_wp2_with fail
  rw [← HW.out]
  go_still_tail 6, (by kernel_rfl)
  change wpList _ _ _ _ _ W2.drew
  have KD : Hid (Kp W W2.drew) := Kp.trans KK.out (kp_drew W2)
  generalize W2.drew = W3 at KD
  go_wp2_with fail
  refine (room_no K NM AT T n 256 hni W3).mono ?_
  rintro e W4 ⟨rfl, hk⟩
  exact ⟨rfl, rfl, Kp.trans KD.out hk⟩
/-- One struct in a slice of its own, as a step of a region. -/
theorem step_bldE {wx : World} {ops : Array Oper} {o : Oper} {a : Act} {K : Act → World → Prop} {Q : Exit → Act → World → Prop} {E : Prop} (hgd : o.guard = none) (k j : Tmp)
    (ho : o.op = .buildSlice 36 1 #[(0, .tmp j)]) (hdst : o.dst = some k) {u0 u1 u2 : Int} {N : ByteArray} {ao : Option Addr} {al ac : Nat} (hx : a.eval (.tmp j) = .agg #[.int .i64 u0, .int .i64 u1, .int .i64 u2, .string N, .slice ao al ac])
    (h : ∀ w', w' = wx.alloc (.cells #[.int .i64 u0, .int .i64 u1, .int .i64 u2, .string N, .slice ao al ac] 57) → K (a.put (some k) (.slice (some ⟨wx.heap.size, 0, none⟩) 1 1)) w') :
    if Region.wanted o (yielded ops a.tmps) = true then Oper.wp Tryz.prog o a wx K Q else E := by
  have hw : Region.wanted o (yielded ops a.tmps) = true := by simp [Region.wanted, hgd]
  rw [if_pos hw]
  have hP := h _ rfl
  unfold Oper.wp
  have hx' : a.tmps[j]?.getD undef = .agg #[.int .i64 u0, .int .i64 u1, .int .i64 u2, .string N, .slice ao al ac] := by simpa [Act.eval] using hx
  simp [execOp, ho, resolve, hdst, hx', go_sem, Result.andThen]
  exact hP
/-- A node is added. -/
theorem PM.push {F G : Nat → Prop} {g p : Nat} {W W5 W6 X : World} {s : St} {o rc : Nat} {pv bv bv' : Value} {vs : List Value} (h : PM G g p W s o rc pv bv vs) (hlv : s.lv = true) (hs : ∀ k, F k → G k) (hb : ∀ b, Bs g b → F b) {nd : Nd} {V : Value} (hV : Ints (fun b => G b ∧ ¬ F b) W V nd.args)
    (hk : Kp W W5) (hr : W6.ownsRow 0 57 5 bv' (s.bd.length + 1) (ncells s.bd vs ++ ncell nd V)) (hg : W5.grownBy W6 bv.ownBlock) (ha : bv'.ownBlock = bv.ownBlock ∨ bv'.ownBlock = some W5.heap.size) (hX : X = W6.setCell ⟨p, 2, none⟩ bv') (hn : s.bd.length < 256) :
    PI F g p X ⟨s.ts, s.ps, s.bd ++ [nd], s.lv⟩ ∧ Keep F W X := by
  have hz : W.heap.size ≤ X.heap.size := by rw [hX]; simpa using Nat.le_trans hk.size hg.size
  have hc : ∀ b, b < W.heap.size → b ≠ p → bv.ownBlock ≠ some b → X.heap[b]? = W.heap[b]? := fun b hlt hp hbv => by
    rw [hX, heap_setCell_other W6 ⟨p, 2, none⟩ b _ hp]
    exact (hg.block b (Nat.lt_of_lt_of_le hlt hk.size) (fun e => hbv e.symm)).trans (hk.block b hlt)
  have hf : ∀ b, F b → X.heap[b]? = W.heap[b]? := fun b hfb => hc b (h.dom b (hs b hfb)) (fun e => h.own (e ▸ hs b hfb)) (fun e => (h.boff hlv b e).1 (hs b hfb))
  have hnew : ∀ b, bv'.ownBlock = some b → bv.ownBlock = some b ∨ b = W5.heap.size := fun b e => by
    rcases ha with ha | ha
    · exact .inl (ha ▸ e)
    · rw [ha] at e; injection e with e; exact .inr e.symm
  have hpz : p < W.heap.size := h.lt
  have hp5 : p < W5.heap.size := Nat.lt_of_lt_of_le hpz hk.size
  have hbp : bv.ownBlock ≠ some p := fun e => (h.boff hlv p e).2.1 rfl
  have bp : Blk X p 87 #[.slice (some ⟨g, o * 4, none⟩) s.ts.length rc, pv, bv'] := by
    have h6 : Blk W6 p 87 #[.slice (some ⟨g, o * 4, none⟩) s.ts.length rc, pv, bv] := (hg.block p hp5 (fun e => hbp e.symm)).trans (h.blk.keep hk)
    rw [hX]
    exact h6.set 2 bv'
  refine ⟨⟨o, rc, pv, bv', vs ++ [V], ?_⟩, ?_⟩
  · exact {
      dom := fun k hk' => Nat.lt_of_lt_of_le (h.dom k (hs k hk')) hz
      tok := hb
      glob := h.glob.keep (g := g) (fun b hx => hf b (hb b hx))
      own := fun hp => h.own (hs p hp)
      blk := bp
      toks := fun i t ht j u hu => (World.cell?_of_block (hf g (hb g (.inl rfl)))).trans (h.toks i t ht j u hu)
      good := h.good
      cap := h.cap
      pown := fun _ => own_keep (h.pown hlv) (fun b hv => hc b ((h.pown hlv).lt b hv).2 (h.poff hlv b hv).2 (fun e => (h.boff hlv b e).2.2 hv))
      pfew := h.pfew
      plt := h.plt
      poff := fun _ b hv => ⟨fun hk' => (h.poff hlv b hv).1 (hs b hk'), (h.poff hlv b hv).2⟩
      bown := fun _ => by
        show X.ownsRow 0 57 5 bv' (s.bd ++ [nd]).length (ncells (s.bd ++ [nd]) (vs ++ [V]))
        rw [ncells_snoc _ _ _ _ (h.vlen hlv), List.length_append]
        refine own_keep hr (fun b e => ?_)
        rw [hX]
        refine heap_setCell_other W6 ⟨p, 2, none⟩ b _ (fun e2 => ?_)
        simp only at e2
        subst e2
        rcases hnew b e with e | e
        · exact hbp e
        · omega
      bfew := fun _ => by show (s.bd ++ [nd]).length ≤ 256; simp; omega
      boff := fun _ b e => by
        rcases hnew b e with e | e
        · exact ⟨fun hk' => (h.boff hlv b e).1 (hs b hk'), (h.boff hlv b e).2⟩
        · subst e
          exact ⟨fun hk' => absurd (h.dom _ (hs _ hk')) (by have := hk.size; omega), by omega, fun e => absurd ((h.pown hlv).lt _ e).2 (by have := hk.size; omega)⟩
      vlen := fun _ => by simp [h.vlen hlv]
      args := fun _ i n v hi hv => by
        have key : ∀ b, b < W.heap.size → b ≠ p → bv.ownBlock ≠ some b → pv.ownBlock ≠ some b → ¬ F b → (¬ F b ∧ b ≠ p ∧ pv.ownBlock ≠ some b ∧ bv'.ownBlock ≠ some b) ∧ X.heap[b]? = W.heap[b]? := fun b hlt h1 h2 h3 h4 => ⟨⟨h4, h1, h3, fun e => by
          rcases hnew b e with e | e
          · exact h2 e
          · have := hk.size; omega⟩, hc b hlt h1 h2⟩
        rcases Nat.lt_trichotomy i s.bd.length with hlt | hlt | hlt
        · have hi' : s.bd[i]? = some n := by
            have : (s.bd ++ [nd])[i]? = some n := hi
            rwa [List.getElem?_append_left hlt] at this
          rw [List.getElem?_append_left (by rw [h.vlen hlv]; exact hlt)] at hv
          exact (h.args hlv i n v hi' hv).mono (fun b hx hl => key b hl hx.2.1 hx.2.2.2 hx.2.2.1 (fun hf' => hx.1 (hs b hf'))) hz
        · subst hlt
          have hi' : (s.bd ++ [nd])[s.bd.length]? = some n := hi
          rw [List.getElem?_append_right (Nat.le_refl _)] at hi'
          rw [List.getElem?_append_right (by rw [h.vlen hlv]; exact Nat.le_refl _), h.vlen hlv] at hv
          simp at hi' hv
          subst hi' hv
          exact hV.mono (fun b hx hl => key b hl (fun e => h.own (e ▸ hx.1)) (fun e => (h.boff hlv b e).1 hx.1) (fun e => (h.poff hlv b e).1 hx.1) hx.2) hz
        · have hi' : (s.bd ++ [nd])[i]? = some n := hi
          rw [List.getElem?_eq_none (by simp; omega)] at hi'
          cases hi' }
  · have e : X.os = W6.os ∧ X.tape = W6.tape ∧ X.output = W6.output := by rw [hX]; exact ⟨rfl, rfl, rfl⟩
    exact ⟨e.1.trans (hg.os.trans hk.os), e.2.1.trans (hg.tape.trans hk.tape), e.2.2.trans (hg.output.trans hk.output), hz, hf⟩
set_option maxRecDepth 100000 in
set_option maxHeartbeats 4000000 in
theorem node_yes {F G : Nat → Prop} {g p : Nat} {W : World} {s : St} (h : PI G g p W s) (hlv : s.lv = true) (hs : ∀ k, F k → G k) (hb : ∀ b, Bs g b → F b) {K NM AT : Nat} {T : ByteArray} {nd : Nd} {V : Value} (hV : Ints (fun b => G b ∧ ¬ F b) W V nd.args) (hn : s.bd.length < 256) :
    Calls Tryz.prog 157 #[.pointer (some ⟨p, 0, none⟩), .agg #[.int .i64 (K : Nat), .string T, .int .i64 (NM : Nat), .int .i64 (AT : Nat)], .agg #[.int .i64 (nd.k : Nat), .int .i64 nd.num, .int .i64 (nd.op : Nat), .string (st nd.nm), V]] W (StR F g p (.int .i64 (s.bd.length : Nat)) ⟨s.ts, s.ps, s.bd ++ [nd], s.lv⟩ W) := by
  obtain ⟨o, rc, pv, bv, vs, h⟩ := h
  obtain ⟨bo, bc, rfl⟩ := row_open (h.bown hlv)
  obtain ⟨ao, ac, rfl, -⟩ := hV.ex
  obtain ⟨n, hn'⟩ : ∃ n, n = s.bd.length := ⟨_, rfl⟩
  obtain ⟨W1, hW1⟩ : ∃ W1, W1 = W.alloc (Obj.cells #[.int .i64 (K : Nat), .string T, .int .i64 (NM : Nat), .int .i64 (AT : Nat)] 111) := ⟨_, rfl⟩
  obtain ⟨k, hk0⟩ : ∃ k : Int, k = (nd.k : Nat) := ⟨_, rfl⟩
  obtain ⟨op, hop0⟩ : ∃ op : Int, op = (nd.op : Nat) := ⟨_, rfl⟩
  obtain ⟨num, hnum0⟩ : ∃ num : Int, num = nd.num := ⟨_, rfl⟩
  obtain ⟨N, hN0⟩ : ∃ N, N = st nd.nm := ⟨_, rfl⟩
  obtain ⟨al, hal0⟩ : ∃ al, al = nd.args.length := ⟨_, rfl⟩
  have CELL : Hid (ncell nd (.slice ao al ac) = [.int .i64 k, .int .i64 num, .int .i64 op, .string N, .slice ao al ac]) := by show _ = _; rw [hk0, hop0, hnum0, hN0]; rfl
  obtain ⟨W2, hW2⟩ : ∃ W2, W2 = W1.alloc (Obj.cells #[.int .i64 k, .int .i64 num, .int .i64 op, .string N, .slice ao al ac] 57) := ⟨_, rfl⟩
  have hs1 : W1.heap.size = W.heap.size + 1 := by rw [hW1]; simp
  have k1 : Kp W W1 := by rw [hW1]; exact kp_alloc W _
  have k2 : Kp W1 W2 := by rw [hW2]; exact kp_alloc W1 _
  have b1 : Blk W2 W.heap.size 111 #[.int .i64 (K : Nat), .string T, .int .i64 (NM : Nat), .int .i64 (AT : Nat)] := by
    have : Blk W1 W.heap.size 111 #[.int .i64 (K : Nat), .string T, .int .i64 (NM : Nat), .int .i64 (AT : Nat)] := by rw [hW1]; exact Blk.new _ _ _
    exact this.keep k2
  have b2 : Blk W2 (W.heap.size + 1) 57 #[.int .i64 k, .int .i64 num, .int .i64 op, .string N, .slice ao al ac] := by rw [hW2, ← hs1]; exact Blk.new _ _ _
  have KK := Lib.hid (Kp.trans k1 k2)
  have q0 := b1.cell 0 rfl; have q1 := b1.cell 1 rfl; have q2 := b1.cell 2 rfl; have q3 := b1.cell 3 rfl
  have c2 := ((h.kp k1).kp k2).blk.cell 2 rfl
  have H := Lib.hid h
  have HV := Lib.hid hV
  rw [← hn'] at c2 hn H
  rw [← hk0, ← hop0, ← hN0, ← hal0, ← hnum0, ← hn']
  have HN := Lib.hid hn'
  rw [← hal0] at HV
  have B2 := Lib.hid b2
  have HW : Hid (W2 = (W.alloc (Obj.cells #[.int .i64 (K : Nat), .string T, .int .i64 (NM : Nat), .int .i64 (AT : Nat)] 111)).alloc (Obj.cells #[.int .i64 k, .int .i64 num, .int .i64 op, .string N, .slice ao al ac] 57)) := by show _ = _; rw [hW2, hW1]
  clear hW1 hW2 k1 k2 b1 b2 h hn' hk0 hop0 hN0 hal0 hV hs1 hnum0
  have hni : (n : Int) < (256 : Int) := by omega
  go_enter Tryz.func157, Tryz.ntmps157
  go_wp2_with fail
  rw [← HW.out]
  go_still_tail 6, (by kernel_rfl)
  change wpList _ _ _ _ _ W2.drew
  have KD : Hid (Kp W2 W2.drew) := kp_drew W2
  generalize W2.drew = Wd at KD
  go_wp2_with fail
  refine (room_yes K NM AT T n 256 hni Wd).mono ?_
  rintro e W3 ⟨rfl, hk⟩
  have K3 := Lib.hid (Kp.trans KD.out hk)
  clear hk q0 q1 q2 q3 c2
  have BASE : Hid (∀ W4, W4 = W3.drew → Kp W W4 ∧ W4.cell? ⟨p, 2, none⟩ = some (.slice bo n bc) ∧ W4.cell? ⟨W.heap.size + 1, 0, none⟩ = some (.int .i64 k) ∧ W4.cell? ⟨W.heap.size + 1, 1, none⟩ = some (.int .i64 num) ∧ W4.cell? ⟨W.heap.size + 1, 2, none⟩ = some (.int .i64 op) ∧ W4.cell? ⟨W.heap.size + 1, 3, none⟩ = some (.string N) ∧ W4.cell? ⟨W.heap.size + 1, 4, none⟩ = some (.slice ao al ac)) := by
    intro W4 e
    have k4 : Kp W2 W4 := by rw [e]; exact Kp.trans K3.out (kp_drew W3)
    have b := B2.out.keep k4
    refine ⟨Kp.trans KK.out k4, ?_, b.cell 0 rfl, b.cell 1 rfl, b.cell 2 rfl, b.cell 3 rfl, b.cell 4 rfl⟩
    have := (H.out.kp (Kp.trans KK.out k4)).blk.cell 2 rfl
    exact this
  have AL : Hid (∀ W4 W5, Kp W W4 → W4.cell? ⟨p, 2, none⟩ = some (.slice bo n bc) → W5 = W4.alloc (.cells #[.int .i64 k, .int .i64 num, .int .i64 op, .string N, .slice ao al ac] 57) → Kp W W5 ∧ W5.cell? ⟨p, 2, none⟩ = some (.slice bo n bc) ∧ W5.cell? ⟨W4.heap.size, 0, none⟩ = some (.int .i64 k) ∧ W5.cell? ⟨W4.heap.size, 1, none⟩ = some (.int .i64 num) ∧ W5.cell? ⟨W4.heap.size, 2, none⟩ = some (.int .i64 op) ∧ W5.cell? ⟨W4.heap.size, 3, none⟩ = some (.string N) ∧ W5.cell? ⟨W4.heap.size, 4, none⟩ = some (.slice ao al ac)) := by
    intro W4 W5 k4 hc e
    have k45 : Kp W4 W5 := by rw [e]; exact kp_alloc W4 _
    have b : Blk W5 W4.heap.size 57 #[.int .i64 k, .int .i64 num, .int .i64 op, .string N, .slice ao al ac] := by rw [e]; exact Blk.new _ _ _
    exact ⟨Kp.trans k4 k45, (k45.cell (World.block_lt_of_cell? W4 _ hc)).trans hc, b.cell 0 rfl, b.cell 1 rfl, b.cell 2 rfl, b.cell 3 rfl, b.cell 4 rfl⟩
  have ROW : Hid (∀ W5, Kp W W5 → W5.ownsRow 0 57 5 (.slice bo n bc) n (ncells s.bd vs)) := by
    intro W5 k5
    have := (H.out.kp k5).bown hlv
    rw [← HN.out] at this
    exact this
  have GR : Hid (∀ W5 W6, Kp W W5 → W5.grownBy W6 (Value.slice bo n bc).ownBlock → W6.frozen? ⟨p, 2, none⟩ = false ∧ W6.cell? ⟨p, 2, none⟩ = some (.slice bo n bc)) := by
    intro W5 W6 k5 g6
    have hlt : p < W5.heap.size := Nat.lt_of_lt_of_le H.out.lt k5.size
    have hb6 : Blk W6 p 87 #[.slice (some ⟨g, o * 4, none⟩) s.ts.length rc, pv, .slice bo n bc] := (g6.block p hlt (fun e => (H.out.boff hlv p e.symm).2.1 rfl)).trans (H.out.blk.keep k5)
    exact ⟨hb6.free 2, hb6.cell 2 rfl⟩
  have FIN : Hid (∀ W5 W6 b6 c6, Kp W W5 → W6.ownsRow 0 57 5 (.slice b6 (n + 1) c6) (n + 1) (ncells s.bd vs ++ [.int .i64 k, .int .i64 num, .int .i64 op, .string N, .slice ao al ac]) → W5.grownBy W6 (Value.slice bo n bc).ownBlock → ((Value.slice b6 (n + 1) c6).ownBlock = (Value.slice bo n bc).ownBlock ∨ (Value.slice b6 (n + 1) c6).ownBlock = some W5.heap.size) →
      StR F g p (.int .i64 (n : Nat)) ⟨s.ts, s.ps, s.bd ++ [nd], s.lv⟩ W (.returned (.int .i64 (n : Nat))) (W6.setCell ⟨p, 2, none⟩ (.slice b6 (n + 1) c6))) := by
    intro W5 W6 b6 c6 k5 r6 g6 a6
    rw [← CELL.out] at r6
    have hln : n = s.bd.length := HN.out
    have := PM.push H.out hlv hs hb HV.out k5 (by rw [← hln]; exact r6) g6 a6 rfl (by omega)
    exact ⟨rfl, this.1, this.2⟩
  clear H HV B2 CELL
  go_upto_region 2 with fail
  refine wp_region_any (by kernel_rfl) ?_
  change wpAny _ _ _ _ _ _ _ (World.drew _)
  obtain ⟨W4, hW4⟩ : ∃ W4, W4 = W3.drew := ⟨_, rfl⟩
  rw [← hW4]
  obtain ⟨KW4, p2, x0, x1, x2, x3, x4⟩ := BASE.out W4 hW4
  clear hW4
  refine wpAny_take (i := 0) (v := (.pointer (some ⟨p, 0, none⟩))) rfl (by kernel_rfl) (by kernel_rfl) (by kernel_rfl) (fun _ _ _ h => h) (Or.inl ⟨by rfl, fun wq => ?_⟩) ?_
  · go_simp
  try simp only [Act.put, List.setIfInBounds_toArray, List.set_cons_zero, List.set_cons_succ]
  refine wpAny_take (i := 1) (v := (.pointer (some ⟨p, 0, none⟩))) rfl (by kernel_rfl) (by kernel_rfl) (by kernel_rfl) (fun _ _ _ h => h) (Or.inl ⟨by rfl, fun wq => ?_⟩) ?_
  · go_simp
  try simp only [Act.put, List.setIfInBounds_toArray, List.set_cons_zero, List.set_cons_succ]
  refine wpAny_take (i := 2) (v := (.pointer (some ⟨p, 0, none⟩))) rfl (by kernel_rfl) (by kernel_rfl) (by kernel_rfl) (fun _ _ _ h => h) (Or.inl ⟨by rfl, fun wq => ?_⟩) ?_
  · go_simp
  try simp only [Act.put, List.setIfInBounds_toArray, List.set_cons_zero, List.set_cons_succ]
  refine wpAny_take (i := 3) (v := (.pointer (some ⟨p, 2, none⟩))) rfl (by kernel_rfl) (by kernel_rfl) (by kernel_rfl) (fun _ _ _ h => h) (Or.inl ⟨by rfl, fun wq => ?_⟩) ?_
  · go_simp
  try simp only [Act.put, List.setIfInBounds_toArray, List.set_cons_zero, List.set_cons_succ]
  refine wpAny_ready (rs := [4, 5]) (by kernel_rfl) (by simp) (AllReady.cons rfl (fun KK hK => ?_) (AllReady.cons rfl (fun KK hK => ?_) AllReady.nil))
  · go_simp
    refine hK _ _ ?_
    clear hK KK
    try simp only [Act.put, List.setIfInBounds_toArray, List.set_cons_zero, List.set_cons_succ]
    refine wpAny_ready (rs := [5]) (by kernel_rfl) (by simp) (AllReady.cons rfl (fun KK hK => ?_) AllReady.nil)
    go_simp
    refine hK _ _ ?_
    clear hK KK
    try simp only [Act.put, List.setIfInBounds_toArray, List.set_cons_zero, List.set_cons_succ]
    refine wpAny_ready (rs := [6]) (by kernel_rfl) (by simp) (AllReady.cons rfl (fun KK hK => ?_) AllReady.nil)
    refine step_bldE rfl 20 19 rfl rfl rfl ?_; intro W5 hW5; obtain ⟨k45, r2, y0, y1, y2, y3, y4⟩ := AL.out W4 W5 KW4 p2 hW5; clear hW5
    refine hK _ _ ?_
    clear hK KK
    try simp only [Act.put, List.setIfInBounds_toArray, List.set_cons_zero, List.set_cons_succ]
    refine wpAny_ready (rs := [7]) (by kernel_rfl) (by simp) (AllReady.cons rfl (fun KK hK => ?_) AllReady.nil)
    refine step_row rfl (.tmp 18) (.tmp 20) 36 rfl 0 57 _ 5 64 Tryz.underlying36 infoE rfl (by omega) _ n (ncells s.bd vs) rfl (ROW.out W5 k45) ⟨W4.heap.size, 0, none⟩ 1 1 [.int .i64 k, .int .i64 num, .int .i64 op, .string N, .slice ao al ac] rfl rfl ?_ (by intro u hu; simp at hu; rcases hu with rfl | rfl | rfl | rfl | rfl <;> rfl) (by unfold maxLen; omega) (by omega) (Nat.zero_le _) ?_
    · (intro j u hu; rw [Addr.add_lit, Nat.zero_add]; match j, hu with | 0, hu => (injection hu with hu; rw [← hu]; exact y0) | 1, hu => (injection hu with hu; rw [← hu]; exact y1) | 2, hu => (injection hu with hu; rw [← hu]; exact y2) | 3, hu => (injection hu with hu; rw [← hu]; exact y3) | 4, hu => (injection hu with hu; rw [← hu]; exact y4))
    intro v6 W6 r6 g6 a6
    obtain ⟨b6, c6, rfl⟩ := row_open r6
    obtain ⟨fp, cp⟩ := GR.out W5 W6 k45 g6
    have F6 := Lib.hid (FIN.out W5 W6 b6 c6 k45 r6 g6 a6)
    clear r6 g6 a6
    refine hK _ _ ?_
    clear hK KK
    try simp only [Act.put, List.setIfInBounds_toArray, List.set_cons_zero, List.set_cons_succ]
    refine wpAny_ready (rs := [8]) (by kernel_rfl) (by simp) (AllReady.cons rfl (fun KK hK => ?_) AllReady.nil)
    go_simp
    refine hK _ _ ?_
    clear hK KK
    try simp only [Act.put, List.setIfInBounds_toArray, List.set_cons_zero, List.set_cons_succ]
    refine wpAny_ready (rs := [9]) (by kernel_rfl) (by simp) (AllReady.cons rfl (fun KK hK => ?_) AllReady.nil)
    go_simp
    refine hK _ _ ?_
    clear hK KK
    try simp only [Act.put, List.setIfInBounds_toArray, List.set_cons_zero, List.set_cons_succ]
    refine wpAny_ready (rs := [10]) (by kernel_rfl) (by simp) (AllReady.cons rfl (fun KK hK => ?_) AllReady.nil)
    go_simp
    refine hK _ _ ?_
    clear hK KK
    try simp only [Act.put, List.setIfInBounds_toArray, List.set_cons_zero, List.set_cons_succ]
    refine wpAny_done (by kernel_rfl) ?_ _
    go_wp2_with fail
    go_ret
    exact F6.out
  · go_simp
    refine hK _ _ ?_
    clear hK KK
    try simp only [Act.put, List.setIfInBounds_toArray, List.set_cons_zero, List.set_cons_succ]
    refine wpAny_ready (rs := [4, 6]) (by kernel_rfl) (by simp) (AllReady.cons rfl (fun KK hK => ?_) (AllReady.cons rfl (fun KK hK => ?_) AllReady.nil))
    · go_simp
      refine hK _ _ ?_
      clear hK KK
      try simp only [Act.put, List.setIfInBounds_toArray, List.set_cons_zero, List.set_cons_succ]
      refine wpAny_ready (rs := [6]) (by kernel_rfl) (by simp) (AllReady.cons rfl (fun KK hK => ?_) AllReady.nil)
      refine step_bldE rfl 20 19 rfl rfl rfl ?_; intro W5 hW5; obtain ⟨k45, r2, y0, y1, y2, y3, y4⟩ := AL.out W4 W5 KW4 p2 hW5; clear hW5
      refine hK _ _ ?_
      clear hK KK
      try simp only [Act.put, List.setIfInBounds_toArray, List.set_cons_zero, List.set_cons_succ]
      refine wpAny_ready (rs := [7]) (by kernel_rfl) (by simp) (AllReady.cons rfl (fun KK hK => ?_) AllReady.nil)
      refine step_row rfl (.tmp 18) (.tmp 20) 36 rfl 0 57 _ 5 64 Tryz.underlying36 infoE rfl (by omega) _ n (ncells s.bd vs) rfl (ROW.out W5 k45) ⟨W4.heap.size, 0, none⟩ 1 1 [.int .i64 k, .int .i64 num, .int .i64 op, .string N, .slice ao al ac] rfl rfl ?_ (by intro u hu; simp at hu; rcases hu with rfl | rfl | rfl | rfl | rfl <;> rfl) (by unfold maxLen; omega) (by omega) (Nat.zero_le _) ?_
      · (intro j u hu; rw [Addr.add_lit, Nat.zero_add]; match j, hu with | 0, hu => (injection hu with hu; rw [← hu]; exact y0) | 1, hu => (injection hu with hu; rw [← hu]; exact y1) | 2, hu => (injection hu with hu; rw [← hu]; exact y2) | 3, hu => (injection hu with hu; rw [← hu]; exact y3) | 4, hu => (injection hu with hu; rw [← hu]; exact y4))
      intro v6 W6 r6 g6 a6
      obtain ⟨b6, c6, rfl⟩ := row_open r6
      obtain ⟨fp, cp⟩ := GR.out W5 W6 k45 g6
      have F6 := Lib.hid (FIN.out W5 W6 b6 c6 k45 r6 g6 a6)
      clear r6 g6 a6
      refine hK _ _ ?_
      clear hK KK
      try simp only [Act.put, List.setIfInBounds_toArray, List.set_cons_zero, List.set_cons_succ]
      refine wpAny_ready (rs := [8]) (by kernel_rfl) (by simp) (AllReady.cons rfl (fun KK hK => ?_) AllReady.nil)
      go_simp
      refine hK _ _ ?_
      clear hK KK
      try simp only [Act.put, List.setIfInBounds_toArray, List.set_cons_zero, List.set_cons_succ]
      refine wpAny_ready (rs := [9]) (by kernel_rfl) (by simp) (AllReady.cons rfl (fun KK hK => ?_) AllReady.nil)
      go_simp
      refine hK _ _ ?_
      clear hK KK
      try simp only [Act.put, List.setIfInBounds_toArray, List.set_cons_zero, List.set_cons_succ]
      refine wpAny_ready (rs := [10]) (by kernel_rfl) (by simp) (AllReady.cons rfl (fun KK hK => ?_) AllReady.nil)
      go_simp
      refine hK _ _ ?_
      clear hK KK
      try simp only [Act.put, List.setIfInBounds_toArray, List.set_cons_zero, List.set_cons_succ]
      refine wpAny_done (by kernel_rfl) ?_ _
      go_wp2_with fail
      go_ret
      exact F6.out
    · refine step_bldE rfl 20 19 rfl rfl rfl ?_; intro W5 hW5; obtain ⟨k45, r2, y0, y1, y2, y3, y4⟩ := AL.out W4 W5 KW4 p2 hW5; clear hW5
      refine hK _ _ ?_
      clear hK KK
      try simp only [Act.put, List.setIfInBounds_toArray, List.set_cons_zero, List.set_cons_succ]
      refine wpAny_ready (rs := [4]) (by kernel_rfl) (by simp) (AllReady.cons rfl (fun KK hK => ?_) AllReady.nil)
      go_simp
      refine hK _ _ ?_
      clear hK KK
      try simp only [Act.put, List.setIfInBounds_toArray, List.set_cons_zero, List.set_cons_succ]
      refine wpAny_ready (rs := [7]) (by kernel_rfl) (by simp) (AllReady.cons rfl (fun KK hK => ?_) AllReady.nil)
      refine step_row rfl (.tmp 18) (.tmp 20) 36 rfl 0 57 _ 5 64 Tryz.underlying36 infoE rfl (by omega) _ n (ncells s.bd vs) rfl (ROW.out W5 k45) ⟨W4.heap.size, 0, none⟩ 1 1 [.int .i64 k, .int .i64 num, .int .i64 op, .string N, .slice ao al ac] rfl rfl ?_ (by intro u hu; simp at hu; rcases hu with rfl | rfl | rfl | rfl | rfl <;> rfl) (by unfold maxLen; omega) (by omega) (Nat.zero_le _) ?_
      · (intro j u hu; rw [Addr.add_lit, Nat.zero_add]; match j, hu with | 0, hu => (injection hu with hu; rw [← hu]; exact y0) | 1, hu => (injection hu with hu; rw [← hu]; exact y1) | 2, hu => (injection hu with hu; rw [← hu]; exact y2) | 3, hu => (injection hu with hu; rw [← hu]; exact y3) | 4, hu => (injection hu with hu; rw [← hu]; exact y4))
      intro v6 W6 r6 g6 a6
      obtain ⟨b6, c6, rfl⟩ := row_open r6
      obtain ⟨fp, cp⟩ := GR.out W5 W6 k45 g6
      have F6 := Lib.hid (FIN.out W5 W6 b6 c6 k45 r6 g6 a6)
      clear r6 g6 a6
      refine hK _ _ ?_
      clear hK KK
      try simp only [Act.put, List.setIfInBounds_toArray, List.set_cons_zero, List.set_cons_succ]
      refine wpAny_ready (rs := [8]) (by kernel_rfl) (by simp) (AllReady.cons rfl (fun KK hK => ?_) AllReady.nil)
      go_simp
      refine hK _ _ ?_
      clear hK KK
      try simp only [Act.put, List.setIfInBounds_toArray, List.set_cons_zero, List.set_cons_succ]
      refine wpAny_ready (rs := [9]) (by kernel_rfl) (by simp) (AllReady.cons rfl (fun KK hK => ?_) AllReady.nil)
      go_simp
      refine hK _ _ ?_
      clear hK KK
      try simp only [Act.put, List.setIfInBounds_toArray, List.set_cons_zero, List.set_cons_succ]
      refine wpAny_ready (rs := [10]) (by kernel_rfl) (by simp) (AllReady.cons rfl (fun KK hK => ?_) AllReady.nil)
      go_simp
      refine hK _ _ ?_
      clear hK KK
      try simp only [Act.put, List.setIfInBounds_toArray, List.set_cons_zero, List.set_cons_succ]
      refine wpAny_done (by kernel_rfl) ?_ _
      go_wp2_with fail
      go_ret
      exact F6.out
end By
end Go.Proofs.YtmflgfojicaecaaGreatDoor
