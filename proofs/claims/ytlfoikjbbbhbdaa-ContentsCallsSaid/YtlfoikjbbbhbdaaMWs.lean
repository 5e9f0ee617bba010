/- A region within a round: what holds outside of a round holds in one; an append of elements of several cells as one step. No condition. -/
import Derived.Test.YtlfoikjbbbhbdaaWRange
import Derived.Test.YtlfoikjbbbhbdaaWTape
import Derived.Maps.OwnIn
import Derived.Test.YtlfoikjbbbhbdaaWDm
namespace Go.Proofs.Ytlfoikjbbbhbdaa
namespace By
open Go.RowKit Go.Shelf WireN
set_option linter.unusedVariables false
set_option linter.unusedSimpArgs false

/-- An operation of a region is carried out in a round as elsewhere. -/
theorem wpOpIn_inRound {F : Fence} {n : Nat} {P : Program} {ops : Array Oper} {Q : Exit → Act → World → Prop} {l i : Nat} {K : Act → World → Prop} {a : Act} {w : World}
    (hd : ∀ o ∈ ops, ∀ c, o.op ≠ .defer c) (h : wpOpIn F n P ops Q i K a w) : wpOpIn (F.inRound l) n P ops Q i K a w := by
  unfold wpOpIn at *
  cases ho : ops[i]? with
  | none => simpa [ho] using h
  | some o =>
    simp only [ho] at h ⊢
    have hm : o ∈ ops := Array.mem_of_getElem? ho
    split
    · rename_i hw
      simp only [hw, if_true] at h
      refine ⟨h.1, ?_⟩
      have h2 := h.2
      rw [Oper.semAt_plain F _ _ (hd o hm)] at h2
      rw [Oper.semAt_plain (F.inRound l) _ _ (hd o hm)]
      generalize (execOp a.eval o).run P w = r at h2 ⊢
      cases r with
      | ok x w' => cases x <;> exact h2
      | halt x w' => cases x <;> exact h2
    · rename_i hw
      simp only [hw] at h
      exact h
/-- So does a region that draws its order. -/
theorem wpAnyIn_inRound {F : Fence} {n : Nat} {P : Program} {md : Region.Mode} {ops : Array Oper} {Q : Exit → Act → World → Prop} {l : Nat} (hd : ∀ o ∈ ops, ∀ c, o.op ≠ .defer c) :
    ∀ (fuel : Nat) (listed : Array Bool) (a : Act) (w : World), wpAnyIn F n P md ops Q fuel listed a w → wpAnyIn (F.inRound l) n P md ops Q fuel listed a w
  | 0, _, _, _, h => h
  | fuel + 1, listed, a, w, h => ⟨h.1, fun i hi => wpOpIn_inRound hd (wpOpIn_mono (fun a' w' h' => wpAnyIn_inRound hd fuel _ a' w' h') (h.2 i hi))⟩
/-- append of elements to a row of the call's own, as a step of a region. -/
theorem stepIn_row {F : Fence} {nF : Nat} {P : Program} {w : World} {ops : Array Oper} {o : Oper} {a : Act} {K : Act → World → Prop} {Q : Exit → Act → World → Prop} {E : Prop} (hgd : o.guard = none) (s x : Operand) (t : TypeId)
    (ho : o.op = .call { callee := .builtin .append, args := #[s, x], argTypes := #[t, t] })
    (base : Nat) (e : TypeId) (z : Value) (size bytes : Nat) (ht : P.underlying t = some (.slice e)) (hinfo : (P.info? e).map (fun i => (i.zero, i.size, i.bytes)) = some (some z, size, bytes))
    (hzs : z.cells.size = size) (hsz : 0 < size)
    (v : Value) (n : Nat) (xs : List Value) (hs : a.eval s = v) (hown : w.ownsRow base e size v n xs)
    (ad : Addr) (m c : Nat) (news : List Value) (hx : a.eval x = .slice (some ad) m c) (hl : news.length = m * size) (hnews : ∀ j u, news[j]? = some u → w.cell? (ad.add j) = some u) (h1 : ∀ u ∈ news, u.oneCell' = true)
    (h63 : n + m ≤ maxLen) (hbytes : (n + m) * bytes ≤ 140737488355328) (hbase : base ≤ w.heap.size)
    (h : ∀ v' w', w'.ownsRow base e size v' (n + m) (xs ++ news) → w.grownBy w' v.ownBlock → (v'.ownBlock = v.ownBlock ∨ v'.ownBlock = some w.heap.size) → K (a.put o.dst v') w') :
    if Region.wanted o (yielded ops a.tmps) = true then Oper.wpIn F nF P o a w K Q else E := by
  have hw : Region.wanted o (yielded ops a.tmps) = true := by simp [Region.wanted, hgd]
  rw [if_pos hw]
  obtain ⟨i, hi, hz, hsize, hby⟩ := info_parts hinfo
  obtain ⟨v', w', hr, h2, h3, h4, h5⟩ := run_append_own_at (P := P) w base t o.type e i z size bytes ht hi hz hsize hby hzs hsz v n xs hown ad m c news hl hnews h1 h63 hbytes hbase
  unfold Oper.wpIn
  refine ⟨by simp [Oper.about, ho, resolve, Target.leads, Sem.run_pure], ?_⟩
  rw [Oper.semAt_plain F _ _ (by rw [ho]; intro c hc'; cases hc')]
  simp [execOp, ho, resolve, invoke, builtin, hs, hx, hr, Result.andThen]
  exact h v' w' h2 h3 h5
end By
end Go.Proofs.Ytlfoikjbbbhbdaa

/- How the program's Frames holds its memory: the frames so far, the place, the error, the loop's record. -/
namespace Go.Proofs.Ytlfoikjbbbhbdaa
namespace By
open Go.RowKit Go.Shelf WireN
set_option linter.unusedVariables false
set_option linter.unusedSimpArgs false
attribute [local go_sem] Oper.semAt_some

/-- The cells of a row of frames. -/
def fcells : List (Nat × List Nat) → List Value → List Value
  | x :: fs, v :: vs => .int .i64 (x.1 : Nat) :: v :: fcells fs vs
  | _, _ => []
theorem fcells_len : ∀ (fs : List (Nat × List Nat)) (vs : List Value), vs.length = fs.length → (fcells fs vs).length = 2 * fs.length
  | [], [], _ => rfl
  | x :: fs, v :: vs, h => by
    have := fcells_len fs vs (by simpa using h)
    simp only [fcells, List.length_cons, this]; omega
  | [], _ :: _, h => by simp at h
  | _ :: _, [], h => by simp at h
theorem fcells_snoc : ∀ (fs : List (Nat × List Nat)) (vs : List Value) (x : Nat × List Nat) (v : Value), vs.length = fs.length → fcells (fs ++ [x]) (vs ++ [v]) = fcells fs vs ++ [.int .i64 (x.1 : Nat), v]
  | [], [], x, v, _ => rfl
  | y :: fs, u :: vs, x, v, h => by
    have := fcells_snoc fs vs x v (by simpa using h)
    simp only [List.cons_append, fcells, this]
  | [], _ :: _, _, _, h => by simp at h
  | _ :: _, [], _, _, h => by simp at h
/-- The frames so far, in a row of the call's own. -/
structure FR (w W : World) (xs : List Nat) (q : Nat) (vo : Value) (fs : List (Nat × List Nat)) (vps : List Value) : Prop where
  ch : Chain xs 0 fs q
  le : q ≤ xs.length
  ln : vps.length = fs.length
  few : fs.length ≤ q
  sl : ∀ (j : Nat) (x : Nat × List Nat) (v : Value), fs[j]? = some x → vps[j]? = some v → Sl W v x.2 ∧ ∀ g, vo.ownBlock = some g → Off g v x.2
  own : W.ownsRow (w.heap.size + 6) 80 2 vo fs.length (fcells fs vps)
/-- How Frames' memory stands between two rounds. -/
structure FI (w W : World) (v0 : Value) (lo : Obj) (xs : List Nat) (q : Nat) (vo : Value) (E : Nat) : Prop where
  kp : Kp w W
  co : Blk W w.heap.size 81 #[vo]
  ca : Blk W (w.heap.size + 1) 3 #[.int .i64 (q : Nat)]
  ce : Blk W (w.heap.size + 2) 32 #[.int .i64 (E : Nat)]
  bx : Blk W (w.heap.size + 3) 48 #[v0]
  df : W.heap[w.heap.size + 4]? = some (.deferred (some []))
  lp : W.heap[w.heap.size + 5]? = some lo
  row : ∃ (fs : List (Nat × List Nat)) (vps : List Value), FR w W xs q vo fs vps
theorem heap_keep {w W : World} {k : Nat} {o : Obj} (h : w.heap[k]? = some o) (hk : Kp w W) : W.heap[k]? = some o := by
  have hlt : k < w.heap.size := by
    rcases Nat.lt_or_ge k w.heap.size with h1 | h1
    · exact h1
    · rw [Array.getElem?_eq_none h1] at h; cases h
  rw [hk.block k hlt]; exact h
theorem nx_more {l : List Nat} {q : Nat} (h : (nx l (q : Nat)).2.2.2 = 0) : q < (nx l (q : Nat)).2.2.1 ∧ (nx l (q : Nat)).2.2.1 ≤ l.length := by
  obtain ⟨h1, h2, h3, n, p, hr, hn, hp, hs, hx⟩ := nx_inv h
  rw [hx]
  have := (rd_inv hr).2.2.2.2
  simp only
  omega

theorem row_form {W : World} {base : Nat} {e : TypeId} {size : Nat} {v : Value} {n : Nat} {cs : List Value} (h : W.ownsRow base e size v n cs) : (∃ ao l c, v = .slice ao l c) ∧ ∀ g, v.ownBlock = some g → base ≤ g ∧ g < W.heap.size := by
  refine ⟨?_, fun g hg => h.lt g hg⟩
  rcases h.2 with ⟨rfl, _⟩ | ⟨g', cap', cur, rfl, _⟩
  · exact ⟨_, _, _, rfl⟩
  · exact ⟨_, _, _, rfl⟩
theorem Sl.grown {W W' : World} {v : Value} {xs : List Nat} {r : Option Nat} (h : Sl W v xs) (hg : W.grownBy W' r) (ho : ∀ g, r = some g → Off g v xs) : Sl W' v xs := by
  obtain ⟨⟨ao, cap, h1, h2, h3, h4, h5⟩, hl, hs⟩ := h
  refine ⟨⟨ao, cap, h1, h2, h3, ?_, h5⟩, hl, hs⟩
  rcases h4 with h4 | ⟨b, off, rfl, hc⟩
  · exact .inl h4
  · by_cases hx : xs = []
    · exact .inl hx
    · refine .inr ⟨b, off, rfl, fun i hi => ?_⟩
      have hci := hc i hi
      exact (World.cell?_of_block (hg.block b (World.block_lt_of_cell? W _ hci) (fun e => ho b e.symm hx _ _ _ h1 rfl))).trans hci
theorem Sl.off_new {W : World} {v : Value} {xs : List Nat} (h : Sl W v xs) : Off W.heap.size v xs := by
  intro hx a l c hv e
  obtain ⟨⟨ao, cap, h1, h2, h3, h4, h5⟩, hl, hs⟩ := h
  obtain ⟨b, off, h6, hc⟩ := h4.cells (List.length_pos_iff.2 hx)
  rw [h1, h6] at hv
  injection hv with e1 e2 e3
  injection e1 with e1
  subst e1
  have := World.block_lt_of_cell? W _ (hc 0 (List.length_pos_iff.2 hx))
  simp only at e this
  omega
theorem Sl.off_blk {W : World} {v u : Value} {xs : List Nat} {b : Nat} {t : TypeId} (h : Sl W v xs) (hb : Blk W b t #[u]) (hu : ∀ z : Nat, u ≠ .int .u8 (z : Nat)) : Off b v xs := by
  intro hx a l c hv e
  obtain ⟨⟨ao, cap, h1, h2, h3, h4, h5⟩, hl, hs⟩ := h
  obtain ⟨b', off, h6, hc⟩ := h4.cells (List.length_pos_iff.2 hx)
  rw [h1, h6] at hv
  injection hv with e1 e2 e3
  injection e1 with e1
  subst e1
  simp only at e
  subst e
  have h7 := hc 0 (List.length_pos_iff.2 hx)
  have h8 := cell_of_row W b' (off + 0) #[u] t (0, 0) hb
  rw [h7] at h8
  have h9 : (#[u] : Array Value)[off + 0]? = some u ∨ (#[u] : Array Value)[off + 0]? = none := by
    rcases Nat.eq_zero_or_pos off with rfl | hp
    · exact .inl rfl
    · exact .inr (by simp; omega)
  rcases h9 with h9 | h9
  · rw [h9] at h8; injection h8 with h8; exact hu _ h8.symm
  · rw [h9] at h8; cases h8
theorem Sl.loop {W W' : World} {v : Value} {xs : List Nat} {l : Nat} {r : Loop} (h : Sl W v xs) (hl : W.heap[l]? = some (.loop r)) (hg : W.grownBy W' (some l)) : Sl W' v xs := by
  obtain ⟨⟨ao, cap, h1, h2, h3, h4, h5⟩, hl', hs⟩ := h
  refine ⟨⟨ao, cap, h1, h2, h3, ?_, h5⟩, hl', hs⟩
  rcases h4 with h4 | ⟨b, off, rfl, hc⟩
  · exact .inl h4
  · refine .inr ⟨b, off, rfl, fun i hi => ?_⟩
    have hci := hc i hi
    have hne : b ≠ l := by
      rintro rfl
      unfold World.cell? at hci
      simp only at hci
      rw [hl] at hci
      simp at hci
    have hlt := World.block_lt_of_cell? W _ hci
    exact (World.cell?_of_block (hg.block b hlt (fun e => hne (by injection e)))).trans hci
theorem FR.keep {w W W' : World} {xs : List Nat} {q : Nat} {vo : Value} {fs : List (Nat × List Nat)} {vps : List Value} (h : FR w W xs q vo fs vps) (hk : Kp W W') : FR w W' xs q vo fs vps := by
  refine ⟨h.ch, h.le, h.ln, h.few, fun j x v hx hv => ⟨(h.sl j x v hx hv).1.keep hk, (h.sl j x v hx hv).2⟩, ?_⟩
  refine World.ownsRow.kept (row := none) h.own ⟨hk.os, hk.tape, hk.output, hk.size, fun i hi _ => hk.block i hi⟩ ?_
  rcases h.own.2 with ⟨rfl, _⟩ | ⟨g', cap', cur, rfl, hb', _⟩
  · exact .inl rfl
  · right; intro e; simp [Value.ownBlock] at e
/-- What changes in one block below the row leaves the frames as they are. -/
theorem FR.by {w W W' : World} {xs : List Nat} {q : Nat} {vo : Value} {fs : List (Nat × List Nat)} {vps : List Value} {b : Nat} (h : FR w W xs q vo fs vps) (hg : W.grownBy W' (some b)) (hb : b < w.heap.size + 6)
    (ho : ∀ (v : Value) (ys : List Nat), Sl W v ys → Off b v ys) : FR w W' xs q vo fs vps := by
  refine ⟨h.ch, h.le, h.ln, h.few, fun j x v hx hv => ⟨(h.sl j x v hx hv).1.grown hg (fun g e => by injection e with e; subst e; exact ho _ _ (h.sl j x v hx hv).1), (h.sl j x v hx hv).2⟩, ?_⟩
  refine World.ownsRow.kept h.own hg ?_
  rcases h.own.2 with ⟨rfl, _⟩ | ⟨g', cap', cur, rfl, hb', _⟩
  · exact .inl rfl
  · right; intro e; simp [Value.ownBlock] at e; omega
theorem FR.add {w W w' : World} {xs : List Nat} {q : Nat} {vo v' V : Value} {fs : List (Nat × List Nat)} {vps : List Value} {K NX : Nat} {PL : List Nat} (h : FR w W xs q vo fs vps) (hql : q < xs.length)
    (hnx : nx xs (q : Nat) = (K, PL, NX, 0)) (hs : Sl W V PL) (hoff : ∀ g, vo.ownBlock = some g → Off g V PL) (hg : W.grownBy w' vo.ownBlock)
    (hr : w'.ownsRow (w.heap.size + 6) 80 2 v' (fs.length + 1) (fcells fs vps ++ [.int .i64 (K : Nat), V]))
    (hb : v'.ownBlock = vo.ownBlock ∨ v'.ownBlock = some W.heap.size) : FR w w' xs NX v' (fs ++ [(K, PL)]) (vps ++ [V]) := by
  have hm := nx_more (l := xs) (q := q) (by rw [hnx])
  have hch := h.ch.snoc hql (by rw [hnx])
  rw [hnx] at hm hch
  simp only at hm hch
  have hsl : ∀ (v : Value) (ys : List Nat), Sl W v ys → (∀ g, vo.ownBlock = some g → Off g v ys) → Sl w' v ys ∧ ∀ g, v'.ownBlock = some g → Off g v ys := by
    intro v ys h1 h2
    refine ⟨h1.grown hg h2, fun g e => ?_⟩
    rcases hb with hb | hb
    · exact h2 g (hb ▸ e)
    · rw [hb] at e; injection e with e; subst e; exact h1.off_new
  refine ⟨hch, hm.2, by simp [h.ln], by have := h.few; simp; omega, fun j x v hx hv => ?_, ?_⟩
  · rcases Nat.lt_trichotomy j fs.length with hj | hj | hj
    · rw [List.getElem?_append_left hj] at hx
      rw [List.getElem?_append_left (by rw [h.ln]; exact hj)] at hv
      exact hsl _ _ (h.sl j x v hx hv).1 (h.sl j x v hx hv).2
    · subst hj
      rw [List.getElem?_append_right (Nat.le_refl _)] at hx
      rw [List.getElem?_append_right (by rw [h.ln]; exact Nat.le_refl _), h.ln] at hv
      simp at hx hv
      subst hx hv
      exact hsl _ _ hs hoff
    · rw [List.getElem?_eq_none (by simp; omega)] at hx; cases hx
  · rw [fcells_snoc _ _ _ _ h.ln, List.length_append]
    exact hr
theorem FI.keep {w W W' : World} {v0 : Value} {lo : Obj} {xs : List Nat} {q : Nat} {vo : Value} {E : Nat} (h : FI w W v0 lo xs q vo E) (hk : Kp W W') : FI w W' v0 lo xs q vo E := by
  obtain ⟨fs, vps, h1⟩ := h.row
  exact ⟨Kp.trans h.kp hk, h.co.keep hk, h.ca.keep hk, h.ce.keep hk, h.bx.keep hk, heap_keep h.df hk, heap_keep h.lp hk, fs, vps, h1.keep hk⟩
theorem FI.put {w W : World} {v0 : Value} {r : Loop} {lo' : Obj} {xs : List Nat} {q : Nat} {vo : Value} {E : Nat} (h : FI w W v0 (.loop r) xs q vo E) : FI w (W.putObj (w.heap.size + 5) lo') v0 lo' xs q vo E := by
  obtain ⟨fs, vps, h1⟩ := h.row
  have hg := grownBy_putObj' W (w.heap.size + 5) lo'
  have hlt : w.heap.size + 5 < W.heap.size := (Array.getElem?_eq_some_iff.1 h.lp).1
  refine ⟨Below.grown h.kp hg h.kp.size (fun k hk => by injection hk; omega), h.co.by hg (by simp), h.ca.by hg (by simp), h.ce.by hg (by simp), h.bx.by hg (by simp), ?_, World.putObj_heap_same hlt, fs, vps, h1.by hg (by omega) ?_⟩
  · exact (World.putObj_heap_other (by omega)).trans h.df
  · intro v ys hs hx a l c hv e
    obtain ⟨⟨ao, cap, h1, h2, h3, h4, h5⟩, hl, hs⟩ := hs
    obtain ⟨b, off, h6, hc⟩ := h4.cells (List.length_pos_iff.2 hx)
    rw [h1, h6] at hv
    injection hv with e1 e2 e3
    injection e1 with e1
    subst e1
    simp only at e
    subst e
    have hci := hc 0 (List.length_pos_iff.2 hx)
    unfold World.cell? at hci
    simp only at hci
    rw [h.lp] at hci
    simp at hci
/-- The three stores behind the frames. -/
theorem FI.out {w W : World} {v0 vo v' : Value} {lo : Obj} {xs : List Nat} {q q' : Nat} {E : Nat} {W' : World} {ro : Option Nat} (h : FI w W v0 lo xs q vo E) (hg : W.grownBy W' ro) (hro : ∀ k, ro = some k → w.heap.size + 6 ≤ k)
    (hvo : ∃ ao l c, vo = .slice ao l c) (hvn : ∃ ao l c, v' = .slice ao l c) (hr : ∃ fs vps, FR w W' xs q' v' fs vps) :
    FI w ((W'.setCell ⟨w.heap.size, 0, none⟩ v').setCell ⟨w.heap.size + 1, 0, none⟩ (.int .i64 (q' : Nat))) v0 lo xs q' v' E := by
  obtain ⟨fs, vps, h1⟩ := hr
  have b0 := h.co.by hg (fun e => by have := hro _ e.symm; omega)
  have b1 := h.ca.by hg (fun e => by have := hro _ e.symm; omega)
  have b2 := h.ce.by hg (fun e => by have := hro _ e.symm; omega)
  have b3 := h.bx.by hg (fun e => by have := hro _ e.symm; omega)
  have k1 : Kp w W' := Below.grown h.kp hg h.kp.size (fun k hk => by have := hro k hk; omega)
  have g0 := grownBy_setCell' W' w.heap.size v'
  have c0 : Blk (W'.setCell ⟨w.heap.size, 0, none⟩ v') w.heap.size 81 #[v'] := b0.set 0 v'
  have k2 : Kp w (W'.setCell ⟨w.heap.size, 0, none⟩ v') := Below.grown k1 g0 k1.size (fun k hk => by injection hk; omega)
  have d1 := b1.by g0 (by simp)
  have g1 := grownBy_setCell' (W'.setCell ⟨w.heap.size, 0, none⟩ v') (w.heap.size + 1) (.int .i64 (q' : Nat))
  have hz1 : w.heap.size + 4 < W.heap.size := (Array.getElem?_eq_some_iff.1 h.df).1
  have hz2 : w.heap.size + 5 < W.heap.size := (Array.getElem?_eq_some_iff.1 h.lp).1
  obtain ⟨a1, l1, c1, rfl⟩ := hvo
  obtain ⟨a2, l2, c2, rfl⟩ := hvn
  refine ⟨Below.grown k2 g1 k2.size (fun k hk => by injection hk; omega), c0.by g1 (by simp), d1.set 0 _, (b2.by g0 (by simp)).by g1 (by simp), (b3.by g0 (by simp)).by g1 (by simp), ?_, ?_, fs, vps, ?_⟩
  · rw [g1.block _ (Nat.lt_of_lt_of_le hz1 (Nat.le_trans hg.size g0.size)) (by simp), g0.block _ (Nat.lt_of_lt_of_le hz1 hg.size) (by simp), hg.block _ hz1 (fun e => by have := hro _ e.symm; omega)]
    exact h.df
  · rw [g1.block _ (Nat.lt_of_lt_of_le hz2 (Nat.le_trans hg.size g0.size)) (by simp), g0.block _ (Nat.lt_of_lt_of_le hz2 hg.size) (by simp), hg.block _ hz2 (fun e => by have := hro _ e.symm; omega)]
    exact h.lp
  · refine (h1.by g0 (by omega) (fun v ys hs => hs.off_blk b0 (fun z e => by cases e))).by g1 (by omega) (fun v ys hs => hs.off_blk d1 (fun z e => by cases e))
theorem heap_at {w : World} (o : Obj) {W : World} (hk : Kp (w.alloc o) W) {n : Nat} (hn : w.heap.size = n) : W.heap[n]? = some o := by
  subst hn
  exact heap_keep (World.alloc_heap_new w o) hk
/-- What Frames leaves: the frames, where they end, the error. -/
structure FrmR (xs : List Nat) (w : World) (e : Ending) (w' : World) : Prop where
  ex : ∃ (fs : List (Nat × List Nat)) (vps : List Value) (q E : Nat) (vo : Value), Stops xs q E ∧ e = .returned (.tuple #[vo, .int .i64 (q : Nat), .int .i64 (E : Nat)]) ∧ FR w w' xs q vo fs vps
  kp : Kp w w'
theorem FI.shut {w W : World} {v0 vo : Value} {lo : Obj} {xs : List Nat} {q E : Nat} (h : FI w W v0 lo xs q vo E) :
    Kp w (W.putObj (w.heap.size + 4) (.deferred none)) ∧ Blk (W.putObj (w.heap.size + 4) (.deferred none)) w.heap.size 81 #[vo] ∧ Blk (W.putObj (w.heap.size + 4) (.deferred none)) (w.heap.size + 1) 3 #[.int .i64 (q : Nat)] ∧
    Blk (W.putObj (w.heap.size + 4) (.deferred none)) (w.heap.size + 2) 32 #[.int .i64 (E : Nat)] ∧ ∃ fs vps, FR w (W.putObj (w.heap.size + 4) (.deferred none)) xs q vo fs vps := by
  obtain ⟨fs, vps, h1⟩ := h.row
  have hg := grownBy_putObj' W (w.heap.size + 4) (.deferred none)
  refine ⟨Below.grown h.kp hg h.kp.size (fun k hk => by injection hk; omega), h.co.by hg (by simp), h.ca.by hg (by simp), h.ce.by hg (by simp), fs, vps, h1.by hg (by omega) ?_⟩
  intro v ys hs hx a l c hv e
  obtain ⟨⟨ao, cap, h1, h2, h3, h4, h5⟩, hl, hs⟩ := hs
  obtain ⟨b, off, h6, hc⟩ := h4.cells (List.length_pos_iff.2 hx)
  rw [h1, h6] at hv
  injection hv with e1 e2 e3
  injection e1 with e1
  subst e1
  simp only at e
  subst e
  have hci := hc 0 (List.length_pos_iff.2 hx)
  unfold World.cell? at hci
  simp only at hci
  rw [h.df] at hci
  simp at hci
/-- The stores of an error. -/
theorem FI.err {w W : World} {v0 vo : Value} {lo : Obj} {xs : List Nat} {q : Nat} (h : FI w W v0 lo xs q vo 0) (hvo : ∃ ao l c, vo = .slice ao l c) (E : Nat) :
    FI w (((W.setCell ⟨w.heap.size, 0, none⟩ vo).setCell ⟨w.heap.size + 1, 0, none⟩ (.int .i64 (q : Nat))).setCell ⟨w.heap.size + 1 + 1, 0, none⟩ (.int .i64 (E : Nat))) v0 lo xs q vo E := by
  have h1 := h.out (W' := W) (ro := none) ⟨rfl, rfl, rfl, Nat.le_refl _, fun _ _ _ => rfl⟩ (fun k e => by cases e) hvo hvo h.row
  have g2 := grownBy_setCell' ((W.setCell ⟨w.heap.size, 0, none⟩ vo).setCell ⟨w.heap.size + 1, 0, none⟩ (.int .i64 (q : Nat))) (w.heap.size + 1 + 1) (.int .i64 (E : Nat))
  obtain ⟨fs, vps, hr⟩ := h1.row
  have hz1 := (Array.getElem?_eq_some_iff.1 h1.df).1
  have hz2 := (Array.getElem?_eq_some_iff.1 h1.lp).1
  refine ⟨Below.grown h1.kp g2 h1.kp.size (fun k hk => by injection hk; omega), h1.co.by g2 (by simp <;> omega), h1.ca.by g2 (by simp <;> omega), h1.ce.set 0 _, h1.bx.by g2 (by simp <;> omega), (g2.block _ hz1 (by simp <;> omega)).trans h1.df, (g2.block _ hz2 (by simp <;> omega)).trans h1.lp, fs, vps,
    hr.by g2 (by omega) (fun v ys hs => hs.off_blk h1.ce (fun z e => by cases e))⟩
end By
end Go.Proofs.Ytlfoikjbbbhbdaa
