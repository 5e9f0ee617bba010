/- A revision in which something may be wrong: what lies in memory while it is made. No condition. -/
import Derived.Test.YtmkijkaabcgcbaaGreatDoorMkR
import Derived.Test.YtmkijkaabcgcbaaGreatDoorMRl
import Derived.ArgAppend
namespace Go.Proofs.YtmkijkaabcgcbaaGreatDoor
namespace By
open Go.RowKit WireN LexN RevN
set_option linter.unusedVariables false
set_option linter.unusedSimpArgs false

theorem Rw.of_blk {w : World} {b cap : Nat} {cur : Array Value} {fs : List Fl} (h : Blk w b 55 cur) (hc : ∀ (j : Nat) (f : Fl), fs[j]? = some f → cur[j * 2]? = some (.string (st f.1)) ∧ cur[j * 2 + 1]? = some (.string (st f.2)))
    (hn : fs.length ≤ cap) (hm : cap ≤ maxLen) (hl : ∀ f ∈ fs, Lt f.1 ∧ Lt f.2) (hs : ∀ f ∈ fs, f.1.length ≤ maxLen ∧ f.2.length ≤ maxLen) : Rw w (.slice (some ⟨b, 0, none⟩) fs.length cap) fs := by
  refine ⟨⟨_, cap, rfl, hn, hm, .inr ⟨b, 0, rfl, fun j f hf => ?_⟩, fun h => nomatch h⟩, hl, hs⟩
  obtain ⟨c0, c1⟩ := hc j f hf
  exact ⟨h.cell _ (by rw [Nat.zero_add]; exact c0), h.cell _ (by rw [Nat.zero_add]; exact c1)⟩
theorem OwF.gr {w wr w1 : World} {v : Value} {fs : List Fl} {g : Nat} (h : OwF w wr v fs) (hg : Gr g wr w1) (h0 : w.heap.size ≤ g) (hne : ∀ b, v.ownBlock = some b → b ≠ g) : OwF w w1 v fs := by
  refine ⟨?_, h.lt, h.sm, Gr.kp hg h.kp h0⟩
  refine World.ownsRow.kept (row := some g) h.owns hg ?_
  rcases h.owns.2 with ⟨rfl, _⟩ | ⟨g', cap', cur, rfl, hb', _⟩
  · exact .inl rfl
  · right; intro e; exact hne g' rfl (by simpa [Value.ownBlock] using e)
/-- A file's path, or its bytes, is stored in a row of one's own. -/
theorem OwF.put {w W : World} {b m cap : Nat} {fs : List Fl} (h : OwF w W (.slice (some ⟨b, 0, none⟩) m cap) fs) (hm : m = fs.length) (h0 : 0 < m) (k : Nat) (f : Fl) (hf : fs[k]? = some f) (s : ByteArray) (hs : s.size ≤ maxLen) :
    Rw (W.setCell ⟨b, k * 2, none⟩ (.string s)) (.slice (some ⟨b, 0, none⟩) m cap) (fs.set k (bs s, f.2)) ∧ Rw (W.setCell ⟨b, k * 2 + 1, none⟩ (.string s)) (.slice (some ⟨b, 0, none⟩) m cap) (fs.set k (f.1, bs s)) := by
  subst hm
  obtain ⟨hmx, -⟩ : cap ≤ maxLen ∧ True := by
    obtain ⟨a, c, e, _, h3, _⟩ := h.rw.open3
    simp only [Value.slice.injEq] at e
    rw [e.2.2]
    exact ⟨h3, trivial⟩
  obtain ⟨b', cap', cur, e, hb, hnc, hbk, hcel⟩ := h.blk h0
  simp only [Value.slice.injEq, Option.some.injEq, Addr.mk.injEq] at e
  obtain ⟨⟨rfl, -, -⟩, -, rfl⟩ := e
  have hk : k < fs.length := (List.getElem?_eq_some_iff.1 hf).1
  have hfm := List.mem_of_getElem? hf
  obtain ⟨d0, d1⟩ := hcel k f hf
  have z0 : k * 2 < cur.size := (Array.getElem?_eq_some_iff.1 d0).1
  have z1 : k * 2 + 1 < cur.size := (Array.getElem?_eq_some_iff.1 d1).1
  have hlen : ∀ x : Fl, (fs.set k x).length = fs.length := fun x => by simp
  have hin : ∀ (x y : Fl), y ∈ fs.set k x → y ∈ fs ∨ y = x := fun x y hy => List.mem_or_eq_of_mem_set hy
  constructor
  · rw [← hlen (bs s, f.2)]
    refine Rw.of_blk (hbk.set (k * 2) (.string s)) ?_ (by rw [hlen]; exact hnc) hmx ?_ ?_
    · intro j y hy
      rw [List.getElem?_set] at hy
      by_cases hj : k = j
      · subst hj
        rw [if_pos rfl, if_pos hk] at hy
        obtain rfl := Option.some.inj hy
        refine ⟨?_, ?_⟩
        · rw [Array.getElem?_setIfInBounds, if_pos rfl, if_pos z0, st_bs]
        · rw [Array.getElem?_setIfInBounds, if_neg (by omega)]
          exact d1
      · rw [if_neg hj] at hy
        obtain ⟨q0, q1⟩ := hcel j y hy
        refine ⟨?_, ?_⟩
        · rw [Array.getElem?_setIfInBounds, if_neg (by omega)]
          exact q0
        · rw [Array.getElem?_setIfInBounds, if_neg (by omega)]
          exact q1
    · intro y hy
      rcases hin _ _ hy with hy | rfl
      · exact h.lt y hy
      · exact ⟨bs_lt s, (h.lt f hfm).2⟩
    · intro y hy
      rcases hin _ _ hy with hy | rfl
      · exact h.sm y hy
      · exact ⟨by rw [bs_len]; exact hs, (h.sm f hfm).2⟩
  · rw [← hlen (f.1, bs s)]
    refine Rw.of_blk (hbk.set (k * 2 + 1) (.string s)) ?_ (by rw [hlen]; exact hnc) hmx ?_ ?_
    · intro j y hy
      rw [List.getElem?_set] at hy
      by_cases hj : k = j
      · subst hj
        rw [if_pos rfl, if_pos hk] at hy
        obtain rfl := Option.some.inj hy
        refine ⟨?_, ?_⟩
        · rw [Array.getElem?_setIfInBounds, if_neg (by omega)]
          exact d0
        · rw [Array.getElem?_setIfInBounds, if_pos rfl, if_pos z1, st_bs]
      · rw [if_neg hj] at hy
        obtain ⟨q0, q1⟩ := hcel j y hy
        refine ⟨?_, ?_⟩
        · rw [Array.getElem?_setIfInBounds, if_neg (by omega)]
          exact q0
        · rw [Array.getElem?_setIfInBounds, if_neg (by omega)]
          exact q1
    · intro y hy
      rcases hin _ _ hy with hy | rfl
      · exact h.lt y hy
      · exact ⟨(h.lt f hfm).1, bs_lt s⟩
    · intro y hy
      rcases hin _ _ hy with hy | rfl
      · exact h.sm y hy
      · exact ⟨(h.sm f hfm).1, by rw [bs_len]; exact hs⟩
/-- A slice of files does not lie where a slice lies. -/
theorem Rw.beside {w : World} {v u : Value} {fs : List Fl} {rb : Nat} {t : TypeId} {a : Option Addr} {l c : Nat} (h : Rw w v fs) (hb : Blk w rb t #[.slice a l c]) : Rw (w.setCell ⟨rb, 0, none⟩ u) v fs := by
  by_cases h0 : fs = []
  · subst h0
    obtain ⟨⟨ao, cap, rfl, h2, h3, h4, h5⟩, hl, hs⟩ := h
    exact ⟨⟨ao, cap, rfl, h2, h3, .inl rfl, h5⟩, hl, hs⟩
  · refine h.only ((Only.refl rb w).set 0 u) (fun b hbb e => ?_)
    subst e
    obtain ⟨⟨ao, cap, rfl, h2, h3, h4, h5⟩, hl, hs⟩ := h
    rcases h4 with h4 | ⟨b', off, rfl, hc⟩
    · exact h0 h4
    · simp only [Value.ownBlock, Option.some.injEq] at hbb
      subst hbb
      obtain ⟨f, hf⟩ : ∃ f, fs[0]? = some f := ⟨fs[0]'(List.length_pos_iff.2 h0), by simp⟩
      obtain ⟨c0, -⟩ := hc 0 f hf
      rw [cell_of_row w b' (off + 0 * 2) _ t (0, 0) hb] at c0
      match off, c0 with
      | 0, c0 => simp at c0
      | n + 1, c0 => simp at c0
/-- A slice of files does not lie in a block without strings, so it bears that that one is changed. -/
theorem Rw.gr2 {w w' : World} {v : Value} {fs : List Fl} {g : Nat} {t : TypeId} {cs : Array Value} (h : Rw w v fs) (hb : Blk w g t cs) (hn : ∀ (i : Nat) (s : ByteArray), cs[i]? ≠ some (.string s)) (hg : Gr g w w') : Rw w' v fs := by
  by_cases h0 : fs = []
  · subst h0
    obtain ⟨⟨ao, cap, rfl, h2, h3, h4, h5⟩, hl, hs⟩ := h
    exact ⟨⟨ao, cap, rfl, h2, h3, .inl rfl, h5⟩, hl, hs⟩
  · refine h.gr hg (fun b hbb e => ?_)
    subst e
    obtain ⟨⟨ao, cap, rfl, h2, h3, h4, h5⟩, hl, hs⟩ := h
    rcases h4 with h4 | ⟨b', off, rfl, hc⟩
    · exact h0 h4
    · simp only [Value.ownBlock, Option.some.injEq] at hbb
      subst hbb
      obtain ⟨f, hf⟩ : ∃ f, fs[0]? = some f := ⟨fs[0]'(List.length_pos_iff.2 h0), by simp⟩
      obtain ⟨c0, -⟩ := hc 0 f hf
      rw [cell_of_row w b' (off + 0 * 2) _ t (0, 0) hb] at c0
      exact hn _ _ c0
theorem Rw.drawn {w0 w w' : World} {v : Value} {fs : List Fl} {g n : Nat} (h : Rw w v fs) (ht : Tq w0 w g n) (hg : Gr g w w') : Rw w' v fs := by
  obtain ⟨a, -, htp⟩ := ht
  obtain ⟨ao, len, cap, zs, -, hb⟩ := htp.ex
  refine h.gr2 hb (fun i s => ?_) hg
  match i with
  | 0 => simp
  | 1 => simp
  | n + 2 => simp
/-- What holds while a spoiled revision is made. -/
structure Spo (w0 w W : World) (g n rb xb bb m cap : Nat) (fs : List Fl) : Prop where
  rbk : Blk W rb 28 #[.slice none 0 0]
  xbk : Blk W xb 28 #[.slice (some ⟨bb, 0, none⟩) m cap]
  own : OwF w0 W (.slice (some ⟨bb, 0, none⟩) m cap) fs
  len : m = fs.length
  pos : 0 < m
  few : m ≤ 7
  tq : Tq w0 W g n
  gr : Gr g w W
  gl : g < w.heap.size
  gb : w0.heap.size ≤ w.heap.size
  n0 : w.heap.size ≤ rb
  n1 : rb < xb
  n2 : xb < bb
theorem Spo.draw {w0 w W W' : World} {g n k rb xb bb m cap : Nat} {fs : List Fl} (h : Spo w0 w W g n rb xb bb m cap fs) (hg : Gr g W W') (ht : Tq w0 W' g k) : Spo w0 w W' g k rb xb bb m cap fs := by
  have h0 := h.gl; have h1 := h.n0; have h2 := h.n1; have h3 := h.n2
  exact ⟨h.rbk.gr hg (by omega), h.xbk.gr hg (by omega), h.own.gr hg h.tq.ge (fun b hb => by simp only [Value.ownBlock, Option.some.injEq] at hb; omega), h.len, h.pos, h.few, ht, Gr.trans h.gr hg, h.gl, h.gb, h1, h2, h3⟩
theorem Spo.keep {w0 w W W' : World} {g n rb xb bb m cap : Nat} {fs : List Fl} (h : Spo w0 w W g n rb xb bb m cap fs) (hk : Kp W W') : Spo w0 w W' g n rb xb bb m cap fs := h.draw (hk.gr g) (h.tq.keep hk)
theorem Spo.less {w0 w W : World} {g n k rb xb bb m cap : Nat} {fs : List Fl} (h : Spo w0 w W g n rb xb bb m cap fs) (hk : k ≤ n) : Spo w0 w W g k rb xb bb m cap fs := h.draw (Gr.refl _ _) (h.tq.less hk)
theorem Spo.cells {w0 w W : World} {g n rb xb bb m cap : Nat} {fs : List Fl} (h : Spo w0 w W g n rb xb bb m cap fs) {k : Nat} {f : Fl} (hf : fs[k]? = some f) :
    W.cell? ⟨bb, k * 2, none⟩ = some (.string (st f.1)) ∧ W.cell? ⟨bb, k * 2 + 1, none⟩ = some (.string (st f.2)) ∧ W.frozen? ⟨bb, k * 2, none⟩ = false ∧ W.frozen? ⟨bb, k * 2 + 1, none⟩ = false := by
  obtain ⟨b', cap', cur, e, hb, hnc, hbk, hcel⟩ := h.own.blk (by have := h.len; have := h.pos; omega)
  simp only [Value.slice.injEq, Option.some.injEq, Addr.mk.injEq] at e
  obtain ⟨⟨rfl, -, -⟩, -, -⟩ := e
  obtain ⟨d0, d1⟩ := hcel k f hf
  exact ⟨hbk.cell _ d0, hbk.cell _ d1, hbk.free _, hbk.free _⟩
theorem Spo.sto {w0 w W : World} {g n rb xb bb m cap : Nat} {fs : List Fl} (h : Spo w0 w W g n rb xb bb m cap fs) (i : Nat) (v : Value) : (W.setCell ⟨bb, i, none⟩ v).cell? ⟨xb, 0, none⟩ = some (.slice (some ⟨bb, 0, none⟩) m cap) :=
  (h.xbk.other ((Only.refl bb W).set i v) (by have := h.n2; omega)).cell 0 rfl
theorem Spo.stored {w0 w W W' : World} {g n rb xb bb m cap : Nat} {fs : List Fl} (h : Spo w0 w W g n rb xb bb m cap fs) (o : Only bb W W') :
    Blk W' rb 28 #[.slice none 0 0] ∧ Blk W' xb 28 #[.slice (some ⟨bb, 0, none⟩) m cap] ∧ Tq w0 W' g n ∧ Gr g w W' := by
  have h0 := h.gl; have h1 := h.n0; have h2 := h.n1; have h3 := h.n2; have h4 := h.gb
  exact ⟨h.rbk.other o (by omega), h.xbk.other o (by omega), h.tq.only o (by omega) (by omega), Gr.by h.gr (Only.gr o) (fun r hr => by injection hr; omega)⟩
/-- Behind a growth of the row, and the store of its new place. -/
theorem Spo.turn {w0 w W X W' : World} {g n rb xb bb m cap : Nat} {fs : List Fl} (h : Spo w0 w W g n rb xb bb m cap fs) {row : Option Nat} (hg : W.grownBy X row) (hr : ∀ r, row = some r → r = bb) {v : Value} (hW : W' = X.setCell ⟨xb, 0, none⟩ v) :
    Blk X xb 28 #[.slice (some ⟨bb, 0, none⟩) m cap] ∧ Blk W' rb 28 #[.slice none 0 0] ∧ Blk W' xb 28 #[v] ∧ Tq w0 W' g n ∧ Gr g w W' := by
  have h0 := h.gl; have h1 := h.n0; have h2 := h.n1; have h3 := h.n2; have h4 := h.gb
  have bX := h.xbk.by hg (fun e => by have := hr _ e.symm; omega)
  have o : Only xb X W' := by rw [hW]; exact (Only.refl _ _).set 0 _
  refine ⟨bX, (h.rbk.by hg (fun e => by have := hr _ e.symm; omega)).other o (by omega), by rw [hW]; exact bX.set 0 _, ?_, ?_⟩
  · exact (h.tq.by hg (fun r e => by have := hr _ e; omega)).only o (by omega) (by omega)
  · exact Gr.by (Gr.by h.gr hg (fun r e => by have := hr _ e; omega)) (Only.gr o) (fun r e => by injection e; omega)
theorem Spo.heads {w0 w W : World} {g n rb xb bb m cap : Nat} {fs : List Fl} (h : Spo w0 w W g n rb xb bb m cap fs) {k : Nat} (hk : k ≤ m) : Rw W (.slice (some ⟨bb, 0, none⟩) k k) (fs.take k) := by
  obtain ⟨b', cap', cur, e, hb, hnc, hbk, hcel⟩ := h.own.blk (by have := h.len; have := h.pos; omega)
  simp only [Value.slice.injEq, Option.some.injEq, Addr.mk.injEq] at e
  obtain ⟨⟨rfl, -, -⟩, -, -⟩ := e
  have hl : (fs.take k).length = k := by rw [List.length_take]; have := h.len; omega
  have hh := Rw.of_blk (fs := fs.take k) (cap := k) hbk (fun j f hf => ?_) (by omega) (by have := h.few; unfold maxLen; omega) (fun f hf => h.own.lt f (List.mem_of_mem_take hf)) (fun f hf => h.own.sm f (List.mem_of_mem_take hf))
  · rw [hl] at hh
    exact hh
  · have hj : j < k := by have := (List.getElem?_eq_some_iff.1 hf).1; omega
    rw [List.getElem?_take, if_pos hj] at hf
    exact hcel j f hf
theorem Spo.tails {w0 w W : World} {g n rb xb bb m cap : Nat} {fs : List Fl} (h : Spo w0 w W g n rb xb bb m cap fs) {k : Nat} (hk : k < m) : ∃ a c, sliced (some ⟨bb, 0, none⟩) k m cap 2 = .slice (some a) (m - k) c ∧ Rw W (.slice (some a) (m - k) c) (fs.drop k) := by
  have hr := h.own.rw
  have hcap := hr.open3
  obtain ⟨ao, c, e, h1, h2, -⟩ := hcap
  simp only [Value.slice.injEq] at e
  obtain ⟨-, -, rfl⟩ := e
  have hc := hr.cut k m (by omega) (Nat.le_refl _)
  rw [h.len, List.take_length] at hc
  unfold sliced at hc ⊢
  rw [← h.len] at hc
  rw [if_neg (by have := h.len; omega)] at hc ⊢
  exact ⟨_, _, rfl, hc⟩
/-- One file in a slice of its own, as a step of a region. -/
theorem step_bldF {wx : World} {ops : Array Oper} {o : Oper} {a : Act} {K : Act → World → Prop} {Q : Exit → Act → World → Prop} {E : Prop} (hgd : o.guard = none) (k j : Tmp)
    (ho : o.op = .buildSlice 26 1 #[(0, .tmp j)]) (hdst : o.dst = some k) {S1 S2 : ByteArray} (hx : a.eval (.tmp j) = .agg #[.string S1, .string S2])
    (h : ∀ w', w' = wx.alloc (.cells #[.string S1, .string S2] 55) → K (a.put (some k) (.slice (some ⟨wx.heap.size, 0, none⟩) 1 1)) w') :
    if Region.wanted o (yielded ops a.tmps) = true then Oper.wp Tryz.prog o a wx K Q else E := by
  have hw : Region.wanted o (yielded ops a.tmps) = true := by simp [Region.wanted, hgd]
  rw [if_pos hw]
  have hP := h _ rfl
  unfold Oper.wp
  have hx' : a.tmps[j]?.getD undef = .agg #[.string S1, .string S2] := by simpa [Act.eval] using hx
  simp [execOp, ho, resolve, hdst, hx', go_sem, Result.andThen]
  exact hP
/-- append of a file to a row of one's own, as a step of a region. -/
theorem step_fl {w wx : World} {ops : Array Oper} {o : Oper} {a : Act} {K : Act → World → Prop} {Q : Exit → Act → World → Prop} {E : Prop} (hgd : o.guard = none) (s x : Operand)
    (ho : o.op = .call { callee := .builtin .append, args := #[s, x], argTypes := #[26, 26] })
    (v : Value) {fs : List Fl} (hs : a.eval s = v) (hown : OwF w wx v fs) (hsm : fs.length ≤ 1000000) (f : Fl) (hf : (Lt f.1 ∧ Lt f.2) ∧ (f.1.length ≤ maxLen ∧ f.2.length ≤ maxLen)) (g : Nat) (hx : a.eval x = .slice (some ⟨g, 0, none⟩) 1 1)
    (hc : Blk wx g 55 #[.string (st f.1), .string (st f.2)])
    (h : ∀ ad l c' w', OwF w w' (.slice (some ad) l c') (fs ++ [f]) → wx.grownBy w' v.ownBlock → K (a.put o.dst (.slice (some ad) l c')) w') :
    if Region.wanted o (yielded ops a.tmps) = true then Oper.wp Tryz.prog o a wx K Q else E := by
  have hw : Region.wanted o (yielded ops a.tmps) = true := by simp [Region.wanted, hgd]
  rw [if_pos hw]
  obtain ⟨i, hi, hz, hsize, hby⟩ := info_parts infoFile
  obtain ⟨v', w', hrun, h2, h3, h4, h5⟩ := run_append_own_at (P := Tryz.prog) wx w.heap.size 26 o.type 55 i _ 2 32 Tryz.underlying26 hi hz hsize hby rfl (by omega) v fs.length (fcel fs) hown.owns ⟨g, 0, none⟩ 1 1 [.string (st f.1), .string (st f.2)] rfl
    (fun j u hu => by
      rw [Addr.add_lit]
      refine hc.cell (0 + j) ?_
      rw [Nat.zero_add]
      simpa using hu) (fun u hu => by simp at hu; rcases hu with rfl | rfl <;> rfl) (by unfold maxLen; omega) (by omega) hown.kp.size
  have hown2 : OwF w w' v' (fs ++ [f]) := by
    refine ⟨?_, ?_, ?_, Below.grown hown.kp h3 hown.kp.size (fun k hk => ((row_form hown.owns).2 k hk).1)⟩
    · rw [List.length_append, fcel_snoc]; exact h2
    · intro y hy
      rcases List.mem_append.1 hy with hy | hy
      · exact hown.lt y hy
      · obtain rfl : y = f := by simpa using hy
        exact hf.1
    · intro y hy
      rcases List.mem_append.1 hy with hy | hy
      · exact hown.sm y hy
      · obtain rfl : y = f := by simpa using hy
        exact hf.2
  obtain ⟨ad, l, c', hv⟩ : ∃ ad l c', v' = .slice (some ad) l c' := by
    rcases h2.2 with ⟨_, h0⟩ | ⟨g', cap', cur, e, _⟩
    · omega
    · exact ⟨_, _, _, e⟩
  subst hv
  unfold Oper.wp
  simp [execOp, ho, resolve, invoke, builtin, hs, hx, hrun, Result.andThen]
  exact h ad l c' w' hown2 h3
/-- What is told of the answer. -/
def SpoR (w0 w : World) (g n : Nat) (e : Ending) (w' : World) : Prop := (∃ v fs, e = .returned (.agg #[v]) ∧ Rw w' v fs ∧ fs.length ≤ 20) ∧ Tq w0 w' g n ∧ Gr g w w'
set_option maxRecDepth 100000 in
/-- append of files to a slice that is full, in a region that draws. -/
theorem step_grF {wx : World} {ops : Array Oper} {o : Oper} {a : Act} {K : Act → World → Prop} {Q : Exit → Act → World → Prop} {E : Prop} (hgd : o.guard = none) (s x : Operand)
    (ho : o.op = .call { callee := .builtin .append, args := #[s, x], argTypes := #[26, 26] })
    {b a' : Addr} {n cap m c : Nat} {fs gs : List Fl} (hs : a.eval s = .slice (some b) n cap) (hx : a.eval x = .slice (some a') m c) (hr : Rw wx (.slice (some b) n cap) fs) (hr2 : Rw wx (.slice (some a') m c) gs) (hg : cap < n + m) (hsm : n + m ≤ 1000000)
    (h : ∀ ad l c' w', OwF wx w' (.slice (some ad) l c') (fs ++ gs) → l = n + m → K (a.put o.dst (.slice (some ad) l c')) w') :
    if Region.wanted o (yielded ops a.tmps) = true then Oper.wp Tryz.prog o a wx K Q else E := by
  have hw : Region.wanted o (yielded ops a.tmps) = true := by simp [Region.wanted, hgd]
  rw [if_pos hw]
  obtain ⟨i, hi, hz, hsize, hby⟩ := info_parts infoFile
  have cells : ∀ {ad : Addr} {l cp : Nat} {us : List Fl}, Rw wx (.slice (some ad) l cp) us → us.length = l ∧ ∀ j u, (fcel us)[j]? = some u → wx.cell? (ad.add j) = some u := by
    intro ad l cp us hu
    obtain ⟨⟨ao, c2, e, h2, h3, h4, h5⟩, hl, hs⟩ := hu
    simp only [Value.slice.injEq] at e
    obtain ⟨rfl, rfl, rfl⟩ := e
    refine ⟨rfl, fun j u hj => ?_⟩
    have hlen := fcel_len us
    have hjl : j < 2 * us.length := by rw [← hlen]; exact (List.getElem?_eq_some_iff.1 hj).1
    rcases h4 with rfl | ⟨b, off, e, hc⟩
    · simp at hjl
    · injection e with e
      subst e
      rw [Addr_add]
      obtain ⟨f, hf⟩ : ∃ f, us[j / 2]? = some f := ⟨_, List.getElem?_eq_getElem (by omega)⟩
      obtain ⟨c0, c1⟩ := hc (j / 2) f hf
      obtain ⟨e0, e1⟩ := fcel_at us (j / 2) f hf
      by_cases hp : j % 2 = 0
      · have hj2 : j / 2 * 2 = j := by omega
        rw [hj2] at c0 e0
        rw [e0] at hj
        rw [c0]
        exact hj
      · have hj2 : j / 2 * 2 + 1 = j := by omega
        rw [hj2] at e1
        rw [Nat.add_assoc, hj2] at c1
        rw [e1] at hj
        rw [c1]
        exact hj
  obtain ⟨l1, c1⟩ := cells hr
  obtain ⟨l2, c2⟩ := cells hr2
  obtain ⟨v', w', hrun, h2, h3⟩ := run_append_arg_grows (P := Tryz.prog) wx 26 o.type 55 i _ 2 32 Tryz.underlying26 hi hz hsize hby rfl (by omega) b n cap (fcel fs) (by rw [fcel_len]; omega) c1 a' m c (fcel gs) (by rw [fcel_len]; omega) c2 hg (by unfold maxLen; omega) (by omega)
  have hown : OwF wx w' v' (fs ++ gs) := by
    refine ⟨?_, ?_, ?_, ⟨h3.os, h3.tape, h3.output, h3.size, fun k hk => h3.block k hk (by simp)⟩⟩
    · rw [List.length_append, l1, l2, fcel_app]; exact h2
    · intro y hy
      rcases List.mem_append.1 hy with hy | hy
      · exact hr.lt y hy
      · exact hr2.lt y hy
    · intro y hy
      rcases List.mem_append.1 hy with hy | hy
      · exact hr.sm y hy
      · exact hr2.sm y hy
  obtain ⟨ad, l, c', hv, hl⟩ : ∃ ad l c', v' = .slice (some ad) l c' ∧ l = n + m := by
    rcases h2.2 with ⟨_, h0⟩ | ⟨g', cap', cur, e, _⟩
    · omega
    · exact ⟨_, _, _, e, rfl⟩
  subst hv
  unfold Oper.wp
  simp [execOp, ho, resolve, invoke, builtin, hs, hx, hrun, Result.andThen]
  exact h ad l c' w' hown hl
end By
end Go.Proofs.YtmkijkaabcgcbaaGreatDoor
