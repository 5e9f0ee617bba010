/- Texts in memory: slices that read as texts, and rows of texts of one's own. No condition. -/
import Derived.Test.YtlfoikjbbbhbdaaCtN
import Derived.Test.YtlfoikjbbbhbdaaTape
import Derived.Test.YtlfoikjbbbhbdaaStr
namespace Go.Proofs.Ytlfoikjbbbhbdaa
namespace By
open Go.RowKit WireN CtN
set_option linter.unusedVariables false
set_option linter.unusedSimpArgs false

theorem row_frc {W : World} {base : Nat} {e : TypeId} {size : Nat} {v : Value} {n : Nat} {cs : List Value} (h : W.ownsRow base e size v n cs) : (∃ ao l c, v = .slice ao l c) ∧ ∀ g, v.ownBlock = some g → base ≤ g ∧ g < W.heap.size := by
  refine ⟨?_, fun g hg => h.lt g hg⟩
  rcases h.2 with ⟨rfl, _⟩ | ⟨g', cap', cur, rfl, _⟩
  · exact ⟨_, _, _, rfl⟩
  · exact ⟨_, _, _, rfl⟩
theorem st_injc {xs ys : List Nat} (hx : Lt xs) (hy : Lt ys) : st xs = st ys ↔ xs = ys := by
  constructor
  · intro h
    rw [← bs_st hx, ← bs_st hy, h]
  · intro h; rw [h]
theorem st_eqc {xs ys : List Nat} (hx : Lt xs) (hy : Lt ys) : ((st xs).toList == (st ys).toList) = decide (xs = ys) := by
  rw [Bool.eq_iff_iff, beq_iff_eq, decide_eq_true_eq]
  constructor
  · intro h
    rw [ByteArray.toList_eq, ByteArray.toList_eq] at h
    have h2 : st xs = st ys := by
      cases hx' : st xs; cases hy' : st ys
      rw [hx', hy'] at h
      simp only [ByteArray.mk.injEq]
      exact Array.toList_inj.1 h
    exact (st_injc hx hy).1 h2
  · intro h; rw [h]
/-- A text whose bytes are bytes, and that is not too long. -/
def TxOk (x : Tx) : Prop := Lt x ∧ x.length ≤ 140737488355328
/-- A slice value that reads as these texts. -/
def AtT (w : World) (ao : Option Addr) (ts : List Tx) : Prop :=
  ts = [] ∨ ∃ b off, ao = some ⟨b, off, none⟩ ∧ ∀ (j : Nat) (x : Tx), ts[j]? = some x → w.cell? ⟨b, off + j, none⟩ = some (.string (st x))
structure Tw (w : World) (v : Value) (ts : List Tx) : Prop where
  ex : ∃ ao cap, v = .slice ao ts.length cap ∧ ts.length ≤ cap ∧ cap ≤ maxLen ∧ AtT w ao ts ∧ (ao = none → cap = 0)
  ok : ∀ x ∈ ts, TxOk x
theorem AtT.keep {w w' : World} {ao : Option Addr} {ts : List Tx} (h : AtT w ao ts) (hk : Kp w w') : AtT w' ao ts := by
  rcases h with rfl | ⟨b, off, rfl, h⟩
  · exact .inl rfl
  · exact .inr ⟨b, off, rfl, fun j x hx => cell_kept (h j x hx) hk⟩
theorem Tw.keep {w w' : World} {v : Value} {ts : List Tx} (h : Tw w v ts) (hk : Kp w w') : Tw w' v ts := by
  obtain ⟨⟨ao, cap, h1, h2, h3, h4, h5⟩, hl⟩ := h
  exact ⟨⟨ao, cap, h1, h2, h3, h4.keep hk, h5⟩, hl⟩
theorem Tw.nil (w : World) : Tw w (.slice none 0 0) [] := ⟨⟨none, 0, rfl, Nat.le_refl _, Nat.zero_le _, .inl rfl, fun _ => rfl⟩, fun f h => by simp at h⟩
theorem Tw.open3 {w : World} {v : Value} {ts : List Tx} (h : Tw w v ts) : ∃ ao cap, v = .slice ao ts.length cap ∧ ts.length ≤ cap ∧ cap ≤ maxLen ∧ (ao = none → cap = 0) := by
  obtain ⟨⟨ao, cap, h1, h2, h3, h4, h5⟩, hl⟩ := h
  exact ⟨ao, cap, h1, h2, h3, h5⟩
/-- Memory that only one block, not this one, has changed in. -/
theorem Tw.by {w w' : World} {v : Value} {ts : List Tx} {row : Option Nat} (h : Tw w v ts) (hg : w.grownBy w' row) (hne : ∀ b, v.ownBlock = some b → row ≠ some b) : Tw w' v ts := by
  obtain ⟨⟨ao, cap, rfl, h2, h3, h4, h5⟩, hl⟩ := h
  refine ⟨⟨ao, cap, rfl, h2, h3, ?_, h5⟩, hl⟩
  rcases h4 with h4 | ⟨b, off, rfl, hc⟩
  · exact .inl h4
  · have hb : row ≠ some b := hne b rfl
    refine .inr ⟨b, off, rfl, fun j x hx => ?_⟩
    have h0 := hc j x hx
    have hlt := World.block_lt_of_cell? w _ h0
    have hh := hg.block b hlt (fun e => hb e.symm)
    unfold World.cell? at h0 ⊢
    rw [hh]
    exact h0
/-- The cells of the texts. -/
theorem Tw.cell {w : World} {ao : Option Addr} {n cap : Nat} {ts : List Tx} (h : Tw w (.slice ao n cap) ts) (hn : 0 < n) :
    ∃ b off, ao = some ⟨b, off, none⟩ ∧ ∀ (j : Nat) (x : Tx), ts[j]? = some x → w.cell? ⟨b, off + j, none⟩ = some (.string (st x)) := by
  obtain ⟨⟨ao', cap', h1, h2, h3, h4, h5⟩, hl⟩ := h
  simp only [Value.slice.injEq] at h1
  obtain ⟨rfl, rfl, rfl⟩ := h1
  rcases h4 with rfl | h4
  · simp at hn
  · exact h4
theorem Tw.len {w : World} {ao : Option Addr} {n cap : Nat} {ts : List Tx} (h : Tw w (.slice ao n cap) ts) : n = ts.length := by
  obtain ⟨⟨ao', cap', h1, _⟩, _⟩ := h
  simp only [Value.slice.injEq] at h1
  exact h1.2.1
/-- The first texts of a slice. -/
theorem Tw.take {w : World} {ao : Option Addr} {n cap : Nat} {ts : List Tx} (h : Tw w (.slice ao n cap) ts) (k : Nat) (hk : k ≤ n) : Tw w (.slice ao k cap) (ts.take k) := by
  have hl := h.len
  obtain ⟨⟨ao', cap', h1, h2, h3, h4, h5⟩, ho⟩ := h
  simp only [Value.slice.injEq] at h1
  obtain ⟨rfl, -, rfl⟩ := h1
  have hlen : (ts.take k).length = k := by rw [List.length_take]; omega
  refine ⟨⟨ao, cap, by rw [hlen], by omega, h3, ?_, h5⟩, fun x hx => ho x (List.mem_of_mem_take hx)⟩
  rcases h4 with rfl | ⟨b, off, rfl, hc⟩
  · exact .inl (by simp)
  · refine .inr ⟨b, off, rfl, fun j x hx => hc j x ?_⟩
    rw [List.getElem?_take] at hx
    split at hx
    · exact hx
    · simp at hx
theorem Tw.blk {w : World} {g : Nat} {t : TypeId} {ts : List Tx} (h : Blk w g t (ts.map fun x => Value.string (st x)).toArray) (ho : ∀ x ∈ ts, TxOk x) (hm : ts.length ≤ maxLen) : Tw w (.slice (some ⟨g, 0, none⟩) ts.length ts.length) ts := by
  refine ⟨⟨_, _, rfl, Nat.le_refl _, hm, .inr ⟨g, 0, rfl, fun j x hx => ?_⟩, fun e => nomatch e⟩, ho⟩
  rw [Nat.zero_add]
  exact h.cell j (by simpa using ⟨x, hx, rfl⟩)
/-- The cells of texts in a row of one's own. -/
def tcel (ts : List Tx) : List Value := ts.map fun x => .string (st x)
theorem tcel_len (ts : List Tx) : (tcel ts).length = ts.length := by simp [tcel]
theorem tcel_at {ts : List Tx} {j : Nat} {x : Tx} (h : ts[j]? = some x) : (tcel ts)[j]? = some (.string (st x)) := by simp [tcel, h]
theorem tcel_snoc (ts : List Tx) (x : Tx) : tcel (ts ++ [x]) = tcel ts ++ [.string (st x)] := by simp [tcel]
theorem tcel_app (ts us : List Tx) : tcel (ts ++ us) = tcel ts ++ tcel us := by simp [tcel]
structure OwT (w wr : World) (v : Value) (ts : List Tx) : Prop where
  owns : wr.ownsRow w.heap.size 9 1 v ts.length (tcel ts)
  ok : ∀ x ∈ ts, TxOk x
  kp : Kp w wr
theorem OwT.start (w : World) : OwT w w (.slice none 0 0) [] := ⟨World.ownsRow_nil _ _ _ _, fun f h => by simp at h, Kp.refl _⟩
theorem OwT.base {w0 w wr : World} {v : Value} {ts : List Tx} (h : OwT w wr v ts) (hk : Kp w0 w) : OwT w0 wr v ts := by
  refine ⟨?_, h.ok, Kp.trans hk h.kp⟩
  refine ⟨h.owns.1, ?_⟩
  rcases h.owns.2 with h2 | ⟨g, cap, cur, e1, e2, e3⟩
  · exact .inl h2
  · exact .inr ⟨g, cap, cur, e1, Nat.le_trans hk.size e2, e3⟩
theorem OwT.keep {w wr w1 : World} {v : Value} {ts : List Tx} (h : OwT w wr v ts) (hk : Kp wr w1) : OwT w w1 v ts := by
  refine ⟨?_, h.ok, Kp.trans h.kp hk⟩
  refine World.ownsRow.kept (row := none) h.owns ⟨hk.os, hk.tape, hk.output, hk.size, fun i hi _ => hk.block i hi⟩ ?_
  rcases h.owns.2 with ⟨rfl, _⟩ | ⟨g', cap', cur, rfl, hb', _⟩
  · exact .inl rfl
  · right; intro e; simp [Value.ownBlock] at e
theorem OwT.tw {w wr : World} {v : Value} {ts : List Tx} (h : OwT w wr v ts) : Tw wr v ts := by
  refine ⟨?_, h.ok⟩
  rcases h.owns.2 with ⟨rfl, h0⟩ | ⟨g, cap, cur, rfl, hb, hg, hnc, hcm, hsz, htake⟩
  · exact ⟨none, 0, by rw [h0], by omega, by unfold maxLen; omega, .inl (List.length_eq_zero_iff.1 h0), fun _ => rfl⟩
  · refine ⟨some ⟨g, 0, none⟩, cap, rfl, hnc, hcm, .inr ⟨g, 0, rfl, fun j f hf => ?_⟩, fun h => nomatch h⟩
    have hj : j < ts.length := (List.getElem?_eq_some_iff.1 hf).1
    have h1 := tcel_at hf
    have hcl := tcel_len ts
    rw [Nat.zero_add, cell_of_row wr g j cur _ (0, 0) hg]
    rw [← htake, List.getElem?_take, if_pos (by omega)] at h1
    simpa using h1
/-- The row lies in the call's own memory, and only another block has changed. -/
theorem OwT.by {w wr w1 : World} {v : Value} {ts : List Tx} {row : Option Nat} (h : OwT w wr v ts) (hg : wr.grownBy w1 row) (hr : ∀ r, row = some r → w.heap.size ≤ r) (hne : ∀ b, v.ownBlock = some b → row ≠ some b) : OwT w w1 v ts := by
  refine ⟨?_, h.ok, Below.grown h.kp hg h.kp.size hr⟩
  refine World.ownsRow.kept (row := row) h.owns hg ?_
  rcases h.owns.2 with ⟨rfl, _⟩ | ⟨g', cap', cur, rfl, hb', _⟩
  · exact .inl rfl
  · right; intro e; exact hne g' rfl e.symm
theorem OwT.newer {w wr : World} {v : Value} {ts : List Tx} (h : OwT w wr v ts) : ∀ b, v.ownBlock = some b → w.heap.size ≤ b := fun b hb => ((row_frc h.owns).2 b hb).1
theorem infoTx : (Try.prog.info? 9).map (fun i => (i.zero, i.size, i.bytes)) = some (some (.string ⟨#[]⟩), 1, 16) := by kernel_rfl
/-- append of a text to a row of one's own. -/
theorem wpList_tx {w wx : World} {ops : Array Oper} {rest : List Oper} {o : Oper} {a : Act} {Q : Exit → Act → World → Prop} (hgd : o.guard = none) (s x : Operand)
    (ho : o.op = .call { callee := .builtin .append, args := #[s, x], argTypes := #[23, 23] })
    (v : Value) {ts : List Tx} (hs : a.eval s = v) (hown : OwT w wx v ts) (hsm : ts.length ≤ 1000000) (k : Tx) (hf : TxOk k) (g : Nat) (hx : a.eval x = .slice (some ⟨g, 0, none⟩) 1 1)
    (hc : Blk wx g 9 #[.string (st k)])
    (h : ∀ v' w', OwT w w' v' (ts ++ [k]) → wx.grownBy w' v.ownBlock → (v'.ownBlock = v.ownBlock ∨ v'.ownBlock = some wx.heap.size) → wpList Try.prog ops Q rest (a.put o.dst v') w') : wpList Try.prog ops Q (o :: rest) a wx := by
  obtain ⟨i, hi, hz, hsize, hby⟩ := info_parts infoTx
  refine wpList_append_own_at (P := Try.prog) wx hgd s x _ ho w.heap.size _ i _ 1 16 Try.underlying23 hi hz hsize hby rfl (by omega) v ts.length (tcel ts) hs hown.owns ⟨g, 0, none⟩ 1 1 [.string (st k)] hx rfl ?_ ?_ (by unfold maxLen; omega) (by omega) hown.kp.size ?_
  · intro j u hu
    rw [Addr.add_lit]
    refine hc.cell (0 + j) ?_
    rw [Nat.zero_add]
    simpa using hu
  · intro u hu
    simp at hu
    subst hu
    rfl
  · intro v' w' h1 h2 h3 h4
    refine h v' w' ⟨?_, ?_, Below.grown hown.kp h2 hown.kp.size (fun k hk => ((row_frc hown.owns).2 k hk).1)⟩ h2 h4
    · rw [List.length_append, tcel_snoc]; exact h1
    · intro y hy
      rcases List.mem_append.1 hy with hy | hy
      · exact hown.ok y hy
      · obtain rfl : y = k := by simpa using hy
        exact hf
/-- append of all texts of a slice to a row of one's own. -/
theorem wpList_txs {w wx : World} {ops : Array Oper} {rest : List Oper} {o : Oper} {a : Act} {Q : Exit → Act → World → Prop} (hgd : o.guard = none) (s x : Operand)
    (ho : o.op = .call { callee := .builtin .append, args := #[s, x], argTypes := #[23, 23] })
    (v : Value) {ts : List Tx} (hs : a.eval s = v) (hown : OwT w wx v ts) (hsm : ts.length ≤ 1000000) {us : List Tx} (hu1 : us.length ≤ 1000000) (hu0 : 0 < us.length) (g off cap : Nat) (hx : a.eval x = .slice (some ⟨g, off, none⟩) us.length cap)
    (hT : Tw wx (.slice (some ⟨g, off, none⟩) us.length cap) us)
    (h : ∀ v' w', OwT w w' v' (ts ++ us) → wx.grownBy w' v.ownBlock → (v'.ownBlock = v.ownBlock ∨ v'.ownBlock = some wx.heap.size) → wpList Try.prog ops Q rest (a.put o.dst v') w') : wpList Try.prog ops Q (o :: rest) a wx := by
  obtain ⟨i, hi, hz, hsize, hby⟩ := info_parts infoTx
  obtain ⟨b, off', e, hcell⟩ := hT.cell hu0
  injection e with e
  injection e with e1 e2
  subst e1 e2
  have hcu : (tcel us).length = us.length := tcel_len us
  refine wpList_append_own_at (P := Try.prog) wx hgd s x _ ho w.heap.size _ i _ 1 16 Try.underlying23 hi hz hsize hby rfl (by omega) v ts.length (tcel ts) hs hown.owns ⟨g, off, none⟩ us.length cap (tcel us) hx (by rw [hcu]; omega) ?_ ?_ (by unfold maxLen; omega) (by omega) hown.kp.size ?_
  · intro j u hu
    rw [Addr.add_lit]
    simp only [tcel, List.getElem?_map, Option.map_eq_some_iff] at hu
    obtain ⟨y, hy, rfl⟩ := hu
    exact hcell j y hy
  · intro u hu
    simp only [tcel, List.mem_map] at hu
    obtain ⟨y, _, rfl⟩ := hu
    rfl
  · intro v' w' h1 h2 h3 h4
    refine h v' w' ⟨?_, ?_, Below.grown hown.kp h2 hown.kp.size (fun k hk => ((row_frc hown.owns).2 k hk).1)⟩ h2 h4
    · rw [List.length_append, tcel_app]; exact h1
    · intro y hy
      rcases List.mem_append.1 hy with hy | hy
      · exact hown.ok y hy
      · exact hT.ok y hy
end By
end Go.Proofs.Ytlfoikjbbbhbdaa
