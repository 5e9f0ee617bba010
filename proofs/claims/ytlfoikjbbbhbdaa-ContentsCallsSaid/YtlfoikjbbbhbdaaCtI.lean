/- Numbers in memory: slices that read as numbers, and rows of numbers of one's own. No condition. -/
import Derived.Test.YtlfoikjbbbhbdaaCtM
namespace Go.Proofs.Ytlfoikjbbbhbdaa
namespace By
open Go.RowKit WireN CtN
set_option linter.unusedVariables false
set_option linter.unusedSimpArgs false

/-- A number of 64 bits. -/
def IxOk (x : Int) : Prop := -9223372036854775808 ≤ x ∧ x ≤ 9223372036854775807
/-- A slice value that reads as these numbers. -/
def AtJ (w : World) (ao : Option Addr) (ts : List Int) : Prop :=
  ts = [] ∨ ∃ b off, ao = some ⟨b, off, none⟩ ∧ ∀ (j : Nat) (x : Int), ts[j]? = some x → w.cell? ⟨b, off + j, none⟩ = some (.int .i64 x)
structure Jw (w : World) (v : Value) (ts : List Int) : Prop where
  ex : ∃ ao cap, v = .slice ao ts.length cap ∧ ts.length ≤ cap ∧ cap ≤ maxLen ∧ AtJ w ao ts ∧ (ao = none → cap = 0)
  ok : ∀ x ∈ ts, IxOk x
theorem AtJ.keep {w w' : World} {ao : Option Addr} {ts : List Int} (h : AtJ w ao ts) (hk : Kp w w') : AtJ w' ao ts := by
  rcases h with rfl | ⟨b, off, rfl, h⟩
  · exact .inl rfl
  · exact .inr ⟨b, off, rfl, fun j x hx => cell_kept (h j x hx) hk⟩
theorem Jw.keep {w w' : World} {v : Value} {ts : List Int} (h : Jw w v ts) (hk : Kp w w') : Jw w' v ts := by
  obtain ⟨⟨ao, cap, h1, h2, h3, h4, h5⟩, hl⟩ := h
  exact ⟨⟨ao, cap, h1, h2, h3, h4.keep hk, h5⟩, hl⟩
theorem Jw.nil (w : World) : Jw w (.slice none 0 0) [] := ⟨⟨none, 0, rfl, Nat.le_refl _, Nat.zero_le _, .inl rfl, fun _ => rfl⟩, fun f h => by simp at h⟩
theorem Jw.open3 {w : World} {v : Value} {ts : List Int} (h : Jw w v ts) : ∃ ao cap, v = .slice ao ts.length cap ∧ ts.length ≤ cap ∧ cap ≤ maxLen ∧ (ao = none → cap = 0) := by
  obtain ⟨⟨ao, cap, h1, h2, h3, h4, h5⟩, hl⟩ := h
  exact ⟨ao, cap, h1, h2, h3, h5⟩
/-- Memory that only one block, not this one, has changed in. -/
theorem Jw.by {w w' : World} {v : Value} {ts : List Int} {row : Option Nat} (h : Jw w v ts) (hg : w.grownBy w' row) (hne : ∀ b, v.ownBlock = some b → row ≠ some b) : Jw w' v ts := by
  obtain ⟨⟨ao, cap, rfl, h2, h3, h4, h5⟩, hl⟩ := h
  refine ⟨⟨ao, cap, rfl, h2, h3, ?_, h5⟩, hl⟩
  rcases h4 with h4 | ⟨b, off, rfl, hc⟩
  · exact .inl h4
  · have hb : row ≠ some b := hne b rfl
    refine .inr ⟨b, off, rfl, fun j x hx => ?_⟩
    have h0 := hc j x hx
    have hlt := World.block_lt_of_cell? w _ h0
    have hh := hg.block b hlt (fun e => hb e.symm)
    unfold World.cell? at h0 ⊢
    rw [hh]
    exact h0
/-- The cells of the numbers. -/
theorem Jw.cell {w : World} {ao : Option Addr} {n cap : Nat} {ts : List Int} (h : Jw w (.slice ao n cap) ts) (hn : 0 < n) :
    ∃ b off, ao = some ⟨b, off, none⟩ ∧ ∀ (j : Nat) (x : Int), ts[j]? = some x → w.cell? ⟨b, off + j, none⟩ = some (.int .i64 x) := by
  obtain ⟨⟨ao', cap', h1, h2, h3, h4, h5⟩, hl⟩ := h
  simp only [Value.slice.injEq] at h1
  obtain ⟨rfl, rfl, rfl⟩ := h1
  rcases h4 with rfl | h4
  · simp at hn
  · exact h4
theorem Jw.len {w : World} {ao : Option Addr} {n cap : Nat} {ts : List Int} (h : Jw w (.slice ao n cap) ts) : n = ts.length := by
  obtain ⟨⟨ao', cap', h1, _⟩, _⟩ := h
  simp only [Value.slice.injEq] at h1
  exact h1.2.1
/-- The first numbers of a slice. -/
theorem Jw.take {w : World} {ao : Option Addr} {n cap : Nat} {ts : List Int} (h : Jw w (.slice ao n cap) ts) (k : Nat) (hk : k ≤ n) : Jw w (.slice ao k cap) (ts.take k) := by
  have hl := h.len
  obtain ⟨⟨ao', cap', h1, h2, h3, h4, h5⟩, ho⟩ := h
  simp only [Value.slice.injEq] at h1
  obtain ⟨rfl, -, rfl⟩ := h1
  have hlen : (ts.take k).length = k := by rw [List.length_take]; omega
  refine ⟨⟨ao, cap, by rw [hlen], by omega, h3, ?_, h5⟩, fun x hx => ho x (List.mem_of_mem_take hx)⟩
  rcases h4 with rfl | ⟨b, off, rfl, hc⟩
  · exact .inl (by simp)
  · refine .inr ⟨b, off, rfl, fun j x hx => hc j x ?_⟩
    rw [List.getElem?_take] at hx
    split at hx
    · exact hx
    · simp at hx
theorem Jw.blk {w : World} {g : Nat} {t : TypeId} {ts : List Int} (h : Blk w g t (ts.map fun x => Value.int .i64 x).toArray) (ho : ∀ x ∈ ts, IxOk x) (hm : ts.length ≤ maxLen) : Jw w (.slice (some ⟨g, 0, none⟩) ts.length ts.length) ts := by
  refine ⟨⟨_, _, rfl, Nat.le_refl _, hm, .inr ⟨g, 0, rfl, fun j x hx => ?_⟩, fun e => nomatch e⟩, ho⟩
  rw [Nat.zero_add]
  exact h.cell j (by simp [hx])
/-- The cells of numbers in a row of one's own. -/
def icel (ts : List Int) : List Value := ts.map fun x => .int .i64 x
theorem icel_len (ts : List Int) : (icel ts).length = ts.length := by simp [icel]
theorem icel_at {ts : List Int} {j : Nat} {x : Int} (h : ts[j]? = some x) : (icel ts)[j]? = some (.int .i64 x) := by simp [icel, h]
theorem icel_snoc (ts : List Int) (x : Int) : icel (ts ++ [x]) = icel ts ++ [.int .i64 x] := by simp [icel]
theorem icel_app (ts us : List Int) : icel (ts ++ us) = icel ts ++ icel us := by simp [icel]
structure OwJ (w wr : World) (v : Value) (ts : List Int) : Prop where
  owns : wr.ownsRow w.heap.size 3 1 v ts.length (icel ts)
  ok : ∀ x ∈ ts, IxOk x
  kp : Kp w wr
theorem OwJ.start (w : World) : OwJ w w (.slice none 0 0) [] := ⟨World.ownsRow_nil _ _ _ _, fun f h => by simp at h, Kp.refl _⟩
theorem OwJ.base {w0 w wr : World} {v : Value} {ts : List Int} (h : OwJ w wr v ts) (hk : Kp w0 w) : OwJ w0 wr v ts := by
  refine ⟨?_, h.ok, Kp.trans hk h.kp⟩
  refine ⟨h.owns.1, ?_⟩
  rcases h.owns.2 with h2 | ⟨g, cap, cur, e1, e2, e3⟩
  · exact .inl h2
  · exact .inr ⟨g, cap, cur, e1, Nat.le_trans hk.size e2, e3⟩
theorem OwJ.keep {w wr w1 : World} {v : Value} {ts : List Int} (h : OwJ w wr v ts) (hk : Kp wr w1) : OwJ w w1 v ts := by
  refine ⟨?_, h.ok, Kp.trans h.kp hk⟩
  refine World.ownsRow.kept (row := none) h.owns ⟨hk.os, hk.tape, hk.output, hk.size, fun i hi _ => hk.block i hi⟩ ?_
  rcases h.owns.2 with ⟨rfl, _⟩ | ⟨g', cap', cur, rfl, hb', _⟩
  · exact .inl rfl
  · right; intro e; simp [Value.ownBlock] at e
theorem OwJ.jw {w wr : World} {v : Value} {ts : List Int} (h : OwJ w wr v ts) : Jw wr v ts := by
  refine ⟨?_, h.ok⟩
  rcases h.owns.2 with ⟨rfl, h0⟩ | ⟨g, cap, cur, rfl, hb, hg, hnc, hcm, hsz, htake⟩
  · exact ⟨none, 0, by rw [h0], by omega, by unfold maxLen; omega, .inl (List.length_eq_zero_iff.1 h0), fun _ => rfl⟩
  · refine ⟨some ⟨g, 0, none⟩, cap, rfl, hnc, hcm, .inr ⟨g, 0, rfl, fun j f hf => ?_⟩, fun h => nomatch h⟩
    have hj : j < ts.length := (List.getElem?_eq_some_iff.1 hf).1
    have h1 := icel_at hf
    have hcl := icel_len ts
    rw [Nat.zero_add, cell_of_row wr g j cur _ (0, 0) hg]
    rw [← htake, List.getElem?_take, if_pos (by omega)] at h1
    simpa using h1
/-- The row lies in the call's own memory, and only another block has changed. -/
theorem OwJ.by {w wr w1 : World} {v : Value} {ts : List Int} {row : Option Nat} (h : OwJ w wr v ts) (hg : wr.grownBy w1 row) (hr : ∀ r, row = some r → w.heap.size ≤ r) (hne : ∀ b, v.ownBlock = some b → row ≠ some b) : OwJ w w1 v ts := by
  refine ⟨?_, h.ok, Below.grown h.kp hg h.kp.size hr⟩
  refine World.ownsRow.kept (row := row) h.owns hg ?_
  rcases h.owns.2 with ⟨rfl, _⟩ | ⟨g', cap', cur, rfl, hb', _⟩
  · exact .inl rfl
  · right; intro e; exact hne g' rfl e.symm
theorem OwJ.newer {w wr : World} {v : Value} {ts : List Int} (h : OwJ w wr v ts) : ∀ b, v.ownBlock = some b → w.heap.size ≤ b := fun b hb => ((row_frc h.owns).2 b hb).1
theorem infoIx : (Try.prog.info? 3).map (fun i => (i.zero, i.size, i.bytes)) = some (some (.int .i64 0), 1, 8) := by kernel_rfl
/-- append of a number to a row of one's own. -/
theorem wpList_it {w wx : World} {ops : Array Oper} {rest : List Oper} {o : Oper} {a : Act} {Q : Exit → Act → World → Prop} (hgd : o.guard = none) (s x : Operand)
    (ho : o.op = .call { callee := .builtin .append, args := #[s, x], argTypes := #[22, 22] })
    (v : Value) {ts : List Int} (hs : a.eval s = v) (hown : OwJ w wx v ts) (hsm : ts.length ≤ 1000000) (k : Int) (hf : IxOk k) (g : Nat) (hx : a.eval x = .slice (some ⟨g, 0, none⟩) 1 1)
    (hc : Blk wx g 3 #[.int .i64 k])
    (h : ∀ v' w', OwJ w w' v' (ts ++ [k]) → wx.grownBy w' v.ownBlock → (v'.ownBlock = v.ownBlock ∨ v'.ownBlock = some wx.heap.size) → wpList Try.prog ops Q rest (a.put o.dst v') w') : wpList Try.prog ops Q (o :: rest) a wx := by
  obtain ⟨i, hi, hz, hsize, hby⟩ := info_parts infoIx
  refine wpList_append_own_at (P := Try.prog) wx hgd s x _ ho w.heap.size _ i _ 1 8 Try.underlying22 hi hz hsize hby rfl (by omega) v ts.length (icel ts) hs hown.owns ⟨g, 0, none⟩ 1 1 [.int .i64 k] hx rfl ?_ ?_ (by unfold maxLen; omega) (by omega) hown.kp.size ?_
  · intro j u hu
    rw [Addr.add_lit]
    refine hc.cell (0 + j) ?_
    rw [Nat.zero_add]
    simpa using hu
  · intro u hu
    simp at hu
    subst hu
    rfl
  · intro v' w' h1 h2 h3 h4
    refine h v' w' ⟨?_, ?_, Below.grown hown.kp h2 hown.kp.size (fun k hk => ((row_frc hown.owns).2 k hk).1)⟩ h2 h4
    · rw [List.length_append, icel_snoc]; exact h1
    · intro y hy
      rcases List.mem_append.1 hy with hy | hy
      · exact hown.ok y hy
      · obtain rfl : y = k := by simpa using hy
        exact hf
/-- append of all numbers of a slice to a row of one's own. -/
theorem wpList_its {w wx : World} {ops : Array Oper} {rest : List Oper} {o : Oper} {a : Act} {Q : Exit → Act → World → Prop} (hgd : o.guard = none) (s x : Operand)
    (ho : o.op = .call { callee := .builtin .append, args := #[s, x], argTypes := #[22, 22] })
    (v : Value) {ts : List Int} (hs : a.eval s = v) (hown : OwJ w wx v ts) (hsm : ts.length ≤ 1000000) {us : List Int} (hu1 : us.length ≤ 1000000) (hu0 : 0 < us.length) (g off cap : Nat) (hx : a.eval x = .slice (some ⟨g, off, none⟩) us.length cap)
    (hT : Jw wx (.slice (some ⟨g, off, none⟩) us.length cap) us)
    (h : ∀ v' w', OwJ w w' v' (ts ++ us) → wx.grownBy w' v.ownBlock → (v'.ownBlock = v.ownBlock ∨ v'.ownBlock = some wx.heap.size) → wpList Try.prog ops Q rest (a.put o.dst v') w') : wpList Try.prog ops Q (o :: rest) a wx := by
  obtain ⟨i, hi, hz, hsize, hby⟩ := info_parts infoIx
  obtain ⟨b, off', e, hcell⟩ := hT.cell hu0
  injection e with e
  injection e with e1 e2
  subst e1 e2
  have hcu : (icel us).length = us.length := icel_len us
  refine wpList_append_own_at (P := Try.prog) wx hgd s x _ ho w.heap.size _ i _ 1 8 Try.underlying22 hi hz hsize hby rfl (by omega) v ts.length (icel ts) hs hown.owns ⟨g, off, none⟩ us.length cap (icel us) hx (by rw [hcu]; omega) ?_ ?_ (by unfold maxLen; omega) (by omega) hown.kp.size ?_
  · intro j u hu
    rw [Addr.add_lit]
    simp only [icel, List.getElem?_map, Option.map_eq_some_iff] at hu
    obtain ⟨y, hy, rfl⟩ := hu
    exact hcell j y hy
  · intro u hu
    simp only [icel, List.mem_map] at hu
    obtain ⟨y, _, rfl⟩ := hu
    rfl
  · intro v' w' h1 h2 h3 h4
    refine h v' w' ⟨?_, ?_, Below.grown hown.kp h2 hown.kp.size (fun k hk => ((row_frc hown.owns).2 k hk).1)⟩ h2 h4
    · rw [List.length_append, icel_app]; exact h1
    · intro y hy
      rcases List.mem_append.1 hy with hy | hy
      · exact hown.ok y hy
      · exact hT.ok y hy
end By
end Go.Proofs.Ytlfoikjbbbhbdaa
