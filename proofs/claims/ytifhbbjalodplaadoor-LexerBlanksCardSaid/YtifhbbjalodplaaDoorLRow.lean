/- Rows of tokens in memory of the call's own. No condition. -/
import Derived.Test.YtifhbbjalodplaaDoorLKinds
import Derived.Maps.AppendAt
namespace Go.Proofs.YtifhbbjalodplaaDoor
namespace By
open Go.RowKit WireN LexN
set_option linter.unusedVariables false
set_option linter.unusedSimpArgs false

def tcell (t : Tok) : List Value := [.int .i64 (t.1 : Nat), .string (st t.2.1), .int .i64 (t.2.2.1 : Nat), .int .i64 (t.2.2.2 : Nat)]
def tcells : List Tok → List Value
  | [] => []
  | t :: ts => tcell t ++ tcells ts
theorem tcells_len : ∀ ts : List Tok, (tcells ts).length = ts.length * 4
  | [] => rfl
  | t :: ts => by
    have := tcells_len ts
    simp only [tcells, tcell, List.length_append, List.length_cons, List.length_nil, this]
    omega
theorem tcells_append : ∀ (a b : List Tok), tcells (a ++ b) = tcells a ++ tcells b
  | [], b => rfl
  | t :: ts, b => by simp [tcells, tcells_append ts b]
theorem tcells_at : ∀ (ts : List Tok) (i : Nat) (t : Tok), ts[i]? = some t → ∀ j, j < 4 → (tcells ts)[i * 4 + j]? = (tcell t)[j]?
  | [], i, t, h => by simp at h
  | u :: ts, 0, t, h => by
    intro j hj
    obtain rfl : u = t := by simpa using h
    simp only [tcells, Nat.zero_mul, Nat.zero_add]
    rw [List.getElem?_append_left (by simpa [tcell] using hj)]
  | u :: ts, i + 1, t, h => by
    intro j hj
    have := tcells_at ts i t (by simpa using h) j hj
    simp only [tcells]
    rw [List.getElem?_append_right (by simp [tcell]; omega), ← this]
    congr 1
    simp [tcell]; omega
/-- A row of tokens that was made since w. -/
structure TRow (w W : World) (v : Value) (ts : List Tok) : Prop where
  own : W.ownsRow w.heap.size 42 4 v ts.length (tcells ts)
  kp : Kp w W
theorem TRow.start (w : World) : TRow w w (.slice none 0 0) [] := ⟨World.ownsRow_nil _ _ _ _, Kp.refl _⟩
theorem TRow.keep {w W W' : World} {v : Value} {ts : List Tok} (h : TRow w W v ts) (hk : Kp W W') : TRow w W' v ts := by
  refine ⟨⟨h.own.1, ?_⟩, Kp.trans h.kp hk⟩
  rcases h.own.2 with hn | ⟨g, cap, cur, e, hb, hg, r⟩
  · exact .inl hn
  · exact .inr ⟨g, cap, cur, e, hb, by rw [hk.block g (lt_of_block hg)]; exact hg, r⟩
theorem TRow.form {w W : World} {v : Value} {ts : List Tok} (h : TRow w W v ts) : ∃ ao cap, v = .slice ao ts.length cap ∧ ts.length ≤ cap := by
  rcases h.own.2 with ⟨rfl, h0⟩ | ⟨g, cap, cur, rfl, hb, hg, hnc, hcm, hsz, htake⟩
  · exact ⟨none, 0, by rw [h0], by omega⟩
  · exact ⟨_, cap, rfl, hnc⟩
theorem infoT : (Tryd.prog.info? 42).map (fun i => (i.zero, i.size, i.bytes)) = some (some (.agg #[.int .i64 0, .string ⟨#[]⟩, .int .i64 0, .int .i64 0]), 4, 40) := by kernel_rfl
/-- append of a token. -/
theorem wpList_tok {w wx : World} {ops : Array Oper} {rest : List Oper} {o : Oper} {a : Act} {Q : Exit → Act → World → Prop} (hgd : o.guard = none) (s x : Operand)
    (ho : o.op = .call { callee := .builtin .append, args := #[s, x], argTypes := #[37, 37] })
    (v : Value) (ts : List Tok) (hs : a.eval s = v) (hown : TRow w wx v ts) (t : Tok) (g : Nat) (hx : a.eval x = .slice (some ⟨g, 0, none⟩) 1 1)
    (hc : Blk wx g 42 (tcell t).toArray) (hn : ts.length ≤ 100000)
    (h : ∀ v' w', TRow w w' v' (ts ++ [t]) → wpList Tryd.prog ops Q rest (a.put o.dst v') w') : wpList Tryd.prog ops Q (o :: rest) a wx := by
  obtain ⟨i, hi, hz, hsize, hby⟩ := info_parts infoT
  refine wpList_append_own_at (P := Tryd.prog) wx hgd s x _ ho w.heap.size _ i _ 4 40 Tryd.underlying37 hi hz hsize hby rfl (by omega) v ts.length (tcells ts) hs hown.own ⟨g, 0, none⟩ 1 1 (tcell t) hx rfl ?_ ?_ (by unfold maxLen; omega) (by omega) hown.kp.size ?_
  · intro j u hu
    rw [Addr.add_lit]
    refine hc.cell (0 + j) ?_
    rw [Nat.zero_add]
    simpa using hu
  · intro u hu
    simp only [tcell, List.mem_cons, List.not_mem_nil, or_false] at hu
    rcases hu with rfl | rfl | rfl | rfl <;> rfl
  · intro v' w' h1 h2 h3 h4
    refine h v' w' ⟨?_, ?_⟩
    · rw [List.length_append, tcells_append, List.length_singleton]
      have e : tcells [t] = tcell t := by simp [tcells]
      rw [e]; exact h1
    · exact Below.grown hown.kp h2 hown.kp.size (fun k hk => (hown.own.lt k hk).1)
/-- The place of a token's cell. -/
theorem TRow.cell {w W : World} {v : Value} {ts : List Tok} (h : TRow w W v ts) (hn : 0 < ts.length) : ∃ g cap, v = .slice (some ⟨g, 0, none⟩) ts.length cap ∧ ts.length ≤ cap ∧ w.heap.size ≤ g ∧ g < W.heap.size ∧ ∀ i t, ts[i]? = some t → ∀ j u, (tcell t)[j]? = some u → W.cell? ⟨g, i * 4 + j, none⟩ = some u := by
  rcases h.own.2 with ⟨rfl, h0⟩ | ⟨g, cap, cur, rfl, hb, hg, hnc, hcm, hsz, htake⟩
  · omega
  · refine ⟨g, cap, rfl, hnc, hb, lt_of_block hg, fun i t ht j u hu => ?_⟩
    have hj : j < 4 := by
      rcases Nat.lt_or_ge j 4 with h | h
      · exact h
      · rw [List.getElem?_eq_none (by simpa [tcell] using h)] at hu; cases hu
    have hi : i < ts.length := by
      rcases Nat.lt_or_ge i ts.length with h | h
      · exact h
      · rw [List.getElem?_eq_none h] at ht; cases ht
    rw [cell_of_row W g _ _ _ (0, 0) hg, ← Array.getElem?_toList]
    have h1 := tcells_at ts i t ht j hj
    rw [hu, ← htake, List.getElem?_take, if_pos (by omega)] at h1
    exact h1
end By
end Go.Proofs.YtifhbbjalodplaaDoor
