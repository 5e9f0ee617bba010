/- The reference's Put. Condition: at most a million texts. -/
import Derived.Test.YtlfoikjbbbhbdaaCtE
import Derived.Laws.AppendOwnNone
namespace Go.Proofs.Ytlfoikjbbbhbdaa
namespace By
open Go.RowKit WireN CtN
set_option linter.unusedVariables false
set_option linter.unusedSimpArgs false

/-- append of all texts of a slice to no row at all: a copy. -/
theorem wpList_cln {wx : World} {ops : Array Oper} {rest : List Oper} {o : Oper} {a : Act} {Q : Exit → Act → World → Prop} (hgd : o.guard = none) (s x : Operand)
    (ho : o.op = .call { callee := .builtin .append, args := #[s, x], argTypes := #[23, 23] })
    (hs : a.eval s = .slice none 0 0) {v : Value} {us : List Tx} (hx : a.eval x = v) (hT : Tw wx v us) (hu1 : us.length ≤ 1000000)
    (h : ∀ v' w', OwT wx w' v' us → wpList Try.prog ops Q rest (a.put o.dst v') w') : wpList Try.prog ops Q (o :: rest) a wx := by
  obtain ⟨ao, cap, rfl, hc, hm, hnone⟩ := hT.open3
  by_cases h0 : us = []
  · subst h0
    cases ao with
    | none =>
      obtain rfl : cap = 0 := hnone rfl
      obtain ⟨i, hi, hz, hsize, hby⟩ := info_parts infoTx
      exact wpList_append_own_none hgd s x _ ho wx.heap.size _ i 1 Try.underlying23 hi _ 0 [] hs (World.ownsRow_nil _ _ _ _) hx (h _ _ (OwT.start wx))
    | some ad =>
      obtain ⟨i, hi, hz, hsize, hby⟩ := info_parts infoTx
      refine wpList_append_own_at (P := Try.prog) wx hgd s x _ ho wx.heap.size _ i _ 1 16 Try.underlying23 hi hz hsize hby rfl (by omega) _ 0 [] hs (World.ownsRow_nil _ _ _ _) ad 0 cap [] hx rfl (fun j u hu => by simp at hu) (fun u hu => by simp at hu) (by unfold maxLen; omega) (by omega) (Nat.le_refl _) ?_
      intro v' w' h1 h2 h3 h4
      exact h v' w' ⟨h1, fun y hy => by simp at hy, Below.grown (Kp.refl _) h2 (Nat.le_refl _) (fun k hk => by simp [Value.ownBlock] at hk)⟩
  · have hpos : 0 < us.length := List.length_pos_iff.2 h0
    obtain ⟨b, off, rfl, -⟩ := hT.cell hpos
    refine wpList_txs (w := wx) hgd s x ho _ hs (OwT.start wx) (by simp) hu1 hpos b off cap hx hT ?_
    intro v' w' h1 h2 h3
    exact h v' w' (by simpa using h1)
/-- What Put answers. -/
def ptE (x : Tx) (ts : List Tx) : Nat := if err ts ≠ 0 then err ts else if x ∉ ts ∧ ts.length = 4096 then 2 else 0
def ptL (x : Tx) (ts : List Tx) : List Tx := if ptE x ts = 0 then add ts x else []
def ptN (x : Tx) (ts : List Tx) : Nat := if ptE x ts = 0 then fnd x (add ts x) else 0
theorem ptE_bad {x : Tx} {ts : List Tx} (h : err ts ≠ 0) : ptE x ts = err ts := if_pos h
theorem ptE_in {x : Tx} {ts : List Tx} (h : err ts = 0) (hx : x ∈ ts) : ptE x ts = 0 := by rw [ptE, if_neg (by simp [h]), if_neg (by simp [hx])]
theorem ptE_full {x : Tx} {ts : List Tx} (h : err ts = 0) (hx : x ∉ ts) (hl : ts.length = 4096) : ptE x ts = 2 := by rw [ptE, if_neg (by simp [h]), if_pos ⟨hx, hl⟩]
theorem ptE_new {x : Tx} {ts : List Tx} (h : err ts = 0) (hl : ts.length ≠ 4096) : ptE x ts = 0 := by rw [ptE, if_neg (by simp [h]), if_neg (fun e => hl e.2)]
theorem ptL_no {x : Tx} {ts : List Tx} (h : ptE x ts ≠ 0) : ptL x ts = [] ∧ ptN x ts = 0 := ⟨if_neg h, if_neg h⟩
theorem ptL_ok {x : Tx} {ts : List Tx} (h : ptE x ts = 0) : ptL x ts = add ts x ∧ ptN x ts = fnd x (add ts x) := ⟨if_pos h, if_pos h⟩
/-- A slice keeps its texts where a cell of another block is set. -/
theorem Tw.setc {w : World} {v : Value} {ts : List Tx} {g i : Nat} {u : Value} (h : Tw w v ts) (hne : ∀ b, v.ownBlock = some b → b ≠ g) : Tw (w.setCell ⟨g, i, none⟩ u) v ts := by
  refine h.by (row := some g) (Only.gr ((Only.refl g w).set i u)) (fun b hb e => ?_)
  injection e with e
  exact hne b hb e.symm
theorem Tw.drew {w : World} {v : Value} {ts : List Tx} (h : Tw w v ts) : Tw w.drew v ts := h.keep (kp_drew w)
end By
end Go.Proofs.Ytlfoikjbbbhbdaa
