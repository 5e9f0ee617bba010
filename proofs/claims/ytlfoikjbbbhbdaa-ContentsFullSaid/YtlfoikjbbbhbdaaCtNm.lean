/- A map from texts to their numbers, of the call's own. No condition. -/
import Derived.Test.YtlfoikjbbbhbdaaCtM
import Derived.Carry
import Derived.Maps.Own
import Derived.Maps.OwnSet
import Derived.Maps.Views
namespace Go.Proofs.Ytlfoikjbbbhbdaa
namespace By
open Go.RowKit WireN CtN
set_option linter.unusedVariables false
set_option linter.unusedSimpArgs false

theorem fnd_at_app {x : Tx} {l r : List Tx} (h : x ∈ l) : fnd x (l ++ r) = fnd x l := by
  induction l with
  | nil => simp at h
  | cons y l ih =>
    show fnd x (y :: (l ++ r)) = _
    unfold fnd
    by_cases e : y = x
    · rw [if_pos e, if_pos e]
    · rw [if_neg e, if_neg e, ih (by rcases List.mem_cons.1 h with e2 | h2; exact absurd e2.symm e; exact h2)]
/-- The number that the map has for a text. -/
def mNum (x : Tx) (ts : List Tx) : Nat := if x ∈ ts then fnd x ts else 0
/-- Block b is a map that has the numbers of these texts. -/
structure NM (w : World) (b : Nat) (ts : List Tx) : Prop where
  ex : ∃ D : DataW Unit, w.ownsMap Try.prog 9 (plainElem Try.prog 3) b ts.length D ∧ Go.Maps.IsMap D ∧
    ∀ c : Tx, Lt c → D.atKey (.string (st c).data.toList) (.lit (.int .i64 0)) = .lit (.int .i64 (mNum c ts : Nat)) ∧ Go.Maps.has D (.string (st c).data.toList) = decide (c ∈ ts)
theorem NM.made (w : World) : NM (w.alloc (.map #[] 0)) w.heap.size [] :=
  ⟨.map [], World.ownsMap_made w _ _ _, ⟨[], rfl⟩, fun c _ => ⟨rfl, rfl⟩⟩
theorem NM.lt {w : World} {b : Nat} {ts : List Tx} (h : NM w b ts) : b < w.heap.size := by
  obtain ⟨D, h1, -, -⟩ := h; exact h1.lt
theorem NM.by {w w' : World} {b : Nat} {ts : List Tx} {row : Option Nat} (h : NM w b ts) (hg : w.grownBy w' row) (hne : some b ≠ row) : NM w' b ts := by
  obtain ⟨D, h1, h2, h3⟩ := h
  exact ⟨D, h1.kept hg hne, h2, h3⟩
theorem NM.keep {w w' : World} {b : Nat} {ts : List Tx} (h : NM w b ts) (hk : Kp w w') : NM w' b ts :=
  h.by (row := none) ⟨hk.os, hk.tape, hk.output, hk.size, fun i hi _ => hk.block i hi⟩ (by simp)
theorem lawT : Go.Maps.Keyed Try.prog 9 := Go.Maps.string_keyed Try.underlying9
theorem zeroN (w : World) : (zeroValue 3).run Try.prog w = .ok (.int .i64 0) w := Try.zeroValue3 w
theorem keyT {c : Tx} (hl : c.length ≤ 140737488355328) : keyOf Try.prog 9 (.string (st c)) = some (.string (st c).data.toList) :=
  WideMaps.keyOf_string_mk Try.underlying9 (by rw [st_size]; unfold maxLen; omega)
theorem st_dneT {c k : Tx} (hc : Lt c) (hk : Lt k) (h : c ≠ k) : (Lit.string (st c).data.toList) ≠ Lit.string (st k).data.toList := by
  intro e
  injection e with e
  refine h ((st_injc hc hk).1 ?_)
  have h2 : (st c).data = (st k).data := Array.toList_inj.1 e
  cases hx : st c; cases hy : st k
  rw [hx, hy] at h2
  simp at h2
  rw [h2]
theorem wfN {n : Nat} (h : n ≤ 1000000) : (Lit.int .i64 (n : Nat)).wf = true := Go.WalkArith.wf_i64 (by omega)
set_option maxRecDepth 100000 in
/-- What is found in the map. -/
theorem NM.get {w : World} {b : Nat} {ts : List Tx} (h : NM w b ts) {c : Tx} (hc : TxOk c) : (Instr.lookup 67 (.map (some b)) (.string (st c)) true).run Try.prog w = .ok (.tuple #[.int .i64 (mNum c ts : Nat), .bool (decide (c ∈ ts))]) w := by
  obtain ⟨D, h1, h2, h3⟩ := h
  obtain ⟨v, ps, hr, hv⟩ := h1.look_ok lawT Try.underlying67 (zeroN w) (plainElem_int Try.underlying3 (by decide)) (keyT hc.2)
  obtain ⟨a, rfl, hx, -⟩ := plainElem_int_inv Try.underlying3 hv
  obtain ⟨h4, h5⟩ := h3 c hc.1
  rw [h4] at hx
  simp only [Prod.mk.injEq] at hx
  have h6 := hx.1
  injection h6 with h6
  injection h6 with h7 h8
  rw [hr, h5, h8]
set_option maxRecDepth 100000 in
theorem NM.put {w : World} {b : Nat} {ts : List Tx} (h : NM w b ts) (hn : ts.length ≤ 1000000) {k : Tx} (hk : TxOk k) (hm : k ∉ ts) :
    ∃ w', (Instr.mapUpdate 67 (.map (some b)) (.string (st k)) (.int .i64 (ts.length : Nat))).run Try.prog w = .ok () w' ∧ NM w' b (ts ++ [k]) ∧ w.grownBy w' (some b) := by
  obtain ⟨D, h1, h2, h3⟩ := h
  obtain ⟨w', hr, ho, hg⟩ := h1.update lawT Try.underlying67 (by unfold maxLen; omega) (keyT hk.2) (plainElem_int (H := Unit) Try.underlying3 (wfN hn))
  refine ⟨w', hr, ⟨_, by rw [List.length_append]; exact ho, ?_, fun c hc => ?_⟩, hg⟩
  · obtain ⟨es, rfl⟩ := h2
    exact ⟨_, rfl⟩
  · by_cases hck : c = k
    · subst hck
      rw [Go.Maps.atKey_put_same h2 (by trivial), Go.Maps.has_put_same h2 (by trivial)]
      exact ⟨by rw [mNum, if_pos (by simp), fnd_snoc hm], by simp⟩
    · rw [Go.Maps.atKey_put_other (st_dneT hc hk.1 hck), Go.Maps.has_put_other (st_dneT hc hk.1 hck), (h3 c hc).1, (h3 c hc).2]
      refine ⟨?_, by simp [hck]⟩
      unfold mNum
      by_cases hin : c ∈ ts
      · rw [if_pos hin, if_pos (by simp [hin]), fnd_at_app hin]
      · rw [if_neg hin, if_neg (by simp [hin, hck])]
theorem wpList_nm {w : World} {ops : Array Oper} {rest : List Oper} {o : Oper} {a : Act} {Q : Exit → Act → World → Prop} (hg : o.guard = none) (m x v : Operand) (hop : o.op = Op.mapUpdate 67 m x v)
    {b : Nat} {ts : List Tx} (hm : a.eval m = .map (some b)) (h : NM w b ts) (hn : ts.length ≤ 1000000) (k : Tx) (hk : TxOk k) (hnew : k ∉ ts) (hx : a.eval x = .string (st k)) (hv : a.eval v = .int .i64 (ts.length : Nat))
    (hK : ∀ w', NM w' b (ts ++ [k]) → w.grownBy w' (some b) → wpList Try.prog ops Q rest (a.put o.dst undef) w') : wpList Try.prog ops Q (o :: rest) a w := by
  refine wpList_plain hg fun K' hK' => ?_
  obtain ⟨w', hrun, r1, r2⟩ := h.put hn hk hnew
  unfold Oper.wp
  simp [execOp, hop, hm, hx, hv, hrun, Result.andThen]
  exact hK' _ _ (hK w' r1 r2)
end By
end Go.Proofs.Ytlfoikjbbbhbdaa
