/- A text appended, and one text as a slice, as steps of a drawn region. No condition. -/
import Derived.Test.YtlfoikjbbbhbdaaCtH
import Derived.Maps.AppendAt
import Derived.Deep.RegionHeld3
import Derived.StillTailTactics
namespace Go.Proofs.Ytlfoikjbbbhbdaa
namespace By
open Go.RowKit WireN CtN
set_option linter.unusedVariables false
set_option linter.unusedSimpArgs false

/-- append of a text to a row of one's own, as a step of a region. -/
theorem step_tx {w wx : World} {ops : Array Oper} {o : Oper} {a : Act} {K : Act → World → Prop} {Q : Exit → Act → World → Prop} {E : Prop} (hgd : o.guard = none) (s x : Operand)
    (ho : o.op = .call { callee := .builtin .append, args := #[s, x], argTypes := #[23, 23] })
    (v : Value) {ts : List Tx} (hs : a.eval s = v) (hown : OwT w wx v ts) (hsm : ts.length ≤ 1000000) (k : Tx) (hf : TxOk k) (g : Nat) (hx : a.eval x = .slice (some ⟨g, 0, none⟩) 1 1)
    (hc : Blk wx g 9 #[.string (st k)])
    (h : ∀ v' w', OwT w w' v' (ts ++ [k]) → wx.grownBy w' v.ownBlock → (v'.ownBlock = v.ownBlock ∨ v'.ownBlock = some wx.heap.size) → K (a.put o.dst v') w') :
    if Region.wanted o (yielded ops a.tmps) = true then Oper.wp Try.prog o a wx K Q else E := by
  have hw : Region.wanted o (yielded ops a.tmps) = true := by simp [Region.wanted, hgd]
  rw [if_pos hw]
  obtain ⟨i, hi, hz, hsize, hby⟩ := info_parts infoTx
  obtain ⟨v', w', hr, h2, h3, h4, h5⟩ := run_append_own_at (P := Try.prog) wx w.heap.size 23 o.type 9 i _ 1 16 Try.underlying23 hi hz hsize hby rfl (by omega) v ts.length (tcel ts) hown.owns ⟨g, 0, none⟩ 1 1 [.string (st k)] rfl (fun j u hu => by
    rw [Addr.add_lit]
    refine hc.cell (0 + j) ?_
    rw [Nat.zero_add]
    simpa using hu) (fun u hu => by
    simp at hu
    subst hu
    rfl) (by unfold maxLen; omega) (by omega) hown.kp.size
  unfold Oper.wp
  simp [execOp, ho, resolve, invoke, builtin, hs, hx, hr, Result.andThen]
  refine h v' w' ⟨by rw [List.length_append, tcel_snoc]; exact h2, fun y hy => ?_, Below.grown hown.kp h3 hown.kp.size (fun k hk => ((row_frc hown.owns).2 k hk).1)⟩ h3 h5
  rcases List.mem_append.1 hy with hy | hy
  · exact hown.ok y hy
  · obtain rfl : y = k := by simpa using hy
    exact hf
theorem step_bldT {wx : World} {ops : Array Oper} {o : Oper} {a : Act} {K : Act → World → Prop} {Q : Exit → Act → World → Prop} {E : Prop} (hgd : o.guard = none) (k j : Tmp)
    (ho : o.op = .buildSlice 23 1 #[(0, .tmp j)]) (hdst : o.dst = some k) {u : ByteArray} (hx : a.eval (.tmp j) = .string u)
    (h : ∀ w', w' = wx.alloc (.cells #[.string u] 9) → K (a.put (some k) (.slice (some ⟨wx.heap.size, 0, none⟩) 1 1)) w') :
    if Region.wanted o (yielded ops a.tmps) = true then Oper.wp Try.prog o a wx K Q else E := by
  have hw : Region.wanted o (yielded ops a.tmps) = true := by simp [Region.wanted, hgd]
  rw [if_pos hw]
  have hP := h _ rfl
  unfold Oper.wp
  have hx' : a.tmps[j]?.getD undef = .string u := by simpa [Act.eval] using hx
  simp [execOp, ho, resolve, hdst, hx', go_sem, Result.andThen]
  exact hP
end By
end Go.Proofs.Ytlfoikjbbbhbdaa
