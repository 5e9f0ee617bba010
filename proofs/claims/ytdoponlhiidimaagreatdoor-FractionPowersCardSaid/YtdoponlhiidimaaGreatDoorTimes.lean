/- The product of two fractions, or its error. Conditions: the slices hold the numbers that are named, of at most 128 limbs, and no denominator is 0. -/
import Derived.Test.YtdoponlhiidimaaGreatDoorMCa
import Derived.Deep.RegionHeld3
namespace Go.Proofs.YtdoponlhiidimaaGreatDoor
open Go.RowKit LimbN
set_option linter.unusedVariables false
set_option linter.unusedSimpArgs false

theorem kp_le {w w' : World} (h : Kp w w') : w.heap.size ≤ w'.heap.size := h.size
theorem Two.other {w w' : World} {g g' : Nat} {t : TypeId} {x y : Value} (h : Two w g t x y) (ho : Only g' w w') (hne : g ≠ g') : Two w' g t x y := ⟨(ho.block g hne).trans h.blk⟩
theorem Two.more {w : World} {g : Nat} {t : TypeId} {x y : Value} (h : Two w g t x y) (o : Obj) : Two (w.alloc o) g t x y := h.keep (Kp.alloc (Kp.refl w) o)
theorem Two.drew {w : World} {g : Nat} {t : TypeId} {x y : Value} (h : Two w g t x y) : Two w.drew g t x y := h.drewN 1
theorem Two.new1 (w : World) (t : TypeId) (x y : Value) (o : Obj) : Two ((w.alloc o).alloc (.cells #[x, y] t (0, 0))) (w.heap.size + 1) t x y := by
  have := Two.new (w.alloc o) t x y
  simpa using this
/-- A store of a struct of two cells, as a step of a region. -/
theorem step_put {wx : World} {ops : Array Oper} {o : Oper} {a : Act} {K : Act → World → Prop} {Q : Exit → Act → World → Prop} {E : Prop} (hgd : o.guard = none) (d s : Tmp)
    (ho : o.op = .store 26 (.tmp d) (.tmp s)) (hdst : o.dst = none) {g : Nat} {x y : Value} {uo vo : Option Addr} {un uc vn vc : Nat} (hd : a.eval (.tmp d) = .pointer (some ⟨g, 0, none⟩)) (hs : a.eval (.tmp s) = .agg #[.slice uo un uc, .slice vo vn vc]) (ht : Two wx g 26 x y)
    (h : ∀ w', Put wx w' g 26 (.slice uo un uc) (.slice vo vn vc) → K a w') :
    if Region.wanted o (yielded ops a.tmps) = true then Oper.wp Tryz.prog o a wx K Q else E := by
  have hw : Region.wanted o (yielded ops a.tmps) = true := by simp [Region.wanted, hgd]
  rw [if_pos hw]
  have f0 := ht.free 0
  have c0 := ht.c0
  have f1 := (ht.set0 (.slice uo un uc)).free 1
  have c1 := (ht.set0 (.slice uo un uc)).c1
  have hP := h _ (Put.made ht (.slice uo un uc) (.slice vo vn vc))
  unfold Oper.wp
  simp only [Act.eval] at hd hs
  simp [execOp, ho, resolve, hd, hs, hdst, go_sem, f0, c0, f1, c1, Result.andThen]
  exact hP
/-- New memory for a struct of two slices, as a step of a region. -/
theorem step_new {wx : World} {ops : Array Oper} {o : Oper} {a : Act} {K : Act → World → Prop} {Q : Exit → Act → World → Prop} {E : Prop} (hgd : o.guard = none) (k : Tmp)
    (ho : o.op = .alloc 26) (hdst : o.dst = some k)
    (h : ∀ w' g, Kp wx w' → Two w' g 26 (.slice none 0 0) (.slice none 0 0) → wx.heap.size ≤ g → g < w'.heap.size → K (a.put (some k) (.pointer (some ⟨g, 0, none⟩))) w') :
    if Region.wanted o (yielded ops a.tmps) = true then Oper.wp Tryz.prog o a wx K Q else E := by
  have hw : Region.wanted o (yielded ops a.tmps) = true := by simp [Region.wanted, hgd]
  rw [if_pos hw]
  have hP := h _ _ (Kp.alloc (Kp.refl wx) _) (Two.new wx 26 _ _) (Nat.le_refl _) (by simp)
  unfold Oper.wp
  simp [execOp, ho, resolve, hdst, go_sem, Result.andThen]
  exact hP
theorem Sl.put2 {wq W w6 w7 : World} {v : Value} {xs : List Nat} {g6 g7 B : Nat} (h : Sl wq v xs) (hn : New B v) (ho6 : Only g6 W w6) (ho7 : Only g7 w6 w7) (hk : Kp wq W) (c6 : g6 < B ∨ wq.heap.size ≤ g6) (c7 : g7 < B ∨ wq.heap.size ≤ g7) : Sl w7 v xs := by
  have o : ∀ g, (g < B ∨ wq.heap.size ≤ g) → Off g v xs := fun g c => by
    rcases c with c | c
    · exact hn.offs c xs
    · exact h.off c
  exact ((h.keep hk).only ho6 (o _ c6)).only ho7 (o _ c7)
/-- The error of a fraction's size, and the fraction. -/
def fitE (N D : Nat) : Int := firstE (lenE N) (lenE D)
def fitP (N D : Nat) : Nat × Nat := (orNil (fitE N D) (lenV N), orNil (fitE N D) (lenV D))
theorem fitE_ok {N D : Nat} (h1 : (limbs N).length ≤ 128) (h2 : (limbs D).length ≤ 128) : fitE N D = 0 := by unfold fitE; rw [lenE_ok h1, lenE_ok h2]; rfl
theorem fitP_ok {N D : Nat} (h1 : (limbs N).length ≤ 128) (h2 : (limbs D).length ≤ 128) : fitP N D = (N, D) := by unfold fitP orNil; rw [fitE_ok h1 h2, if_pos rfl, if_pos rfl, lenV_ok h1, lenV_ok h2]
end Go.Proofs.YtdoponlhiidimaaGreatDoor
