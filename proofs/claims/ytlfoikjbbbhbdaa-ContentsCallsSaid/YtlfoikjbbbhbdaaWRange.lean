/- A range over a function, opened: the loop's record is laid, and each yield is a round of the body. No condition. -/
import Derived.Test.YtlfoikjbbbhbdaaTape
import Derived.RangeFuncNested
import Derived.RangeFuncBound
import Derived.RangeFuncCalls
import Derived.RangeFuncLeaves
import Derived.RangeFuncBox
import Derived.RangeFuncFrom
import Derived.Shelf.Abstract
import Derived.Shelf.RegionOpen
import Derived.OwnWalkIn
import Derived.TacticsInMore
import Derived.LoopNIn
import Derived.LoopIn
namespace Go.Proofs.Ytlfoikjbbbhbdaa
namespace By
open Go.RowKit Go.Shelf WireN
set_option linter.unusedVariables false
set_option linter.unusedSimpArgs false
attribute [local go_sem] Oper.semAt_some

/-- The loop's record. -/
def recd (fn : FuncId) (tmps : Array Value) (ps : Array Tmp) (assign body : Code) (D : Nat) (st : LoopState) (pe : Option Code) : Loop := { state := st, pending := pe, fn, tmps := tmps, params := ps, assign, body, defers := D }
theorem range_begin {F : Fence} {P : Program} {g : Operand} {ps : Array Tmp} {assign body : Code} {Q : Exit → Act → World → Prop} {a : Act} {w : World} {n gf : Nat} {lb : Array Value} (hro : F.round = none) (hF : ∀ f, F.fn f) (h1 : 1 ≤ n)
    (hg : a.eval g = .func (.func gf) #[] lb) (eg : ∀ args w, (callFunc gf args).run P w = .ok (.enter gf args) w)
    (h : ∀ fn asg bdy tm, asg = assign → bdy = body → tm = a.tmps → CallsIn F (n - 1) P gf (#[.func (.yield (w.heap.size + 1)) #[] #[]] ++ lb) ((w.alloc (.deferred (some []))).alloc (.loop (recd fn tm ps asg bdy w.heap.size .ready none)))
      (rangePost F n P (w.heap.size + 1) Q { a with defers := [{ target := .collected w.heap.size, args := #[] }] ++ a.defers })) :
    (Code.rangeFunc g ps assign body).wpIn F n P Q a w := by
  refine wpIn_rangeFunc ?_
  intro fn hfn
  rw [hro]
  have hc := h fn assign body a.tmps rfl rfl rfl
  have he : (Instr.enterLoop fn a.tmps ps assign body none).run P w = .ok (w.heap.size + 1, [{ target := .collected w.heap.size, args := #[] }]) ((w.alloc (.deferred (some []))).alloc (.loop (recd fn a.tmps ps assign body w.heap.size .ready none)))  := by
    unfold recd
    exact run_enterLoop_outer fn a.tmps ps assign body
  obtain ⟨W1, hW1⟩ : ∃ W1, W1 = (w.alloc (.deferred (some []))).alloc (.loop (recd fn a.tmps ps assign body w.heap.size .ready none)) := ⟨_, rfl⟩
  rw [← hW1] at hc he
  refine ⟨w.heap.size + 1, [{ target := .collected w.heap.size, args := #[] }], W1, { target := .fn (.func gf) lb, args := #[.func (.yield (w.heap.size + 1)) #[] #[]] }, W1, gf,
    #[.func (.yield (w.heap.size + 1)) #[] #[]] ++ lb, W1, ?_, ?_, ?_, ?_, fun _ => h1, ?_⟩
  · exact he
  · simp only [resolve, hg]
    simp [go_sem]
  · intro f' _; exact hF f'
  · simp [invoke, go_sem, eg]
  · exact hc
theorem round_at {F : Fence} {P : Program} {l m : Nat} {fn : FuncId} {tmps : Array Value} {ps : Array Tmp} {assign body : Code} {D : Nat} {args : Array Value} {W : World} {R : Ending → World → Prop} (hF : ∀ f, F.fn f)
    (hl : W.heap[l]? = some (.loop (recd fn tmps ps assign body D .ready none))) (hs : args.size = ps.size)
    (h : assign.wpIn (F.inRound l) m P (Exit.then (fun a₁ w₁ => w₁.heap[l]? = some (.loop (recd fn tmps ps assign body D .ready none)) ∧
      body.wpIn (F.inRound l) m P (roundPost P l R) a₁ (w₁.putObj l (.loop (recd fn tmps ps assign body D .busy none)))) (fun _ _ _ => False))
      { tmps := (ps.zip args).foldl (fun t (p, v) => t.setIfInBounds p v) tmps, defers := [] } W) : YieldAt F m P l args W R := by
  refine ⟨fn, _, assign, body, run_yield hl hs, roundIn_of_wpIn (hF fn) (wpIn_mono h ?_)⟩
  intro e a₁ w₁ he
  cases e with
  | normal =>
    obtain ⟨hl1, hb⟩ := he
    exact ⟨_, run_beginRound hl1 rfl, hb⟩
  | _ => exact he
theorem round_at' {F : Fence} {P : Program} {l m : Nat} {fn : FuncId} {tmps tm : Array Value} {ps : Array Tmp} {assign body asg bdy : Code} {D : Nat} {args : Array Value} {W : World} {R : Ending → World → Prop} (ha : asg = assign) (hb : bdy = body) (ht : tm = tmps) (hF : ∀ f, F.fn f)
    (hl : W.heap[l]? = some (.loop (recd fn tm ps asg bdy D .ready none))) (hs : args.size = ps.size)
    (h : assign.wpIn (F.inRound l) m P (Exit.then (fun a₁ w₁ => w₁.heap[l]? = some (.loop (recd fn tm ps asg bdy D .ready none)) ∧
      body.wpIn (F.inRound l) m P (roundPost P l R) a₁ (w₁.putObj l (.loop (recd fn tm ps asg bdy D .busy none)))) (fun _ _ _ => False))
      { tmps := (ps.zip args).foldl (fun t (p, v) => t.setIfInBounds p v) tmps, defers := [] } W) : YieldAt F m P l args W R := by
  subst ha hb ht
  exact round_at hF hl hs h
end By
end Go.Proofs.Ytlfoikjbbbhbdaa
