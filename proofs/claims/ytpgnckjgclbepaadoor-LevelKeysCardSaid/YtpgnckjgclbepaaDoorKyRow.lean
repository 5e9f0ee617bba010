/- What each row of level needs: the table of levels, in memory. Condition: the listed tables hold what the row lists. -/
import Derived.Test.YtpgnckjgclbepaaDoorRowK
import Derived.Test.YtpgnckjgclbepaaDoorKyH
import Derived.LaidSub
import Derived.Lib.LaidTab
import Derived.OpenShut
import Derived.ChangeSame
namespace Go.Proofs.YtpgnckjgclbepaaDoor
namespace By
open Go.RowKit WireN LexN RevN KeyN
set_option linter.unusedVariables false
set_option linter.unusedSimpArgs false

/-- The table of levels as listed. -/
def coL : List (List Bool) := [[false, false, false, false], [false, false, true, true], [false, false, false, true], [false, false, false, false]]
theorem coL_data {H : Type} : (Rows.laid_testgate_level_coarser : DataW H) = .agg (coL.map fun r => .agg (r.map fun b => .lit (.bool b))) := rfl
set_option maxRecDepth 100000 in
theorem co_of {l : List (String × DataW Unit)} {W : World} (hf : (l.filter fun x => x.1 == "testgate/level.coarser") = [("testgate/level.coarser", Rows.laid_testgate_level_coarser)]) (h : laidMetH Tryd.prog l W) : CO W := by
  have h1 := h.filter (fun x => x.1 == "testgate/level.coarser")
  rw [hf] at h1
  have h2 : laidMet Tryd.prog (("testgate/level.coarser", Rows.laid_testgate_level_coarser) :: []) W := h1
  obtain ⟨ps, ⟨g', t', cs, fuel, p, q, hg', ht', hvar, hd, _, _⟩, _⟩ := h2
  have hg : Tryd.prog.globalNamed "testgate/level.coarser" = some 0 := by kernel_rfl
  have hty : (Tryd.prog.globals[0]?).map (·.type) = some 50 := by kernel_rfl
  obtain rfl := Option.some.inj (hg.symm.trans hg')
  obtain rfl := Option.some.inj (hty.symm.trans ht')
  have hce : Tryd.prog.cellsOf 49 = 4 := by kernel_rfl
  have hcb : Tryd.prog.cellsOf 4 = 1 := by kernel_rfl
  obtain ⟨xs, m, -, hx, hl, hxl, hat⟩ := DataW.trod_array Tryd.underlying50 hd
  rw [coL_data] at hx
  have hxm : coL.map (fun r => (DataW.agg (r.map fun b => .lit (.bool b)) : DataW Unit)) = xs.map (·.1) := by
    have := congrArg Prod.fst hx
    simpa using this
  have key : ∀ (k j : Nat) (r : List Bool) (b : Bool), coL[k]? = some r → r[j]? = some b → j < 4 → cs.toList[k * 4 + j]? = some (.bool b) := by
    intro k j r b hk hj hj4
    have hk4 : k < 4 := (List.getElem?_eq_some_iff.1 hk).1
    have h3 := hat k hk4
    rw [hce] at h3
    have h4 : (xs.map (·.1))[k]? = some (DataW.agg (r.map fun b => .lit (.bool b))) := by rw [← hxm, List.getElem?_map, hk]; rfl
    rw [List.getElem?_map] at h4
    obtain ⟨y, hy, hy1⟩ := Option.map_eq_some_iff.1 h4
    rw [hy] at h3
    obtain ⟨ys, m2, -, rfl, -, hyl, hat2⟩ := DataW.trod_array Tryd.underlying49 h3
    have h5 := hat2 j hj4
    rw [hcb] at h5
    simp only [DataW.agg.injEq] at hy1
    have h6 : (ys.map (·.1))[j]? = some (DataW.lit (.bool b)) := by rw [hy1, List.getElem?_map, hj]; rfl
    rw [List.getElem?_map] at h6
    obtain ⟨z, hz, hz1⟩ := Option.map_eq_some_iff.1 h6
    rw [hz] at h5
    obtain ⟨b', e, rfl⟩ := DataW.trod_bool Tryd.underlying4 h5
    simp only [DataW.lit.injEq, Lit.bool.injEq] at hz1
    subst hz1
    have e2 := congrArg (·[0]?) e
    simp only [List.getElem?_take, List.getElem?_drop] at e2
    simp at e2
    rw [Array.getElem?_toList]
    exact e2.2
  intro i v hv
  have hc := World.var?_cell hg hvar i
  rw [hc, ← Array.getElem?_toList]
  have hi : i < 16 := (List.getElem?_eq_some_iff.1 hv).1
  obtain rfl | rfl | rfl | rfl | rfl | rfl | rfl | rfl | rfl | rfl | rfl | rfl | rfl | rfl | rfl | rfl : i = 0 ∨ i = 1 ∨ i = 2 ∨ i = 3 ∨ i = 4 ∨ i = 5 ∨ i = 6 ∨ i = 7 ∨ i = 8 ∨ i = 9 ∨ i = 10 ∨ i = 11 ∨ i = 12 ∨ i = 13 ∨ i = 14 ∨ i = 15 := by omega
  · rw [← hv]; exact key 0 0 _ _ rfl rfl (by omega)
  · rw [← hv]; exact key 0 1 _ _ rfl rfl (by omega)
  · rw [← hv]; exact key 0 2 _ _ rfl rfl (by omega)
  · rw [← hv]; exact key 0 3 _ _ rfl rfl (by omega)
  · rw [← hv]; exact key 1 0 _ _ rfl rfl (by omega)
  · rw [← hv]; exact key 1 1 _ _ rfl rfl (by omega)
  · rw [← hv]; exact key 1 2 _ _ rfl rfl (by omega)
  · rw [← hv]; exact key 1 3 _ _ rfl rfl (by omega)
  · rw [← hv]; exact key 2 0 _ _ rfl rfl (by omega)
  · rw [← hv]; exact key 2 1 _ _ rfl rfl (by omega)
  · rw [← hv]; exact key 2 2 _ _ rfl rfl (by omega)
  · rw [← hv]; exact key 2 3 _ _ rfl rfl (by omega)
  · rw [← hv]; exact key 3 0 _ _ rfl rfl (by omega)
  · rw [← hv]; exact key 3 1 _ _ rfl rfl (by omega)
  · rw [← hv]; exact key 3 2 _ _ rfl rfl (by omega)
  · rw [← hv]; exact key 3 3 _ _ rfl rfl (by omega)
end By
end Go.Proofs.YtpgnckjgclbepaaDoor
