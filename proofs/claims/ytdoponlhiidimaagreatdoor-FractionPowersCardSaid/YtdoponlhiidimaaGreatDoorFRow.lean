/- An argument that is a slice of integers. No condition. -/
import Derived.Test.YtdoponlhiidimaaGreatDoorMTp
import Derived.Test.YtdoponlhiidimaaGreatDoorRow
namespace Go.Proofs.YtdoponlhiidimaaGreatDoor
open Go.RowKit Go.ChangeShapes Go.WideShapes LimbN
set_option linter.unusedVariables false
set_option linter.unusedSimpArgs false

theorem cellsI : Tryz.prog.cellsOf 3 = 1 := by kernel_rfl
theorem bytesI : Tryz.prog.bytesOf 3 = 8 := by kernel_rfl
set_option maxRecDepth 100000 in
/-- An argument that is a slice of integers. -/
theorem sli_open {H : Type} {enc : TypeId × Value → H} {W : World} {b0 : Nat} {r : Reach} {t : TypeId} {v : Value} {d : DataW H} {ps : List MemPlace} (ht : Tryz.prog.underlying t = some (.slice 3))
    (hval : Value.okWide Tryz.prog W r b0 t v) (hd : DataW.Trod enc Tryz.prog W 0 (fun _ => true) true t v d ps)
    (hz : ∀ e s, d = .slice e s → (e.length + s.length) * Tryz.prog.bytesOf 3 ≤ reachBytes) : ∃ zs, SlI W v zs := by
  obtain ⟨a0, l0, c0, rfl⟩ := Go.WideShapes.okWide_slice (P := Tryz.prog) (e := 3) ht hval
  obtain ⟨fuel, hf⟩ := hd
  rcases open_ints ht Tryz.underlying3 cellsI hf with ⟨e, -⟩ | ⟨a, len, cap, zs, e, -, hl, hm, hzl, ex, hc, hw⟩
  · simp only [Value.cells, List.cons.injEq, Value.slice.injEq, and_true] at e
    obtain ⟨rfl, rfl, rfl⟩ := e
    exact ⟨[], ⟨none, 0, rfl, Nat.le_refl _, Nat.zero_le _, .inl rfl⟩, fun i => by simp, by simp⟩
  · simp only [Value.cells, List.cons.injEq, Value.slice.injEq, and_true] at e
    obtain ⟨rfl, rfl, rfl⟩ := e
    simp only [if_true] at hzl
    have hd : d = .slice (lits .i64 (zs.take l0)) (lits .i64 (zs.drop l0)) := congrArg Prod.fst ex
    have h4 := hz _ _ hd
    rw [bytesI] at h4
    have hlen : (lits (H := H) .i64 (zs.take l0)).length + (lits (H := H) .i64 (zs.drop l0)).length = zs.length := by
      simp [lits]; omega
    rw [hlen] at h4
    unfold reachBytes at h4
    have hn : (zs.take l0).length = l0 := by simp; omega
    refine ⟨zs.take l0, ⟨some a, c0, by rw [hn], by omega, hm, ?_⟩, ?_, by omega⟩
    · by_cases h0 : l0 = 0
      · subst h0; exact .inl (by simp)
      · obtain ⟨b, off, spot⟩ := a
        have hs : spot = none := by
          have h1 := hc 0 (by omega)
          unfold Addr.add at h1
          rw [if_pos rfl] at h1
          unfold World.cell? at h1
          split at h1
          · cases spot with
            | none => rfl
            | some s => simp at h1
          · simp at h1
        subst hs
        refine .inr ⟨b, off, rfl, fun i hi => ?_⟩
        rw [hn] at hi
        have h1 := hc i (by omega)
        have h2 : (⟨b, off, none⟩ : Addr).add i = ⟨b, off + i, none⟩ := by
          unfold Addr.add
          by_cases hi0 : i = 0
          · subst hi0; rfl
          · rw [if_neg hi0]
        rw [h2] at h1
        rw [h1]
        have hi' : i < zs.length := by omega
        have e1 : zs.getD i 0 = zs[i] := by simp [List.getD, hi']
        have e2 : (List.take l0 zs)[i]?.getD 0 = zs[i] := by simp [hi, List.getElem?_eq_getElem hi']
        rw [e1, e2]
    · intro x
      by_cases hx : x < (zs.take l0).length
      · rw [List.getElem?_eq_getElem hx, Option.getD_some]
        exact bounds_i64 (hw _ (List.mem_of_mem_take (List.getElem_mem hx)))
      · rw [List.getElem?_eq_none (by omega)]; decide
end Go.Proofs.YtdoponlhiidimaaGreatDoor
