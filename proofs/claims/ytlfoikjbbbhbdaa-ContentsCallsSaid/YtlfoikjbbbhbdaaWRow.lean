/- What every row of this seat needs: an argument that reads as a slice of bytes is one, a law that only reads leaves its arguments. No condition. -/
import Derived.Test.YtlfoikjbbbhbdaaWTape
import Derived.ProofKit
import Derived.OpenShut
import Derived.SizedLaws
import Derived.Carry
import Derived.LaidSub
import Derived.Lay
import Derived.Deep.DeepHandedRow
namespace Go.Proofs.Ytlfoikjbbbhbdaa
namespace By
open Go.RowKit Go.ChangeShapes Go.WideShapes WireN
set_option linter.unusedVariables false
set_option linter.unusedSimpArgs false

theorem own : ownKnob Try.prog.godebug = none := by kernel_rfl
theorem laidOut : laidOutB Try.prog = true := by kernel_rfl
theorem cells8 : Try.prog.cellsOf 5 = 1 := by kernel_rfl
theorem bytes8 : Try.prog.bytesOf 5 = 1 := by kernel_rfl

set_option maxRecDepth 100000 in
/-- An argument that is a slice of bytes. -/
theorem sl_open {H : Type} {enc : TypeId × Value → H} {W : World} {b0 : Nat} {r : Reach} {t : TypeId} {v : Value} {d : DataW H} {ps : List MemPlace} (ht : Try.prog.underlying t = some (.slice 5))
    (hval : Value.okWide Try.prog W r b0 t v) (hd : DataW.Trod enc Try.prog W 0 (fun _ => true) true t v d ps)
    (hz : ∀ e s, d = .slice e s → (e.length + s.length) * Try.prog.bytesOf 5 ≤ reachBytes) : ∃ xs, Sl W v xs := by
  obtain ⟨a0, l0, c0, rfl⟩ := Go.WideShapes.okWide_slice (P := Try.prog) (e := 5) ht hval
  obtain ⟨fuel, hf⟩ := hd
  rcases open_ints ht Try.underlying5 cells8 hf with ⟨e, -⟩ | ⟨a, len, cap, zs, e, -, hl, hm, hzl, ex, hc, hw⟩
  · simp only [Value.cells, List.cons.injEq, Value.slice.injEq, and_true] at e
    obtain ⟨rfl, rfl, rfl⟩ := e
    exact ⟨[], Sl.nil W⟩
  · simp only [Value.cells, List.cons.injEq, Value.slice.injEq, and_true] at e
    obtain ⟨rfl, rfl, rfl⟩ := e
    simp only [if_true] at hzl
    have hd : d = .slice (lits .u8 (zs.take l0)) (lits .u8 (zs.drop l0)) := congrArg Prod.fst ex
    have h4 := hz _ _ hd
    rw [bytes8] at h4
    have hlen : (lits (H := H) .u8 (zs.take l0)).length + (lits (H := H) .u8 (zs.drop l0)).length = zs.length := by
      simp [lits]; omega
    rw [hlen] at h4
    unfold reachBytes at h4
    have hn : ((zs.take l0).map Int.toNat).length = l0 := by simp; omega
    refine ⟨(zs.take l0).map Int.toNat, ⟨some a, c0, by rw [hn], by omega, hm, ?_, fun h => by simp at h⟩, ?_, by omega⟩
    · by_cases h0 : l0 = 0
      · subst h0; exact .inl (by simp)
      · obtain ⟨b, off, spot⟩ := a
        have hs : spot = none := by
          have h1 := hc 0 (by omega)
          unfold Addr.add at h1
          rw [if_pos rfl] at h1
          unfold World.cell? at h1
          split at h1
          · cases spot with
            | none => rfl
            | some s => simp at h1
          · simp at h1
        subst hs
        refine .inr ⟨b, off, rfl, fun i hi => ?_⟩
        rw [hn] at hi
        have h1 := hc i (by omega)
        have h2 : (⟨b, off, none⟩ : Addr).add i = ⟨b, off + i, none⟩ := by
          unfold Addr.add
          by_cases hi0 : i = 0
          · subst hi0; rfl
          · rw [if_neg hi0]
        rw [h2] at h1
        rw [h1]
        have hi' : i < zs.length := by omega
        have hb := bounds_u8 (hw (zs[i]) (List.getElem_mem hi'))
        have e1 : zs.getD i 0 = zs[i] := by simp [List.getD, hi']
        have e2 : (List.map Int.toNat (List.take l0 zs))[i]?.getD 0 = (zs[i]).toNat := by
          simp [hi, List.getElem?_eq_getElem hi']
        rw [e1, e2, Int.toNat_of_nonneg hb.1]
    · intro x
      by_cases hx : x < ((zs.take l0).map Int.toNat).length
      · rw [List.getElem?_eq_getElem hx, Option.getD_some]
        obtain ⟨z, hz, hzx⟩ := List.mem_map.1 (List.getElem_mem hx)
        rw [← hzx]
        have hb := bounds_u8 (hw z (List.mem_of_mem_take hz))
        omega
      · rw [List.getElem?_eq_none (by omega)]; decide

theorem cellsI : Try.prog.cellsOf 3 = 1 := by kernel_rfl
theorem bytesI : Try.prog.bytesOf 3 = 8 := by kernel_rfl
set_option maxRecDepth 100000 in
/-- An argument that is a slice of integers. -/
theorem sli_open {H : Type} {enc : TypeId × Value → H} {W : World} {b0 : Nat} {r : Reach} {t : TypeId} {v : Value} {d : DataW H} {ps : List MemPlace} (ht : Try.prog.underlying t = some (.slice 3))
    (hval : Value.okWide Try.prog W r b0 t v) (hd : DataW.Trod enc Try.prog W 0 (fun _ => true) true t v d ps)
    (hz : ∀ e s, d = .slice e s → (e.length + s.length) * Try.prog.bytesOf 3 ≤ reachBytes) : ∃ zs, SlI W v zs := by
  obtain ⟨a0, l0, c0, rfl⟩ := Go.WideShapes.okWide_slice (P := Try.prog) (e := 3) ht hval
  obtain ⟨fuel, hf⟩ := hd
  rcases open_ints ht Try.underlying3 cellsI hf with ⟨e, -⟩ | ⟨a, len, cap, zs, e, -, hl, hm, hzl, ex, hc, hw⟩
  · simp only [Value.cells, List.cons.injEq, Value.slice.injEq, and_true] at e
    obtain ⟨rfl, rfl, rfl⟩ := e
    exact ⟨[], ⟨none, 0, rfl, Nat.le_refl _, Nat.zero_le _, .inl rfl⟩, fun i => by simp, by simp⟩
  · simp only [Value.cells, List.cons.injEq, Value.slice.injEq, and_true] at e
    obtain ⟨rfl, rfl, rfl⟩ := e
    simp only [if_true] at hzl
    have hd : d = .slice (lits .i64 (zs.take l0)) (lits .i64 (zs.drop l0)) := congrArg Prod.fst ex
    have h4 := hz _ _ hd
    rw [bytesI] at h4
    have hlen : (lits (H := H) .i64 (zs.take l0)).length + (lits (H := H) .i64 (zs.drop l0)).length = zs.length := by
      simp [lits]; omega
    rw [hlen] at h4
    unfold reachBytes at h4
    have hn : (zs.take l0).length = l0 := by simp; omega
    refine ⟨zs.take l0, ⟨some a, c0, by rw [hn], by omega, hm, ?_⟩, ?_, by omega⟩
    · by_cases h0 : l0 = 0
      · subst h0; exact .inl (by simp)
      · obtain ⟨b, off, spot⟩ := a
        have hs : spot = none := by
          have h1 := hc 0 (by omega)
          unfold Addr.add at h1
          rw [if_pos rfl] at h1
          unfold World.cell? at h1
          split at h1
          · cases spot with
            | none => rfl
            | some s => simp at h1
          · simp at h1
        subst hs
        refine .inr ⟨b, off, rfl, fun i hi => ?_⟩
        rw [hn] at hi
        have h1 := hc i (by omega)
        rw [Addr_add] at h1
        rw [h1]
        have hi' : i < zs.length := by omega
        have e1 : zs.getD i 0 = zs[i] := by simp [List.getD, hi']
        have e2 : (List.take l0 zs)[i]?.getD 0 = zs[i] := by simp [hi, List.getElem?_eq_getElem hi']
        rw [e1, e2]
    · intro x
      by_cases hx : x < (zs.take l0).length
      · rw [List.getElem?_eq_getElem hx, Option.getD_some]
        exact bounds_i64 (hw _ (List.mem_of_mem_take (List.getElem_mem hx)))
      · rw [List.getElem?_eq_none (by omega)]; decide

/-- Arguments that were there before read behind the call as they did. -/
theorem trodAll_stays {H : Type} {enc : TypeId × Value → H} {W W' : World} (hb : Kp W W') {sp : Nat → Bool} : ∀ {ts : List TypeId} {vs : List Value} {ds : List (DataW H)} {ps : List MemPlace},
    (∀ t ∈ ts, Try.prog.readableRec t = true ∧ t < Try.prog.types.size) → DataW.TrodAll enc Try.prog W 0 (fun _ => true) true ts vs ds ps → (∀ x ∈ ps, x.block < W.heap.size) → (∀ x ∈ ps, sp x.block = true) →
    DataW.TrodAll enc Try.prog W' 0 sp true ts vs ds ps
  | [], _, _, _, _, h, _, _ => by
    obtain ⟨rfl, rfl, rfl⟩ := trodAll_nil h
    exact trodAll_mk0
  | t :: ts, _, _, _, ht, h, hlt, hs => by
    obtain ⟨v, vs1, d, ds1, a, b, rfl, rfl, rfl, h1, h2⟩ := trodAll_cons h
    refine ⟨a, b, WideElems.Trod_stays laidOut (ht t (by simp)).1 (ht t (by simp)).2 h1 (fun x hx => hb.same (hlt x (by simp [hx]))) (fun x hx => hs x (by simp [hx])),
      trodAll_stays hb (fun t h => ht t (by simp [h])) h2 (fun x hx => hlt x (by simp [hx])) (fun x hx => hs x (by simp [hx])), rfl⟩

set_option maxRecDepth 100000 in
/-- A law that returns true and leaves what was there: its row's condition after the call. -/
theorem true_post {H : Type} {enc : TypeId × Value → H} {f : Func} {s : ChangeSpec} {apart fresh handsOn again : Bool} {W W' : World} {args : Array Value} {ds gs : List (DataW H)} {before : List MemPlace}
    (hW : DataW.Whole enc Try.prog f.params.toList s.vars apart W args.toList ds gs before) (hv : s.vars = []) (hr : f.resultTypes = #[4])
    (hs : (s.fn H (ds ++ gs)).results = [.lit (.bool true)]) (ha : (s.fn H (ds ++ gs)).args = ds) (hvs : (s.fn H (ds ++ gs)).vars = [])
    (ht : ∀ t ∈ f.params.toList, Try.prog.readableRec t = true ∧ t < Try.prog.types.size) (hb : Kp W W') :
    s.post enc Try.prog f apart fresh handsOn again W args (.bool true) W' := by
  have hlt : ∀ p ∈ before, p.block < W.heap.size := fun p hp => hW.lt p hp
  have hW' := hW
  obtain ⟨p, q, hA, hV, rfl, hz, hn⟩ := hW
  rw [hv] at hV
  obtain ⟨rfl, rfl⟩ := trodVars_none hV
  simp only [List.append_nil] at *
  have hres : ∀ (b : Nat) (sp : Nat → Bool) (hd : Bool), DataW.TrodAll enc Try.prog W' b sp hd f.resultTypes.toList ((Value.bool true).resultList f.resultTypes.size) (s.fn H ds).results [] := by
    intro b sp hd
    rw [hr, hs]
    exact trodAll_cons_mk (shut_bool Try.underlying4 _) trodAll_mk0
  have hargs : ∀ sp : Nat → Bool, (∀ x ∈ p, sp x.block = true) → DataW.TrodAll enc Try.prog W' 0 sp true f.params.toList args.toList (s.fn H ds).args p := by
    intro sp hsp
    rw [ha]
    exact trodAll_stays hb ht hA hlt hsp
  have hvars : ∀ sp : Nat → Bool, DataW.TrodVars enc Try.prog W' sp s.vars (s.fn H ds).vars [] := by
    intro sp
    rw [hv, hvs]
    exact rfl
  have hold : ∀ x ∈ p, (fun b => decide (b < W.heap.size)) x.block = true := fun x hx => by simpa using hlt x hx
  refine ⟨ds, [], p, [], p, [], hW', by simpa using hres _ _ _, by simpa using hargs _ hold, by simpa using hvars _, World.keptBut_mono (fun x hx => ⟨hx, ?_⟩) (hb.frame (· ∈ p)), fun _ => ?_⟩
  · simpa using hx
  · refine ⟨ok_one hr rfl (Go.RowKit.okWide_bool_mk (P := Try.prog) (t := 4) Try.underlying4 true), _, _, ([] ++ p) ++ [], ⟨[] ++ p, [], trodAll_append (hargs _ (fun _ _ => rfl)) (hres _ _ _), hvars _, rfl, ?_, ?_⟩, ?_⟩
    · intro b off hp
      have hin : MemPlace.cell b off ∈ p := by simpa using hp
      rw [hb.frozen (hlt _ hin)]
      exact hz b off hin
    · intro h
      simpa using hn h
    · intro x hx _
      simpa using hx
end By
end Go.Proofs.Ytlfoikjbbbhbdaa
