/- A row of files that is the call's own, changed in place; the builtin copy within it. No condition. -/
import Derived.Test.YtfobogcccbddbaaGreatDoorZba
import Derived.Test.YtfobogcccbddbaaGreatDoorZak
import Derived.Deep.QuietTactic
import Derived.Deep.RegionWith
import Derived.BigQuiet
namespace Go.Proofs.YtfobogcccbddbaaGreatDoor
namespace By
open Go.RowKit WireN LexN RevN FdN
set_option linter.unusedVariables false
set_option linter.unusedSimpArgs false

def FlOk (f : Fl) : Prop := (Lt f.1 ∧ Lt f.2) ∧ (f.1.length ≤ maxLen ∧ f.2.length ≤ maxLen)
theorem fcel_app2 (fs gs : List Fl) : fcel (fs ++ gs) = fcel fs ++ fcel gs := by
  induction fs with
  | nil => rfl
  | cons f fs ih => show _ :: _ :: fcel (fs ++ gs) = _; rw [ih]; rfl
theorem fcel_set : ∀ (fs : List Fl) (i : Nat) (x : Fl), i < fs.length → ((fcel fs).set (i * 2) (.string (st x.1))).set (i * 2 + 1) (.string (st x.2)) = fcel (fs.set i x)
  | [], i, x, h => by simp at h
  | y :: fs, 0, x, _ => by simp [fcel]
  | y :: fs, i + 1, x, h => by
    have ih := fcel_set fs i x (by simpa using h)
    rw [show (i + 1) * 2 = i * 2 + 1 + 1 by omega]
    have e : ∀ (l : List Fl), fcel (y :: l) = .string (st y.1) :: .string (st y.2) :: fcel l := fun l => rfl
    rw [List.set_cons_succ, e, e, ← ih]
    simp only [List.set_cons_succ, Nat.add_assoc, Nat.reduceAdd]
/-- A row of one's own with its capacity. -/
def RFc (w : World) (g c : Nat) (fs : List Fl) : Prop := ∃ rest : List Value, Blk w g 53 (fcel fs ++ rest).toArray ∧ (fcel fs).length + rest.length = c * 2
theorem RFc.cell {w : World} {g c : Nat} {fs : List Fl} (h : RFc w g c fs) {j : Nat} {x : Fl} (hx : fs[j]? = some x) : w.cell? ⟨g, j * 2, none⟩ = some (.string (st x.1)) ∧ w.cell? ⟨g, j * 2 + 1, none⟩ = some (.string (st x.2)) := by
  obtain ⟨rest, hb, -⟩ := h
  obtain ⟨c0, c1⟩ := fcel_at fs j x hx
  have e : ∀ (i : Nat) (v : Value), (fcel fs)[i]? = some v → (fcel fs ++ rest).toArray[i]? = some v := by
    intro i v hv
    have hi := (List.getElem?_eq_some_iff.1 hv).1
    simp only [List.getElem?_toArray]
    rw [List.getElem?_append_left hi]
    exact hv
  exact ⟨hb.cell _ (e _ _ c0), hb.cell _ (e _ _ c1)⟩
theorem RFc.free {w : World} {g c : Nat} {fs : List Fl} (h : RFc w g c fs) (i : Nat) : w.frozen? ⟨g, i, none⟩ = false := by
  obtain ⟨rest, hb, -⟩ := h
  exact hb.free i
theorem RFc.keep {w w' : World} {g c : Nat} {fs : List Fl} (h : RFc w g c fs) (hk : Kp w w') : RFc w' g c fs := by
  obtain ⟨rest, hb, h2⟩ := h
  exact ⟨rest, hb.keep hk, h2⟩
theorem RFc.other {w w' : World} {g c r : Nat} {fs : List Fl} (h : RFc w g c fs) (ho : Only r w w') (hne : g ≠ r) : RFc w' g c fs := by
  obtain ⟨rest, hb, h2⟩ := h
  exact ⟨rest, hb.other ho hne, h2⟩
theorem RFc.put {w : World} {g c : Nat} {fs : List Fl} (h : RFc w g c fs) {i : Nat} (hi : i < fs.length) (x : Fl) :
    RFc ((w.setCell ⟨g, i * 2, none⟩ (.string (st x.1))).setCell ⟨g, i * 2 + 1, none⟩ (.string (st x.2))) g c (fs.set i x) := by
  obtain ⟨rest, hb, h2⟩ := h
  refine ⟨rest, ?_, by rw [fcel_len, List.length_set, ← fcel_len]; exact h2⟩
  have := (hb.set (i * 2) (.string (st x.1))).set (i * 2 + 1) (.string (st x.2))
  have hl := fcel_len fs
  have e : ((fcel fs ++ rest).toArray.setIfInBounds (i * 2) (.string (st x.1))).setIfInBounds (i * 2 + 1) (.string (st x.2)) = (fcel (fs.set i x) ++ rest).toArray := by
    rw [← fcel_set fs i x hi]
    simp only [List.setIfInBounds_toArray]
    rw [List.set_append_left _ _ (by omega), List.set_append_left _ _ (by simp; omega)]
  rw [← e]
  exact this
theorem RFc.own {w W : World} {g c n : Nat} {fs : List Fl} (h : RFc W g c fs) (hn : fs.length = n) (hnc : n ≤ c) (hc : c ≤ maxLen) (hg : w.heap.size ≤ g) (hk : Kp w W) (hok : ∀ x ∈ fs, FlOk x) : OwF w W (.slice (some ⟨g, 0, none⟩) n c) fs := by
  subst hn
  obtain ⟨rest, hb, h2⟩ := h
  have hl := fcel_len fs
  refine ⟨⟨by omega, .inr ⟨g, c, _, rfl, hg, hb, hnc, hc, by simp only [List.size_toArray, List.length_append]; exact h2, ?_⟩⟩, fun x hx => (hok x hx).1, fun x hx => (hok x hx).2, hk⟩
  show (fcel fs ++ rest).take _ = _
  rw [show fs.length * 2 = (fcel fs).length by omega]
  exact List.take_left
theorem OwF.rfc {w wr : World} {v : Value} {fs : List Fl} (h : OwF w wr v fs) (hn : 0 < fs.length) : ∃ g c, v = .slice (some ⟨g, 0, none⟩) fs.length c ∧ w.heap.size ≤ g ∧ fs.length ≤ c ∧ c ≤ maxLen ∧ RFc wr g c fs := by
  rcases h.owns.2 with ⟨_, h0⟩ | ⟨g, cap, cur, rfl, hb, hg, hnc, hcm, hsz, htake⟩
  · omega
  · have hl := fcel_len fs
    have h3 : fcel fs = cur.toList.take (fcel fs).length := by
      rw [hl, Nat.mul_comm]
      exact htake.symm
    refine ⟨g, cap, rfl, hb, hnc, hcm, cur.toList.drop (fcel fs).length, ?_, ?_⟩
    · have e : (fcel fs ++ cur.toList.drop (fcel fs).length).toArray = cur := by
        conv => lhs; arg 1; lhs; rw [h3]
        rw [List.take_append_drop, Array.toArray_toList]
      rw [e]
      exact hg
    · have e3 : cur.toList.length = cur.size := rfl
      have e4 := congrArg List.length h3
      rw [List.length_take] at e4
      rw [List.length_drop]
      omega
theorem fcel_one : ∀ (fs : List Fl), ∀ u ∈ fcel fs, u.oneCell' = true := by
  intro fs u hu
  induction fs with
  | nil => simp [fcel] at hu
  | cons y l ih =>
    have hu : u = .string (st y.1) ∨ u = .string (st y.2) ∨ u ∈ fcel l := by simpa [fcel] using hu
    rcases hu with rfl | rfl | hu
    · rfl
    · rfl
    · exact ih hu
theorem fcel_news {w : World} {b off : Nat} : ∀ {rs : List Fl} , (∀ (j : Nat) (x : Fl), rs[j]? = some x → w.cell? ⟨b, off + j * 2, none⟩ = some (.string (st x.1)) ∧ w.cell? ⟨b, off + j * 2 + 1, none⟩ = some (.string (st x.2))) → ∀ (j : Nat) (u : Value), (fcel rs)[j]? = some u → w.cell? ((⟨b, off, none⟩ : Addr).add j) = some u := by
  intro rs h j u hu
  have hl := fcel_len rs
  have hj : j < (fcel rs).length := (List.getElem?_eq_some_iff.1 hu).1
  obtain ⟨x, hx⟩ : ∃ x, rs[j / 2]? = some x := ⟨_, List.getElem?_eq_getElem (by omega)⟩
  obtain ⟨c0, c1⟩ := h _ x hx
  obtain ⟨d0, d1⟩ := fcel_at rs _ x hx
  rw [Addr.add_lit]
  obtain e | e : j = j / 2 * 2 ∨ j = j / 2 * 2 + 1 := by omega
  · rw [e] at hu
    rw [d0] at hu
    injection hu with hu
    rw [e, ← hu]
    exact c0
  · rw [e] at hu
    rw [d1] at hu
    injection hu with hu
    rw [e, ← hu]
    exact c1
/-- The builtin copy within such a row: all files from i on move up by one. -/
theorem shift_f {W : World} {g c i N : Nat} {zs : List Fl} (h : RFc W g c zs) (hN : zs.length = N) (hi : i + 1 < N) (hNc : N ≤ c) :
    ∃ (W' : World) (k : Nat), (∀ ty, (Builtin.copy_ #[23, 23] ty #[.slice (some ⟨g, (i + 1) * 2, none⟩) (N - (i + 1)) (c - (i + 1)), .slice (some ⟨g, i * 2, none⟩) (N - i) (c - i)]).run Tryz.prog W = .ok (goInt k) W') ∧
      RFc W' g c (zs.take (i + 1) ++ (zs.drop i).take (N - (i + 1))) ∧ Only g W W' := by
  have hcell : ∀ {j : Nat} {x : Fl}, zs[j]? = some x → _ := fun {j x} hx => h.cell (j := j) (x := x) hx
  obtain ⟨rest, hb, h2⟩ := h
  obtain ⟨ys, hys⟩ : ∃ ys, ys = (zs.drop i).take (N - (i + 1)) := ⟨_, rfl⟩
  have hyl : ys.length = N - (i + 1) := by rw [hys, List.length_take, List.length_drop]; omega
  rw [← hys]
  have hzl := fcel_len zs
  have hyk := fcel_len ys
  have hsrc : ∀ j v, (fcel ys)[j]? = some v → W.cell? ((⟨g, i * 2, none⟩ : Addr).add j) = some v := by
    refine fcel_news fun j x hx => ?_
    have hj : j < ys.length := (List.getElem?_eq_some_iff.1 hx).1
    have hz : zs[i + j]? = some x := by
      rw [hys, List.getElem?_take, if_pos (by omega), List.getElem?_drop] at hx
      exact hx
    have := hcell hz
    rwa [show (i + j) * 2 = i * 2 + j * 2 by omega] at this
  have hl := run_loadCells_list (P := Tryz.prog) W ⟨g, i * 2, none⟩ (fcel ys) hsrc
  have hfit : (i + 1) * 2 + 0 + (fcel ys).length ≤ (fcel zs ++ rest).toArray.size := by simp only [List.size_toArray, List.length_append]; omega
  have hst := run_storeCells_at Tryz.prog g ((i + 1) * 2) 53 (fcel ys) 0 (fcel zs ++ rest).toArray W hb hfit (fcel_one ys)
  obtain ⟨inf, hi1, hi2, hi3, hi4⟩ := info_parts infoFile
  have hmin : Nat.min (N - i) (N - (i + 1)) = N - (i + 1) := Nat.min_eq_right (by omega)
  have hln : (fcel ys).length = (N - (i + 1)) * 2 := by omega
  rw [hln] at hl
  refine ⟨W.setRow g ((fcel zs ++ rest).toArray.toList.take ((i + 1) * 2 + 0) ++ fcel ys ++ (fcel zs ++ rest).toArray.toList.drop ((i + 1) * 2 + 0 + (fcel ys).length)).toArray, N - (i + 1), fun ty => ?_, ?_, ?_⟩
  rotate_left
  · refine ⟨rest, ?_, ?_⟩
    rotate_left
    · have := fcel_len (zs.take (i + 1) ++ ys)
      rw [List.length_append, List.length_take] at this
      omega
    · have e : ((fcel zs ++ rest).toArray.toList.take ((i + 1) * 2 + 0) ++ fcel ys ++ (fcel zs ++ rest).toArray.toList.drop ((i + 1) * 2 + 0 + (fcel ys).length)) = fcel (zs.take (i + 1) ++ ys) ++ rest := by
        rw [fcel_app2]
        show (fcel zs ++ rest).take ((i + 1) * 2 + 0) ++ fcel ys ++ (fcel zs ++ rest).drop ((i + 1) * 2 + 0 + (fcel ys).length) = _
        have e1 : (fcel zs ++ rest).take ((i + 1) * 2 + 0) = fcel (zs.take (i + 1)) := by
          conv => lhs; arg 2; arg 1; rw [← List.take_append_drop (i + 1) zs]
          rw [fcel_app2, List.append_assoc]
          have hk := fcel_len (zs.take (i + 1))
          rw [List.length_take] at hk
          rw [show (i + 1) * 2 + 0 = (fcel (zs.take (i + 1))).length by omega]
          exact List.take_left
        have e2 : (fcel zs ++ rest).drop ((i + 1) * 2 + 0 + (fcel ys).length) = rest := by
          rw [show (i + 1) * 2 + 0 + (fcel ys).length = (fcel zs).length by omega]
          exact List.drop_left
        rw [e1, e2]
      rw [← e]
      exact setRow_heap W g _ _ _ _ hb
  · exact ⟨rfl, rfl, rfl, by simp, fun b hne => setRow_other W g b _ hne⟩
  · simp [Builtin.copy_, run_underlying Tryz.underlying23, Builtin.lenOf, Builtin.firstCells, sizeOf, typeInfo, hi1, hi3, hmin, hl, hst]
end By
end Go.Proofs.YtfobogcccbddbaaGreatDoor
