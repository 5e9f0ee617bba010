/- The reference's Insert of keys. Condition: at most a thousand keys. -/
import Derived.Test.YtpgnckjgclbepaaDoorKyV
namespace Go.Proofs.YtpgnckjgclbepaaDoor
namespace By
open Go.RowKit WireN LexN RevN KeyN
set_option linter.unusedVariables false
set_option linter.unusedSimpArgs false

/-- A row of one's own with its capacity. -/
def RKc (w : World) (g c : Nat) (ks : List Ky) : Prop := ∃ rest : List Value, Blk w g 29 (kcel ks ++ rest).toArray ∧ (kcel ks).length + rest.length = c * 3
theorem RKc.rk {w : World} {g c : Nat} {ks : List Ky} (h : RKc w g c ks) : RK w g ks := by
  obtain ⟨rest, h1, h2⟩ := h
  exact ⟨rest, h1⟩
theorem RKc.keep {w w' : World} {g c : Nat} {ks : List Ky} (h : RKc w g c ks) (hk : Kp w w') : RKc w' g c ks := by
  obtain ⟨rest, hb, h2⟩ := h
  exact ⟨rest, hb.keep hk, h2⟩
theorem RKc.put {w : World} {g c : Nat} {ks : List Ky} (h : RKc w g c ks) {i : Nat} (hi : i < ks.length) (x : Ky) :
    RKc (((w.setCell ⟨g, i * 3, none⟩ (.int .i64 x.1)).setCell ⟨g, i * 3 + 1, none⟩ (.string (st x.2.1))).setCell ⟨g, i * 3 + 2, none⟩ (.string (st x.2.2))) g c (ks.set i x) := by
  obtain ⟨rest, hb, h2⟩ := h
  refine ⟨rest, ?_, by rw [kcel_len, List.length_set, ← kcel_len]; exact h2⟩
  have := ((hb.set (i * 3) (.int .i64 x.1)).set (i * 3 + 1) (.string (st x.2.1))).set (i * 3 + 2) (.string (st x.2.2))
  have hl := kcel_len ks
  have e : (((kcel ks ++ rest).toArray.setIfInBounds (i * 3) (.int .i64 x.1)).setIfInBounds (i * 3 + 1) (.string (st x.2.1))).setIfInBounds (i * 3 + 2) (.string (st x.2.2)) = (kcel (ks.set i x) ++ rest).toArray := by
    rw [← kcel_set ks i x hi]
    simp only [List.setIfInBounds_toArray]
    rw [List.set_append_left _ _ (by omega), List.set_append_left _ _ (by simp; omega), List.set_append_left _ _ (by simp; omega)]
  rw [← e]
  exact this
theorem RKc.own {w W : World} {g c n : Nat} {ks : List Ky} (h : RKc W g c ks) (hn : ks.length = n) (hnc : n ≤ c) (hc : c ≤ maxLen) (hg : w.heap.size ≤ g) (hk : Kp w W) (hok : ∀ x ∈ ks, KyOk x) : OwK w W (.slice (some ⟨g, 0, none⟩) n c) ks := by
  subst hn
  obtain ⟨rest, hb, h2⟩ := h
  have hl := kcel_len ks
  refine ⟨⟨by omega, .inr ⟨g, c, _, rfl, hg, hb, hnc, hc, by simp only [List.size_toArray, List.length_append]; exact h2, ?_⟩⟩, hok, hk⟩
  show (kcel ks ++ rest).take _ = _
  rw [show ks.length * 3 = (kcel ks).length by omega]
  exact List.take_left
theorem OwK.rkc {w wr : World} {v : Value} {ks : List Ky} (h : OwK w wr v ks) (hn : 0 < ks.length) : ∃ g c, v = .slice (some ⟨g, 0, none⟩) ks.length c ∧ w.heap.size ≤ g ∧ ks.length ≤ c ∧ c ≤ maxLen ∧ RKc wr g c ks := by
  rcases h.owns.2 with ⟨_, h0⟩ | ⟨g, cap, cur, rfl, hb, hg, hnc, hcm, hsz, htake⟩
  · omega
  · have hl := kcel_len ks
    have h3 : kcel ks = cur.toList.take (kcel ks).length := by
      rw [hl, Nat.mul_comm]
      exact htake.symm
    refine ⟨g, cap, rfl, hb, hnc, hcm, cur.toList.drop (kcel ks).length, ?_, ?_⟩
    · have e : (kcel ks ++ cur.toList.drop (kcel ks).length).toArray = cur := by
        conv => lhs; arg 1; lhs; rw [h3]
        rw [List.take_append_drop, Array.toArray_toList]
      rw [e]
      exact hg
    · have e3 : cur.toList.length = cur.size := rfl
      have e4 := congrArg List.length h3
      rw [List.length_take] at e4
      rw [List.length_drop]
      omega
/-- The builtin copy within such a row: all keys from i on move up by one. -/
theorem shift_k {W : World} {g c i N : Nat} {zs : List Ky} (h : RKc W g c zs) (hN : zs.length = N) (hi : i + 1 < N) (hNc : N ≤ c) :
    ∃ (W' : World) (k : Nat), (∀ ty, (Builtin.copy_ #[23, 23] ty #[.slice (some ⟨g, (i + 1) * 3, none⟩) (N - (i + 1)) (c - (i + 1)), .slice (some ⟨g, i * 3, none⟩) (N - i) (c - i)]).run Tryd.prog W = .ok (goInt k) W') ∧
      RKc W' g c (zs.take (i + 1) ++ (zs.drop i).take (N - (i + 1))) ∧ Only g W W' := by
  obtain ⟨rest, hb, h2⟩ := h
  obtain ⟨ys, hys⟩ : ∃ ys, ys = (zs.drop i).take (N - (i + 1)) := ⟨_, rfl⟩
  have hyl : ys.length = N - (i + 1) := by rw [hys, List.length_take, List.length_drop]; omega
  rw [← hys]
  have hzl := kcel_len zs
  have hyk := kcel_len ys
  have hsrc : ∀ j v, (kcel ys)[j]? = some v → W.cell? ((⟨g, i * 3, none⟩ : Addr).add j) = some v := by
    refine kcel_news fun j x hx => ?_
    have hj : j < ys.length := (List.getElem?_eq_some_iff.1 hx).1
    have hz : zs[i + j]? = some x := by
      rw [hys, List.getElem?_take, if_pos (by omega), List.getElem?_drop] at hx
      exact hx
    have hr : RK W g zs := ⟨rest, hb⟩
    have := hr.cell hz
    rwa [show (i + j) * 3 = i * 3 + j * 3 by omega] at this
  have hl := run_loadCells_list (P := Tryd.prog) W ⟨g, i * 3, none⟩ (kcel ys) hsrc
  have hfit : (i + 1) * 3 + 0 + (kcel ys).length ≤ (kcel zs ++ rest).toArray.size := by simp only [List.size_toArray, List.length_append]; omega
  have hst := run_storeCells_at Tryd.prog g ((i + 1) * 3) 29 (kcel ys) 0 (kcel zs ++ rest).toArray W hb hfit (kcel_one ys)
  obtain ⟨inf, hi1, hi2, hi3, hi4⟩ := info_parts infoKey
  have hmin : Nat.min (N - i) (N - (i + 1)) = N - (i + 1) := Nat.min_eq_right (by omega)
  have hln : (kcel ys).length = (N - (i + 1)) * 3 := by omega
  rw [hln] at hl
  refine ⟨W.setRow g ((kcel zs ++ rest).toArray.toList.take ((i + 1) * 3 + 0) ++ kcel ys ++ (kcel zs ++ rest).toArray.toList.drop ((i + 1) * 3 + 0 + (kcel ys).length)).toArray, N - (i + 1), fun ty => ?_, ?_, ?_⟩
  rotate_left
  · refine ⟨rest, ?_, ?_⟩
    rotate_left
    · have := kcel_len (zs.take (i + 1) ++ ys)
      rw [List.length_append, List.length_take] at this
      omega
    · have e : ((kcel zs ++ rest).toArray.toList.take ((i + 1) * 3 + 0) ++ kcel ys ++ (kcel zs ++ rest).toArray.toList.drop ((i + 1) * 3 + 0 + (kcel ys).length)) = kcel (zs.take (i + 1) ++ ys) ++ rest := by
        rw [kcel_app]
        show (kcel zs ++ rest).take ((i + 1) * 3 + 0) ++ kcel ys ++ (kcel zs ++ rest).drop ((i + 1) * 3 + 0 + (kcel ys).length) = _
        have e1 : (kcel zs ++ rest).take ((i + 1) * 3 + 0) = kcel (zs.take (i + 1)) := by
          conv => lhs; arg 2; arg 1; rw [← List.take_append_drop (i + 1) zs]
          rw [kcel_app, List.append_assoc]
          have hk := kcel_len (zs.take (i + 1))
          rw [List.length_take] at hk
          rw [show (i + 1) * 3 + 0 = (kcel (zs.take (i + 1))).length by omega]
          exact List.take_left
        have e2 : (kcel zs ++ rest).drop ((i + 1) * 3 + 0 + (kcel ys).length) = rest := by
          rw [show (i + 1) * 3 + 0 + (kcel ys).length = (kcel zs).length by omega]
          exact List.drop_left
        rw [e1, e2]
      rw [← e]
      exact setRow_heap W g _ _ _ _ hb
  · exact ⟨rfl, rfl, rfl, by simp, fun b hne => setRow_other W g b _ hne⟩
  · simp [Builtin.copy_, run_underlying Tryd.underlying23, Builtin.lenOf, Builtin.firstCells, sizeOf, typeInfo, hi1, hi3, hmin, hl, hst]
end By
end Go.Proofs.YtpgnckjgclbepaaDoor
