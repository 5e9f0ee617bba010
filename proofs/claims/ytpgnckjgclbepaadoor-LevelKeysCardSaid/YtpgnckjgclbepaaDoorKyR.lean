/- A row of keys that is the call's own, changed in place. No condition. -/
import Derived.Test.YtpgnckjgclbepaaDoorKyM
import Derived.Test.YtpgnckjgclbepaaDoorKyP
import Derived.Deep.RegionHeld3
import Derived.Deep.QuietTactic
import Derived.Deep.RegionWith
import Derived.RegionTactic
import Derived.BigQuiet
import Derived.WalkKit
import Derived.WalkLawsBesides
import Derived.WalkSpells
import Derived.Lib.Hide
namespace Go.Proofs.YtpgnckjgclbepaaDoor
namespace By
open Go.RowKit WireN LexN RevN KeyN
set_option linter.unusedVariables false
set_option linter.unusedSimpArgs false

/-- Block g begins with these keys. -/
def RK (w : World) (g : Nat) (ks : List Ky) : Prop := ∃ rest : List Value, Blk w g 29 (kcel ks ++ rest).toArray
theorem RK.cell {w : World} {g : Nat} {ks : List Ky} (h : RK w g ks) {j : Nat} {x : Ky} (hx : ks[j]? = some x) : K3 w g (j * 3) x := by
  obtain ⟨rest, hb⟩ := h
  obtain ⟨c0, c1, c2⟩ := kcel_at ks j x hx
  have e : ∀ (i : Nat) (v : Value), (kcel ks)[i]? = some v → (kcel ks ++ rest).toArray[i]? = some v := by
    intro i v hv
    have hi := (List.getElem?_eq_some_iff.1 hv).1
    simp only [List.getElem?_toArray]
    rw [List.getElem?_append_left hi]
    exact hv
  exact ⟨hb.cell _ (e _ _ c0), hb.cell _ (e _ _ c1), hb.cell _ (e _ _ c2)⟩
theorem RK.keep {w w' : World} {g : Nat} {ks : List Ky} (h : RK w g ks) (hk : Kp w w') : RK w' g ks := by
  obtain ⟨rest, hb⟩ := h
  exact ⟨rest, hb.keep hk⟩
theorem RK.lt {w : World} {g : Nat} {ks : List Ky} (h : RK w g ks) : g < w.heap.size := by
  obtain ⟨rest, hb⟩ := h
  exact hb.lt
theorem RK.free {w : World} {g : Nat} {ks : List Ky} (h : RK w g ks) (i : Nat) : w.frozen? ⟨g, i, none⟩ = false := by
  obtain ⟨rest, hb⟩ := h
  exact hb.free i
/-- The cells behind a store of a key. -/
theorem kcel_set : ∀ (ks : List Ky) (i : Nat) (x : Ky), i < ks.length → (((kcel ks).set (i * 3) (.int .i64 x.1)).set (i * 3 + 1) (.string (st x.2.1))).set (i * 3 + 2) (.string (st x.2.2)) = kcel (ks.set i x)
  | [], i, x, h => by simp at h
  | y :: ks, 0, x, _ => by simp [kcel]
  | y :: ks, i + 1, x, h => by
    have ih := kcel_set ks i x (by simpa using h)
    rw [show (i + 1) * 3 = i * 3 + 1 + 1 + 1 by omega]
    simp only [List.set_cons_succ]
    rw [← show kcel (y :: ks.set i x) = kcel (y :: ks.set i x) from rfl]
    show _ = kcel (y :: ks.set i x)
    have e : ∀ (l : List Ky), kcel (y :: l) = .int .i64 y.1 :: .string (st y.2.1) :: .string (st y.2.2) :: kcel l := fun l => rfl
    rw [e, e, ← ih]
    simp only [List.set_cons_succ, Nat.add_assoc, Nat.reduceAdd]
theorem RK.put {w : World} {g : Nat} {ks : List Ky} (h : RK w g ks) {i : Nat} (hi : i < ks.length) (x : Ky) :
    RK (((w.setCell ⟨g, i * 3, none⟩ (.int .i64 x.1)).setCell ⟨g, i * 3 + 1, none⟩ (.string (st x.2.1))).setCell ⟨g, i * 3 + 2, none⟩ (.string (st x.2.2))) g (ks.set i x) := by
  obtain ⟨rest, hb⟩ := h
  refine ⟨rest, ?_⟩
  have := ((hb.set (i * 3) (.int .i64 x.1)).set (i * 3 + 1) (.string (st x.2.1))).set (i * 3 + 2) (.string (st x.2.2))
  have hl := kcel_len ks
  have e : (((kcel ks ++ rest).toArray.setIfInBounds (i * 3) (.int .i64 x.1)).setIfInBounds (i * 3 + 1) (.string (st x.2.1))).setIfInBounds (i * 3 + 2) (.string (st x.2.2)) = (kcel (ks.set i x) ++ rest).toArray := by
    rw [← kcel_set ks i x hi]
    simp only [List.setIfInBounds_toArray]
    rw [List.set_append_left _ _ (by omega), List.set_append_left _ _ (by simp; omega), List.set_append_left _ _ (by simp; omega)]
  rw [← e]
  exact this
theorem RK.only {w : World} {g : Nat} (i : Nat) (x : Ky) : Only g w (((w.setCell ⟨g, i * 3, none⟩ (.int .i64 x.1)).setCell ⟨g, i * 3 + 1, none⟩ (.string (st x.2.1))).setCell ⟨g, i * 3 + 2, none⟩ (.string (st x.2.2))) :=
  (((Only.refl g w).set _ _).set _ _).set _ _
theorem RK.take {w : World} {g : Nat} {ks : List Ky} (h : RK w g ks) (n : Nat) : RK w g (ks.take n) := by
  obtain ⟨rest, hb⟩ := h
  refine ⟨kcel (ks.drop n) ++ rest, ?_⟩
  rw [← List.append_assoc, ← kcel_app, List.take_append_drop]
  exact hb
/-- A slice over such a row. -/
theorem RK.kw {w : World} {g : Nat} {ks : List Ky} (h : RK w g ks) {n cap : Nat} (hn : ks.length = n) (hc : n ≤ cap) (hm : cap ≤ maxLen) (hok : ∀ x ∈ ks, KyOk x) : Kw w (.slice (some ⟨g, 0, none⟩) n cap) ks := by
  subst hn
  exact ⟨⟨_, cap, rfl, hc, hm, .inr ⟨g, 0, rfl, fun j x hx => by rw [Nat.zero_add]; exact h.cell hx⟩, fun e => nomatch e⟩, hok⟩
/-- A row of one's own is such a row. -/
theorem OwK.rk {w wr : World} {v : Value} {ks : List Ky} (h : OwK w wr v ks) (hn : 0 < ks.length) : ∃ g cap, v = .slice (some ⟨g, 0, none⟩) ks.length cap ∧ w.heap.size ≤ g ∧ ks.length ≤ cap ∧ cap ≤ maxLen ∧ RK wr g ks := by
  rcases h.owns.2 with ⟨_, h0⟩ | ⟨g, cap, cur, rfl, hb, hg, hnc, hcm, hsz, htake⟩
  · omega
  · refine ⟨g, cap, rfl, hb, hnc, hcm, cur.toList.drop (kcel ks).length, ?_⟩
    have e : (kcel ks ++ cur.toList.drop (kcel ks).length).toArray = cur := by
      have hl := kcel_len ks
      have h3 : kcel ks = cur.toList.take (kcel ks).length := by
        rw [hl, Nat.mul_comm]
        exact htake.symm
      conv => lhs; arg 1; lhs; rw [h3]
      rw [List.take_append_drop, Array.toArray_toList]
    rw [e]
    exact hg
end By
end Go.Proofs.YtpgnckjgclbepaaDoor
