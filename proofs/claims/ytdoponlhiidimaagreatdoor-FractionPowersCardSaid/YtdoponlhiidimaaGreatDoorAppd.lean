/- The program's appendDigit: ten times a number of the call's own, and a digit. Condition: the number lies in memory of the call's own. -/
import Derived.Test.YtdoponlhiidimaaGreatDoorMRm
namespace Go.Proofs.YtdoponlhiidimaaGreatDoor
open Go.RowKit LimbN

theorem val_inj : ∀ {xs ys : List Nat}, Lt xs → Lt ys → xs.length = ys.length → val xs = val ys → xs = ys
  | [], [], _, _, _, _ => rfl
  | [], _ :: _, _, _, h, _ => by simp at h
  | _ :: _, [], _, _, h, _ => by simp at h
  | x :: xs, y :: ys, hx, hy, hl, hv => by
    simp only [LimbN.val] at hv
    have h1 := hx.head
    have h2 := hy.head
    have h3 : x = y := by omega
    have h4 : val xs = val ys := by omega
    rw [h3, val_inj hx.tail hy.tail (by simpa using hl) h4]

/-- ten times xs and d, up to digit i, the carry c. -/
structure TenRel (xs : List Nat) (d i c : Nat) (zr : List Nat) : Prop where
  len : zr.length = xs.length
  lt : Lt zr
  rest : ∀ j : Nat, i ≤ j → zr[j]?.getD 0 = xs[j]?.getD 0
  sum : val (zr.take i) + 4294967296 ^ i * c = 10 * val (xs.take i) + d
theorem TenRel.start {xs : List Nat} (d : Nat) (h : Lt xs) : TenRel xs d 0 d xs := ⟨rfl, h, fun _ _ => rfl, by simp [val]⟩
theorem TenRel.step {xs zr : List Nat} {d i c : Nat} (h : TenRel xs d i c zr) (hi : i < xs.length) (s : Nat) (hs : s = c + xs[i]?.getD 0 * 10) : TenRel xs d (i + 1) (s / 4294967296) (zr.set i (s % 4294967296)) := by
  have hl := h.len
  refine ⟨by simp [hl], h.lt.set _ _ (by omega), fun j hj => ?_, ?_⟩
  · rw [getD_set _ _ _ _ (by omega), if_neg (by omega)]
    exact h.rest j (by omega)
  · rw [val_take_succ, val_take_succ, getD_set _ _ _ _ (by omega), if_pos rfl, List.take_set_of_le (Nat.le_refl _)]
    have hsum := h.sum
    have e : 4294967296 ^ (i + 1) * (s / 4294967296) = 4294967296 ^ i * (4294967296 * (s / 4294967296)) := by rw [Nat.pow_succ, Nat.mul_assoc]
    have e2 : 4294967296 ^ i * (s % 4294967296) + 4294967296 ^ i * (4294967296 * (s / 4294967296)) = 4294967296 ^ i * c + 10 * (4294967296 ^ i * xs[i]?.getD 0) := by
      rw [← Nat.mul_add, show s % 4294967296 + 4294967296 * (s / 4294967296) = c + xs[i]?.getD 0 * 10 by omega, Nat.mul_add, Nat.mul_comm (xs[i]?.getD 0) 10, Nat.mul_left_comm]
    omega
theorem TenRel.done {m d c : Nat} {zr : List Nat} (h : TenRel (limbs m) d (limbs m).length c zr) (hd : d ≤ 9) (hc : c < 4294967296) : limbs (10 * m + d) = if c = 0 then zr else zr ++ [c] := by
  have hl := h.len
  have hs := h.sum
  rw [List.take_of_length_le (by omega), List.take_of_length_le (Nat.le_refl _), val_limbs] at hs
  by_cases h0 : c = 0
  · subst h0
    rw [if_pos rfl]
    rw [Nat.mul_zero, Nat.add_zero] at hs
    have h1 : (limbs m).length ≤ (limbs (10 * m + d)).length := limbs_mono (by omega)
    have h2 : (limbs (10 * m + d)).length ≤ (limbs m).length := by
      rw [limbs_len_le, ← hs]
      have := val_lt h.lt
      rwa [hl] at this
    exact val_inj (Lt.limbs _) h.lt (by omega) (by rw [val_limbs, hs])
  · rw [if_neg h0]
    have e : val (zr ++ [c]) = 10 * m + d := by
      rw [val_append, hl]
      simp only [LimbN.val]
      rw [← hs]; simp
    rw [← e]
    refine canon (h.lt.append (Lt.cons hc Lt.nil)) (.inr ?_)
    simpa using h0

theorem Own.parts {w wr : World} {v : Value} {k : Nat} {zs : List Nat} (h : Own w wr v k zs) (hk : 0 < k) :
    ∃ g cap, v = .slice (some ⟨g, 0, none⟩) k cap ∧ w.heap.size ≤ g ∧ k ≤ cap ∧ cap ≤ maxLen ∧ (∀ i, i < k → wr.cell? ⟨g, i, none⟩ = some (.int .u32 (zs[i]?.getD 0 : Nat))) ∧ ∀ i, wr.frozen? ⟨g, i, none⟩ = false := by
  have hn := h.len
  rcases h.owns.2 with ⟨_, h0⟩ | ⟨g, cap, cur, rfl, hb, hg, hnc, hcm, hsz, htake⟩
  · omega
  · refine ⟨g, cap, rfl, hb, hnc, hcm, fun i hi => ?_, fun i => frozen_of_row _ g i _ _ hg⟩
    rw [cell_of_row _ g i cur _ (0, 0) hg]
    have h1 : (cur.toList.take (k * 1))[i]? = (U zs)[i]? := by rw [htake]
    rw [List.getElem?_take, if_pos (by omega)] at h1
    rw [← Array.getElem?_toList, h1]
    simp [U, List.getElem?_eq_getElem (show i < zs.length by omega)]
theorem Own.form {w wr : World} {v : Value} {k : Nat} {zs : List Nat} (h : Own w wr v k zs) : ∃ ao cap, v = .slice ao k cap ∧ k ≤ cap ∧ cap ≤ maxLen := by
  rcases h.owns.2 with ⟨rfl, rfl⟩ | ⟨g, cap, cur, rfl, hb, hg, hnc, hcm, hsz, htake⟩
  · exact ⟨none, 0, rfl, Nat.le_refl _, Nat.zero_le _⟩
  · exact ⟨_, cap, rfl, hnc, hcm⟩
theorem Own.set {w wr : World} {g k cap : Nat} {zs : List Nat} (h : Own w wr (.slice (some ⟨g, 0, none⟩) k cap) k zs) (i d : Nat) (D : Int) (hD : D = (d : Int)) (hd : d < 4294967296) :
    Own w (wr.setCell ⟨g, i, none⟩ (.int .u32 D)) (.slice (some ⟨g, 0, none⟩) k cap) k (zs.set i d) := by
  subst hD
  have hn := h.len
  rcases h.owns.2 with ⟨h0, _⟩ | ⟨g', cap', cur, e, hb, hg, hnc, hcm, hsz, htake⟩
  · simp at h0
  · simp only [Value.slice.injEq, Option.some.injEq, Addr.mk.injEq, and_true, true_and] at e
    obtain ⟨rfl, rfl⟩ := e
    refine ⟨⟨by simp [U, hn], .inr ⟨g, cap, _, rfl, hb, heap_setCell_same wr g i _ _ _ hg, hnc, hcm, by simpa using hsz, ?_⟩⟩, by simp [hn], h.lt.set _ _ hd, Only.kp h.kp ((Only.refl g wr).set i _) hb⟩
    have e2 : (cur.setIfInBounds i (Value.int .u32 (d : Int))).toList = cur.toList.set i (Value.int .u32 (d : Int)) := by simp
    rw [e2, List.take_set, htake]
    simp [U]

end Go.Proofs.YtdoponlhiidimaaGreatDoor
