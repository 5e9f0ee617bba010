/- Numbers that slices hold, many at a time; the program's sums, differences and products of numbers that have room. Conditions: the slices hold the numbers that are named, and the results have room. -/
import Derived.Test.YtdoponlhiidimaaGreatDoorGcd
namespace Go.Proofs.YtdoponlhiidimaaGreatDoor
open Go.RowKit LimbN

/-- The slices hold these numbers. -/
def All (w : World) : List (Value × Nat) → Prop
  | [] => True
  | (v, n) :: l => Sl w v (limbs n) ∧ All w l
theorem All.keep {w w' : World} (hk : Kp w w') : ∀ {l : List (Value × Nat)}, All w l → All w' l
  | [], _ => trivial
  | (_, _) :: _, h => ⟨h.1.keep hk, All.keep hk h.2⟩
theorem fit {n k : Nat} (h : n < 4294967296 ^ k) (hk : k ≤ 128) : (limbs n).length ≤ 128 := Nat.le_trans (limbs_len_le.2 h) hk
theorem wfn {n k : Nat} (h : n < 4294967296 ^ k) (hk : k ≤ 128) : wf (limbs n) = true := wf_limbs (fit h hk)
theorem One.made {n : Nat} {w w' : World} {e : Ending} (h : Made n w e w') (hl : (limbs n).length ≤ 128) : One n w e w' := by
  obtain ⟨⟨v, rfl, hs, hn⟩, hk⟩ := h
  exact ⟨⟨v, by rw [if_pos hl], hs, hn⟩, hk⟩
theorem add_n {a b : Nat} {va vb : Value} {w : World} (ha : Sl w va (limbs a)) (hb : Sl w vb (limbs b)) (hr : (limbs (a + b)).length ≤ 128) : Calls Tryz.prog 52 #[va, vb] w (One (a + b) w) := by
  have h1 := wf_limbs (Nat.le_trans (limbs_mono (show a ≤ a + b by omega)) hr)
  have h2 := wf_limbs (Nat.le_trans (limbs_mono (show b ≤ a + b by omega)) hr)
  have := Add_ok ha hb h1 h2
  rw [val_limbs, val_limbs] at this
  exact this.mono fun e w' h => One.made h hr
theorem sub_n {a b : Nat} {va vb : Value} {w : World} (ha : Sl w va (limbs a)) (hb : Sl w vb (limbs b)) (hr : (limbs a).length ≤ 128) (hle : b ≤ a) : Calls Tryz.prog 92 #[va, vb] w (One (a - b) w) := by
  have h1 := wf_limbs hr
  have h2 := wf_limbs (Nat.le_trans (limbs_mono hle) hr)
  have := Sub_ok ha hb h1 h2 (by rw [val_limbs, val_limbs]; exact hle)
  rw [val_limbs, val_limbs] at this
  exact this.mono fun e w' h => One.made h (Nat.le_trans (limbs_mono (Nat.sub_le _ _)) hr)
theorem mul_n {a b : Nat} {va vb : Value} {w : World} (ha : Sl w va (limbs a)) (hb : Sl w vb (limbs b)) (h1 : (limbs a).length ≤ 128) (h2 : (limbs b).length ≤ 128) (hr : (limbs (a * b)).length ≤ 128) : Calls Tryz.prog 72 #[va, vb] w (One (a * b) w) := by
  have := Mul_ok ha hb (wf_limbs h1) (wf_limbs h2)
  rw [val_limbs, val_limbs] at this
  exact this.mono fun e w' h => One.made h hr
theorem gcd_n {a b : Nat} {va vb : Value} {w : World} (ha : Sl w va (limbs a)) (hb : Sl w vb (limbs b)) (h1 : (limbs a).length ≤ 128) (h2 : (limbs b).length ≤ 128) : Calls Tryz.prog 41 #[va, vb] w (One (Nat.gcd a b) w) := by
  have := Gcd_ok ha hb (wf_limbs h1) (wf_limbs h2)
  rwa [val_limbs, val_limbs] at this
theorem divide_n {a b : Nat} {va vb : Value} {w : World} (ha : Sl w va (limbs a)) (hb : Sl w vb (limbs b)) (h1 : (limbs a).length ≤ 128) (h2 : (limbs b).length ≤ 128) (h0 : b ≠ 0) : Calls Tryz.prog 107 #[va, vb] w (Quot3 a b w) := by
  have := Divide_ok ha hb (wf_limbs h1) (wf_limbs h2) (by rw [val_limbs]; exact h0)
  rwa [val_limbs, val_limbs] at this
theorem same_n {a b : Nat} {va vb : Value} {w : World} (ha : Sl w va (limbs a)) (hb : Sl w vb (limbs b)) (h : a = b) : Calls Tryz.prog 48 #[va, vb] w fun e w' => e = .returned (.bool true) ∧ Kp w w' := by
  subst h
  refine (same_any ha hb).mono ?_
  rintro e w' ⟨rfl, hd⟩
  exact ⟨by rw [decide_eq_true rfl], hd.kp⟩
theorem less_n {a b : Nat} {va vb : Value} {w : World} (ha : Sl w va (limbs a)) (hb : Sl w vb (limbs b)) (h1 : (limbs a).length ≤ 128) (h2 : (limbs b).length ≤ 128) (h : a < b) : Calls Tryz.prog 93 #[va, vb] w fun e w' => e = .returned (.int .i64 (-1)) ∧ Kp w w' := by
  refine (Compare_any ha hb).mono ?_
  rintro e w' ⟨rfl, hd⟩
  refine ⟨?_, hd.kp⟩
  unfold cmpW
  rw [wf_limbs h1, wf_limbs h2, Bool.and_self, if_pos rfl, cmp_val, if_pos h]
end Go.Proofs.YtdoponlhiidimaaGreatDoor
