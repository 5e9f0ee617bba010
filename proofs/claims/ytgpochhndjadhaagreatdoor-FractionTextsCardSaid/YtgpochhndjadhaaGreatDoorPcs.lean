/- What a text means as a fraction: its pieces between strokes, and the error. -/
import Derived.Test.YtgpochhndjadhaaGreatDoorMFp
namespace Go.Proofs.YtgpochhndjadhaaGreatDoor
open Go.RowKit LimbN
set_option linter.unusedVariables false
set_option linter.unusedSimpArgs false

open Classical in
/-- the error of a numeral's text. -/
noncomputable def nE (s : ByteArray) : Int := if 1300 < s.size then 2 else if Num s then (if (limbs (pv s s.size)).length ≤ 128 then 0 else 2) else 6
/-- what a numeral's text answers. -/
structure PrR (s : ByteArray) (w : World) (e : Ending) (w' : World) : Prop where
  ex : ∃ v, e = .returned (.tuple #[v, .int .i64 (nE s)]) ∧ (nE s = 0 → Sl w' v (limbs (pv s s.size)) ∧ (limbs (pv s s.size)).length ≤ 128)
  kp : Kp w w'
theorem Parsed.pr {s : ByteArray} {w w' : World} {e : Ending} (h : Parsed s w e w') : PrR s w e w' := by
  by_cases h1 : 1300 < s.size
  · have hE : nE s = 2 := by unfold nE; rw [if_pos h1]
    obtain ⟨rfl, hk⟩ := h.long h1
    exact ⟨⟨_, by rw [hE], fun h0 => by rw [hE] at h0; exact absurd h0 (by decide)⟩, hk⟩
  · by_cases h2 : Num s
    · have hg := h.good h1 h2
      by_cases h3 : (limbs (pv s s.size)).length ≤ 128
      · have hE : nE s = 0 := by unfold nE; rw [if_neg h1, if_pos h2, if_pos h3]
        obtain ⟨v, rfl, hv, -⟩ := hg.ok h3
        exact ⟨⟨v, by rw [hE], fun _ => ⟨hv, h3⟩⟩, hg.kp⟩
      · have hE : nE s = 2 := by unfold nE; rw [if_neg h1, if_pos h2, if_neg h3]
        have he := hg.over (by omega)
        exact ⟨⟨_, by rw [he, hE], fun h0 => by rw [hE] at h0; exact absurd h0 (by decide)⟩, hg.kp⟩
    · have hE : nE s = 6 := by unfold nE; rw [if_neg h1, if_neg h2]
      obtain ⟨rfl, hk⟩ := h.bad h1 h2
      exact ⟨⟨_, by rw [hE], fun h0 => by rw [hE] at h0; exact absurd h0 (by decide)⟩, hk⟩
theorem nE_one : nE ⟨#[49]⟩ = 0 ∧ pv ⟨#[49]⟩ 1 = 1 := by
  have h := num_dec 1
  rw [decS_one] at h
  have h1 : pv ⟨#[49]⟩ 1 = 1 := by
    have := pv_decS 1
    rw [decS_one] at this
    exact this
  refine ⟨?_, h1⟩
  unfold nE
  have h2 : (limbs (pv ⟨#[49]⟩ (⟨#[49]⟩ : ByteArray).size)).length ≤ 128 := by
    show (limbs (pv ⟨#[49]⟩ 1)).length ≤ 128
    rw [h1]
    exact fit (k := 1) (by decide) (by decide)
  rw [if_neg (by decide), if_pos h, if_pos h2]
/-- a byte more of a text in pieces. -/
def stepQ (q : List (List UInt8) × List UInt8) (c : UInt8) : List (List UInt8) × List UInt8 := if c = 47 then (q.1 ++ [q.2], []) else (q.1, q.2 ++ [c])
/-- the pieces of a text: all but the last, and the last. -/
def pcs (l : List UInt8) : List (List UInt8) × List UInt8 := l.foldl stepQ ([], [])
theorem fold_none {l : List UInt8} (h : ∀ x ∈ l, x ≠ 47) (P : List (List UInt8)) (x : List UInt8) : l.foldl stepQ (P, x) = (P, x ++ l) := by
  induction l generalizing x with
  | nil => simp
  | cons b l ih =>
    have h1 : b ≠ 47 := h b (by simp)
    rw [List.foldl_cons, show stepQ (P, x) b = (P, x ++ [b]) by unfold stepQ; rw [if_neg h1], ih (fun y hy => h y (by simp [hy]))]
    simp
theorem fold_len (l : List UInt8) (P : List (List UInt8)) (x : List UInt8) : P.length ≤ (l.foldl stepQ (P, x)).1.length := by
  induction l generalizing P x with
  | nil => simp
  | cons b l ih =>
    rw [List.foldl_cons]
    by_cases hb : b = 47
    · rw [show stepQ (P, x) b = (P ++ [x], []) by unfold stepQ; rw [if_pos hb]]
      have := ih (P ++ [x]) []
      rw [List.length_append] at this
      omega
    · rw [show stepQ (P, x) b = (P, x ++ [b]) by unfold stepQ; rw [if_neg hb]]
      exact ih P _
theorem stroke (l : List UInt8) : (∀ x ∈ l, x ≠ 47) ∨ ∃ a m, l = a ++ 47 :: m ∧ ∀ x ∈ a, x ≠ 47 := by
  induction l with
  | nil => left; simp
  | cons b l ih =>
    by_cases hb : b = 47
    · exact Or.inr ⟨[], l, by simp [hb], by simp⟩
    · rcases ih with h | ⟨a, m, h, ha⟩
      · left
        intro x hx
        rcases List.mem_cons.1 hx with rfl | hx
        · exact hb
        · exact h x hx
      · refine Or.inr ⟨b :: a, m, by simp [h], ?_⟩
        intro x hx
        rcases List.mem_cons.1 hx with rfl | hx
        · exact hb
        · exact ha x hx
theorem pcs_one {l : List UInt8} (h : ∀ x ∈ l, x ≠ 47) : pcs l = ([], l) := by unfold pcs; rw [fold_none h]; rfl
theorem pcs_at {a m : List UInt8} (h : ∀ x ∈ a, x ≠ 47) : pcs (a ++ 47 :: m) = m.foldl stepQ ([a], []) := by
  unfold pcs
  rw [List.foldl_append, fold_none h, List.foldl_cons]
  rfl
theorem pcs_two {a m : List UInt8} (h : ∀ x ∈ a, x ≠ 47) (hm : ∀ x ∈ m, x ≠ 47) : pcs (a ++ 47 :: m) = ([a], m) := by rw [pcs_at h, fold_none hm]; rfl
theorem pcs_more {a b m : List UInt8} (h : ∀ x ∈ a, x ≠ 47) (hb : ∀ x ∈ b, x ≠ 47) : 2 ≤ (pcs (a ++ 47 :: (b ++ 47 :: m))).1.length := by
  rw [pcs_at h, List.foldl_append, fold_none hb, List.foldl_cons]
  exact fold_len m ([a] ++ [[] ++ b]) []
/-- the error of two numerals with a stroke. -/
def cutE (e1 e2 : Int) (d : Nat) : Int := if e1 = 6 ∨ e2 = 6 then 6 else if e1 ≠ 0 ∨ e2 ≠ 0 then 2 else if d = 0 then 4 else 0
/-- the error and the fraction of a text in pieces. -/
noncomputable def qE : List (List UInt8) × List UInt8 → Int
  | ([], a) => cutE (nE ⟨a.toArray⟩) 0 1
  | ([b], a) => cutE (nE ⟨b.toArray⟩) (nE ⟨a.toArray⟩) (pv ⟨a.toArray⟩ a.length)
  | _ => 6
noncomputable def qP : List (List UInt8) × List UInt8 → Nat × Nat
  | ([], a) => FracN.low (pv ⟨a.toArray⟩ a.length) 1
  | ([b], a) => FracN.low (pv ⟨b.toArray⟩ b.length) (pv ⟨a.toArray⟩ a.length)
  | _ => (0, 0)
/-- the error that Parse answers. -/
noncomputable def fE (s : ByteArray) : Int := if 2601 < s.size then 2 else qE (pcs s.data.toList)
/-- the fraction that Parse answers. -/
noncomputable def fP (s : ByteArray) : Nat × Nat := if fE s = 0 then qP (pcs s.data.toList) else (0, 0)
theorem fE_long {s : ByteArray} (h : 2601 < s.size) : fE s = 2 ∧ fP s = (0, 0) := by
  have h1 : fE s = 2 := by unfold fE; rw [if_pos h]
  exact ⟨h1, by unfold fP; rw [h1, if_neg (by decide)]⟩
theorem fE_more {s : ByteArray} (h : ¬ 2601 < s.size) (h2 : 2 ≤ (pcs s.data.toList).1.length) : fE s = 6 ∧ fP s = (0, 0) := by
  have h1 : fE s = 6 := by
    unfold fE
    rw [if_neg h]
    generalize pcs s.data.toList = q at h2
    obtain ⟨P, x⟩ := q
    match P, h2 with
    | _ :: _ :: _, _ => rfl
  exact ⟨h1, by unfold fP; rw [h1, if_neg (by decide)]⟩
/-- The text in two numerals: what is answered. -/
structure Mid (S L R : ByteArray) (C : Bool) : Prop where
  six : C = true ∨ nE L = 6 ∨ nE R = 6 → fE S = 6 ∧ fP S = (0, 0)
  two : C = false → nE L ≠ 6 → nE R ≠ 6 → nE L ≠ 0 ∨ nE R ≠ 0 → fE S = 2 ∧ fP S = (0, 0)
  zero : C = false → nE L = 0 → nE R = 0 → pv R R.size = 0 → fE S = 4 ∧ fP S = (0, 0)
  ok : C = false → nE L = 0 → nE R = 0 → pv R R.size ≠ 0 → fE S = 0 ∧ fP S = FracN.low (pv L L.size) (pv R R.size)
theorem Mid.of {S L R : ByteArray} (hE : fE S = cutE (nE L) (nE R) (pv R R.size)) (hP : qP (pcs S.data.toList) = FracN.low (pv L L.size) (pv R R.size)) : Mid S L R false := by
  constructor
  · intro h
    have h1 : fE S = 6 := by rw [hE]; unfold cutE; rw [if_pos (by simpa using h)]
    exact ⟨h1, by unfold fP; rw [h1, if_neg (by decide)]⟩
  · intro _ a b h
    have h1 : fE S = 2 := by rw [hE]; unfold cutE; rw [if_neg (by simp [a, b]), if_pos h]
    exact ⟨h1, by unfold fP; rw [h1, if_neg (by decide)]⟩
  · intro _ a b h
    have h1 : fE S = 4 := by rw [hE]; unfold cutE; rw [if_neg (by simp [a, b]), if_neg (by simp [a, b]), if_pos h]
    exact ⟨h1, by unfold fP; rw [h1, if_neg (by decide)]⟩
  · intro _ a b h
    have h1 : fE S = 0 := by rw [hE]; unfold cutE; rw [if_neg (by simp [a, b]), if_neg (by simp [a, b]), if_neg h]
    exact ⟨h1, by unfold fP; rw [h1, if_pos rfl, hP]⟩
theorem Mid.one {l : List UInt8} (h : ∀ x ∈ l, x ≠ 47) (hs : ¬ 2601 < (⟨l.toArray⟩ : ByteArray).size) : Mid ⟨l.toArray⟩ ⟨l.toArray⟩ ⟨#[49]⟩ false := by
  have h1 : pv ⟨#[49]⟩ (⟨#[49]⟩ : ByteArray).size = 1 := nE_one.2
  have hp : pcs (⟨l.toArray⟩ : ByteArray).data.toList = ([], l) := by
    show pcs l.toArray.toList = _
    rw [List.toList_toArray]
    exact pcs_one h
  apply Mid.of
  · unfold fE
    rw [if_neg hs, hp, nE_one.1, h1]
    rfl
  · rw [hp, h1]
    rfl
theorem Mid.two' {a m : List UInt8} (h : ∀ x ∈ a, x ≠ 47) (hm : ∀ x ∈ m, x ≠ 47) (hs : ¬ 2601 < (⟨(a ++ 47 :: m).toArray⟩ : ByteArray).size) : Mid ⟨(a ++ 47 :: m).toArray⟩ ⟨a.toArray⟩ ⟨m.toArray⟩ false := by
  have hp : pcs (⟨(a ++ 47 :: m).toArray⟩ : ByteArray).data.toList = ([a], m) := by
    show pcs (a ++ 47 :: m).toArray.toList = _
    rw [List.toList_toArray]
    exact pcs_two h hm
  apply Mid.of
  · unfold fE
    rw [if_neg hs, hp]
    rfl
  · rw [hp]
    rfl
theorem Mid.more {a b m : List UInt8} (h : ∀ x ∈ a, x ≠ 47) (hb : ∀ x ∈ b, x ≠ 47) {L R : ByteArray} (hs : ¬ 2601 < (⟨(a ++ 47 :: (b ++ 47 :: m)).toArray⟩ : ByteArray).size) : Mid ⟨(a ++ 47 :: (b ++ 47 :: m)).toArray⟩ L R true := by
  have hp : 2 ≤ (pcs (⟨(a ++ 47 :: (b ++ 47 :: m)).toArray⟩ : ByteArray).data.toList).1.length := by
    show 2 ≤ (pcs (a ++ 47 :: (b ++ 47 :: m)).toArray.toList).1.length
    rw [List.toList_toArray]
    exact pcs_more h hb
  exact ⟨fun _ => fE_more hs hp, fun h => absurd h (by decide), fun h => absurd h (by decide), fun h => absurd h (by decide)⟩
end Go.Proofs.YtgpochhndjadhaaGreatDoor
