/- Sorting by exchanges, and leaving out what is equal to the one before. Plain mathematics. No condition. -/
import Derived.Test.YtpgnckjgclbepaaDoorKyN
namespace Go.Proofs.YtpgnckjgclbepaaDoor
namespace KeyN
open WireN LexN RevN
set_option linter.unusedVariables false
set_option linter.unusedSimpArgs false

/-- The key at an index. -/
def ga (l : List Ky) (i : Nat) : Ky := l[i]?.getD (0, [], [])
theorem ga_of {l : List Ky} {i : Nat} {x : Ky} (h : l[i]? = some x) : ga l i = x := by unfold ga; rw [h]; rfl
theorem ga_get {l : List Ky} {i : Nat} (h : i < l.length) : l[i]? = some (ga l i) := by unfold ga; rw [List.getElem?_eq_getElem h]; rfl
theorem ga_mem {l : List Ky} {i : Nat} (h : i < l.length) : ga l i ∈ l := List.mem_of_getElem? (ga_get h)
theorem ga_set {l : List Ky} {i j : Nat} {x : Ky} (h : i < l.length) : ga (l.set i x) j = if i = j then x else ga l j := by
  unfold ga
  rw [List.getElem?_set]
  by_cases e : i = j
  · subst e; simp [h]
  · simp [e]
/-- An exchange. -/
def swK (l : List Ky) (j : Nat) : List Ky := (l.set j (ga l (j - 1))).set (j - 1) (ga l j)
theorem swK_len (l : List Ky) (j : Nat) : (swK l j).length = l.length := by unfold swK; simp
theorem swK_at {l : List Ky} {j : Nat} (h0 : 0 < j) (h : j < l.length) (i : Nat) : ga (swK l j) i = if i = j - 1 then ga l j else if i = j then ga l (j - 1) else ga l i := by
  unfold swK
  rw [ga_set (by simp; omega), ga_set h]
  by_cases e : j - 1 = i
  · simp [e]
  · have e' : ¬ i = j - 1 := fun h => e h.symm
    rw [if_neg e, if_neg e']
    by_cases e2 : j = i
    · simp [e2]
    · rw [if_neg e2, if_neg (fun h => e2 h.symm)]
theorem swK_mem {l : List Ky} {j : Nat} (h0 : 0 < j) (h : j < l.length) (y : Ky) : y ∈ swK l j ↔ y ∈ l := by
  have hg : ∀ (m : List Ky), y ∈ m ↔ ∃ i, i < m.length ∧ ga m i = y := by
    intro m
    rw [List.mem_iff_getElem?]
    constructor
    · rintro ⟨i, hi⟩
      exact ⟨i, (List.getElem?_eq_some_iff.1 hi).1, ga_of hi⟩
    · rintro ⟨i, hi, e⟩
      exact ⟨i, by rw [ga_get hi, e]⟩
  rw [hg, hg]
  constructor
  · rintro ⟨i, hi, e⟩
    rw [swK_len] at hi
    rw [swK_at h0 h] at e
    split at e
    · exact ⟨j, h, e⟩
    · split at e
      · exact ⟨j - 1, by omega, e⟩
      · exact ⟨i, hi, e⟩
  · rintro ⟨i, hi, e⟩
    by_cases e1 : i = j
    · subst e1
      refine ⟨i - 1, by rw [swK_len]; omega, ?_⟩
      rw [swK_at h0 h, if_pos rfl]; exact e
    · by_cases e2 : i = j - 1
      · refine ⟨j, by rw [swK_len]; omega, ?_⟩
        rw [swK_at h0 h, if_neg (by omega), if_pos rfl, ← e2]; exact e
      · refine ⟨i, by rw [swK_len]; omega, ?_⟩
        rw [swK_at h0 h, if_neg e2, if_neg e1]; exact e
/-- Sorted up to an index, but for one place. -/
def InvK (l : List Ky) (i j : Nat) : Prop := ∀ a b, a < b → b ≤ i → b ≠ j → lk (ga l b) (ga l a) = false
/-- Sorted below an index. -/
def SrtK (l : List Ky) (n : Nat) : Prop := ∀ a b, a < b → b < n → lk (ga l b) (ga l a) = false
theorem InvK.start {l : List Ky} {i : Nat} (h : SrtK l i) : InvK l i i := fun a b h1 h2 h3 => h a b h1 (by omega)
theorem InvK.swap {l : List Ky} {i j : Nat} (h : InvK l i j) (h0 : 0 < j) (hj : j < l.length) (hji : j ≤ i) (hl : lk (ga l j) (ga l (j - 1)) = true) : InvK (swK l j) i (j - 1) := by
  intro a b h1 h2 h3
  rw [swK_at h0 hj, swK_at h0 hj, if_neg h3]
  by_cases e : b = j
  · rw [if_pos e]
    by_cases e2 : a = j - 1
    · rw [if_pos e2]; exact lk_asymm hl
    · rw [if_neg e2, if_neg (by omega)]; exact h a (j - 1) (by omega) (by omega) (by omega)
  · rw [if_neg e]
    by_cases e2 : a = j - 1
    · rw [if_pos e2]; exact h j b (by omega) h2 e
    · rw [if_neg e2]
      by_cases e3 : a = j
      · rw [if_pos e3]; exact h (j - 1) b (by omega) h2 e
      · rw [if_neg e3]; exact h a b h1 h2 e
theorem InvK.stop {l : List Ky} {i j : Nat} (h : InvK l i j) (hs : j = 0 ∨ lk (ga l j) (ga l (j - 1)) = false) : SrtK l (i + 1) := by
  intro a b h1 h2
  by_cases e : b = j
  · subst e
    rcases hs with rfl | hs
    · omega
    · by_cases e2 : a = b - 1
      · rw [e2]; exact hs
      · have h3 := h a (b - 1) (by omega) (by omega) (by omega)
        rw [Bool.eq_false_iff]
        intro hl
        by_cases e3 : ga l b = ga l (b - 1)
        · rw [e3, h3] at hl; cases hl
        · have := lk_trans (lk_total hs e3) hl
          rw [h3] at this; cases this
  · exact h a b h1 (by omega) e
theorem SrtK.one (l : List Ky) : SrtK l 1 := fun a b h1 h2 => by omega
theorem SrtK.zero (l : List Ky) : SrtK l 0 := fun a b h1 h2 => by omega
/-- What is not equal to the one before. -/
def cuK (l : List Ky) : Nat → List Ky
  | 0 => []
  | n + 1 => if n = 0 ∨ ga l n ≠ ga l (n - 1) then cuK l n ++ [ga l n] else cuK l n
theorem cuK_keep {l : List Ky} {n : Nat} (h : n = 0 ∨ ga l n ≠ ga l (n - 1)) : cuK l (n + 1) = cuK l n ++ [ga l n] := by
  show (if n = 0 ∨ ga l n ≠ ga l (n - 1) then cuK l n ++ [ga l n] else cuK l n) = _
  rw [if_pos h]
theorem cuK_drop {l : List Ky} {n : Nat} (h0 : 0 < n) (h : ga l n = ga l (n - 1)) : cuK l (n + 1) = cuK l n := by
  show (if n = 0 ∨ ga l n ≠ ga l (n - 1) then cuK l n ++ [ga l n] else cuK l n) = _
  rw [if_neg]
  rintro (h1 | h1)
  · omega
  · exact h1 h
theorem cuK_len (l : List Ky) : ∀ n, (cuK l n).length ≤ n
  | 0 => Nat.le_refl _
  | n + 1 => by
    have := cuK_len l n
    show (if n = 0 ∨ ga l n ≠ ga l (n - 1) then cuK l n ++ [ga l n] else cuK l n).length ≤ n + 1
    split
    · simp; omega
    · omega
theorem cuK_pos (l : List Ky) : ∀ n, 1 ≤ (cuK l (n + 1)).length
  | 0 => by rw [cuK_keep (.inl rfl)]; simp
  | n + 1 => by
    have := cuK_pos l n
    show 1 ≤ (if n + 1 = 0 ∨ ga l (n + 1) ≠ ga l (n + 1 - 1) then cuK l (n + 1) ++ [ga l (n + 1)] else cuK l (n + 1)).length
    split
    · simp
    · omega
theorem cuK_mem {l : List Ky} : ∀ {n : Nat} {y : Ky}, y ∈ cuK l n ↔ ∃ i, i < n ∧ ga l i = y
  | 0, y => by simp [cuK]
  | n + 1, y => by
    by_cases h : n = 0 ∨ ga l n ≠ ga l (n - 1)
    · rw [cuK_keep h, List.mem_append, cuK_mem (n := n)]
      constructor
      · rintro (⟨i, hi, e⟩ | e)
        · exact ⟨i, by omega, e⟩
        · exact ⟨n, by omega, by simpa using (List.mem_singleton.1 e).symm⟩
      · rintro ⟨i, hi, e⟩
        by_cases e2 : i = n
        · right; subst e2; simp [e]
        · left; exact ⟨i, by omega, e⟩
    · have h0 : 0 < n := Nat.pos_of_ne_zero fun e => h (.inl e)
      have h1 : ga l n = ga l (n - 1) := Decidable.byContradiction fun e => h (.inr e)
      rw [cuK_drop h0 h1, cuK_mem (n := n)]
      constructor
      · rintro ⟨i, hi, e⟩
        exact ⟨i, by omega, e⟩
      · rintro ⟨i, hi, e⟩
        by_cases e2 : i = n
        · exact ⟨n - 1, by omega, by rw [← h1, ← e2]; exact e⟩
        · exact ⟨i, by omega, e⟩
theorem cuK_asc {l : List Ky} : ∀ {n : Nat}, SrtK l n → Asc (cuK l n)
  | 0, _ => List.Pairwise.nil
  | n + 1, h => by
    have ih := cuK_asc (n := n) (fun a b h1 h2 => h a b h1 (by omega))
    by_cases hk : n = 0 ∨ ga l n ≠ ga l (n - 1)
    · rw [cuK_keep hk]
      refine List.pairwise_append.2 ⟨ih, List.pairwise_singleton _ _, ?_⟩
      intro x hx y hy
      obtain rfl : y = ga l n := by simpa using hy
      obtain ⟨a, ha, rfl⟩ := cuK_mem.1 hx
      have hn := h a n ha (by omega)
      by_cases e : ga l n = ga l a
      · exfalso
        rcases hk with h0 | hk
        · omega
        · have h2 := h (n - 1) n (by omega) (by omega)
          have h3 := lk_total h2 hk
          by_cases e2 : a = n - 1
          · rw [e2] at e; exact hk e
          · have h4 := h a (n - 1) (by omega) (by omega)
            rw [e, h4] at h3; cases h3
      · exact lk_total hn e
    · have h0 : 0 < n := Nat.pos_of_ne_zero fun e => hk (.inl e)
      have h1 : ga l n = ga l (n - 1) := Decidable.byContradiction fun e => hk (.inr e)
      rw [cuK_drop h0 h1]
      exact ih
/-- Of a sorted list the set. -/
theorem cuK_set {l ks : List Ky} (hs : SrtK l l.length) (hm : ∀ y, y ∈ l ↔ y ∈ ks) : cuK l l.length = setK ks := by
  refine setK_eq (cuK_asc hs) fun y => ?_
  rw [cuK_mem, ← hm y]
  constructor
  · rintro ⟨i, hi, e⟩
    rw [← e]; exact ga_mem hi
  · intro hy
    obtain ⟨i, hi⟩ := List.mem_iff_getElem?.1 hy
    exact ⟨i, (List.getElem?_eq_some_iff.1 hi).1, ga_of hi⟩
/-- Nothing left out so far. -/
theorem cuK_all {l : List Ky} : ∀ {n : Nat}, n ≤ l.length → (∀ j, 0 < j → j < n → ga l j ≠ ga l (j - 1)) → cuK l n = l.take n
  | 0, _, _ => rfl
  | n + 1, hn, h => by
    rw [cuK_keep (by
      by_cases e : n = 0
      · exact .inl e
      · exact .inr (h n (by omega) (by omega))), cuK_all (n := n) (by omega) (fun j h1 h2 => h j h1 (by omega))]
    rw [List.take_add_one, ga_get (by omega)]
    rfl
/-- How Compact's row stands behind its first equal pair: kk places are done, p are read. -/
structure CmpK (l zs : List Ky) (kk p : Nat) : Prop where
  ln : zs.length = l.length
  ek : kk = (cuK l p).length
  lt : kk < p
  hd : zs.take kk = cuK l p
  tl : ∀ j, p - 1 ≤ j → ga zs j = ga l j
theorem CmpK.start {l : List Ky} {k : Nat} (hk : 0 < k) (hn : k < l.length) (h : ∀ j, 0 < j → j < k → ga l j ≠ ga l (j - 1)) (he : ga l k = ga l (k - 1)) : CmpK l l k (k + 1) := by
  have hc := cuK_all (Nat.le_of_lt hn) h
  refine ⟨rfl, ?_, by omega, ?_, fun j _ => rfl⟩
  · rw [cuK_drop hk he, hc]; simp; omega
  · rw [cuK_drop hk he, hc]
theorem CmpK.skip {l zs : List Ky} {kk p : Nat} (h : CmpK l zs kk p) (hp : 0 < p) (he : ga l p = ga l (p - 1)) : CmpK l zs kk (p + 1) :=
  ⟨h.ln, by rw [cuK_drop hp he]; exact h.ek, by have := h.lt; omega, by rw [cuK_drop hp he]; exact h.hd, fun j hj => h.tl j (by omega)⟩
theorem CmpK.put {l zs : List Ky} {kk p : Nat} (h : CmpK l zs kk p) (hp : p < l.length) (he : ga l p ≠ ga l (p - 1)) : CmpK l (zs.set kk (ga l p)) (kk + 1) (p + 1) := by
  have hlt := h.lt
  have hzl := h.ln
  refine ⟨by rw [List.length_set]; exact h.ln, ?_, by omega, ?_, fun j hj => ?_⟩
  · rw [cuK_keep (.inr he), List.length_append, ← h.ek]; rfl
  · rw [cuK_keep (.inr he), ← h.hd]
    rw [List.take_add_one, List.take_set_of_le (Nat.le_refl _), List.getElem?_set_self (by omega)]
    rfl
  · rw [ga_set (by omega), if_neg (by omega)]
    exact h.tl j (by omega)
end KeyN
end Go.Proofs.YtpgnckjgclbepaaDoor
