/- Stores of texts, plain: the number of a text, the errors of a store, and what is put in, merged and kept. -/
import Derived.Test.YtlfoikjbbbhbdaaWNm
namespace Go.Proofs.Ytlfoikjbbbhbdaa
namespace CtN
abbrev Tx := List Nat
/-- The number of a text; the length where it is none. -/
def fnd (x : Tx) : List Tx → Nat
  | [] => 0
  | y :: l => if y = x then 0 else fnd x l + 1
theorem fnd_le (x : Tx) : ∀ l : List Tx, fnd x l ≤ l.length
  | [] => Nat.le_refl _
  | y :: l => by
    have := fnd_le x l
    unfold fnd
    split
    · simp
    · simp; omega
theorem fnd_lt {x : Tx} : ∀ {l : List Tx}, x ∈ l → fnd x l < l.length
  | [], h => by simp at h
  | y :: l, h => by
    unfold fnd
    split
    · simp
    · next hn =>
      have hm : x ∈ l := by
        rcases List.mem_cons.1 h with e | hm
        · exact absurd e.symm hn
        · exact hm
      have := fnd_lt hm
      simp; omega
theorem fnd_at {x : Tx} : ∀ {l : List Tx}, x ∈ l → l[fnd x l]? = some x
  | [], h => by simp at h
  | y :: l, h => by
    unfold fnd
    split
    · next he => subst he; rfl
    · next hn =>
      have hm : x ∈ l := by
        rcases List.mem_cons.1 h with e | hm
        · exact absurd e.symm hn
        · exact hm
      simpa using fnd_at hm
theorem fnd_not {x : Tx} : ∀ {l : List Tx}, x ∉ l → fnd x l = l.length
  | [], _ => rfl
  | y :: l, h => by
    have h1 : y ≠ x := fun e => h (by rw [e]; exact List.mem_cons_self)
    have h2 : x ∉ l := fun e => h (List.mem_cons_of_mem _ e)
    unfold fnd
    rw [if_neg h1, fnd_not h2]
    rfl
theorem fnd_snoc {x : Tx} : ∀ {l : List Tx}, x ∉ l → fnd x (l ++ [x]) = l.length
  | [], _ => by simp [fnd]
  | y :: l, h => by
    have h1 : y ≠ x := fun e => h (by rw [e]; exact List.mem_cons_self)
    have h2 : x ∉ l := fun e => h (List.mem_cons_of_mem _ e)
    show fnd x (y :: (l ++ [x])) = _
    unfold fnd
    rw [if_neg h1, fnd_snoc h2]
    rfl
/-- The number is the first place where the text stands: what a loop from the front finds. -/
theorem fnd_first {x : Tx} : ∀ {l : List Tx} {k : Nat}, l[k]? = some x → (∀ j, j < k → l[j]? ≠ some x) → fnd x l = k
  | [], k, h, _ => by simp at h
  | y :: l, 0, h, _ => by
    obtain rfl : y = x := by simpa using h
    simp [fnd]
  | y :: l, k + 1, h, hn => by
    have h1 : y ≠ x := fun e => hn 0 (by omega) (by simp [e])
    unfold fnd
    rw [if_neg h1, fnd_first (k := k) (by simpa using h) (fun j hj => by have := hn (j + 1) (by omega); simpa using this)]
theorem not_mem_of {x : Tx} {l : List Tx} (h : ∀ j, j < l.length → l[j]? ≠ some x) : x ∉ l := fun hm => by
  obtain ⟨j, hj, e⟩ := List.getElem_of_mem hm
  exact h j hj (by rw [List.getElem?_eq_getElem hj, e])
/-- In a store whose texts differ, a text stands in one place. -/
theorem fnd_nodup {l : List Tx} (hd : l.Nodup) {k : Nat} {x : Tx} (h : l[k]? = some x) : fnd x l = k := by
  refine fnd_first h fun j hj e => ?_
  obtain ⟨hk, ek⟩ := List.getElem?_eq_some_iff.1 h
  obtain ⟨hj2, ej⟩ := List.getElem?_eq_some_iff.1 e
  have := (List.nodup_iff_pairwise_ne.1 hd)
  exact (List.pairwise_iff_getElem.1 this j k hj2 hk hj) (by rw [ek, ej])
/-- The error of a store. -/
def err (l : List Tx) : Nat := if 4096 < l.length then 2 else if l.Nodup then 0 else 10
theorem err_ok {l : List Tx} : err l = 0 ↔ l.length ≤ 4096 ∧ l.Nodup := by
  unfold err
  by_cases h : 4096 < l.length
  · rw [if_pos h]; constructor
    · intro e; omega
    · rintro ⟨h1, _⟩; omega
  · rw [if_neg h]
    by_cases h2 : l.Nodup
    · rw [if_pos h2]; exact ⟨fun _ => ⟨by omega, h2⟩, fun _ => rfl⟩
    · rw [if_neg h2]; exact ⟨fun e => by omega, fun e => absurd e.2 h2⟩
/-- A text is put in. -/
def add (l : List Tx) (x : Tx) : List Tx := if x ∈ l then l else l ++ [x]
theorem add_in {l : List Tx} {x : Tx} (h : x ∈ l) : add l x = l := if_pos h
theorem add_new {l : List Tx} {x : Tx} (h : x ∉ l) : add l x = l ++ [x] := if_neg h
theorem add_mem (l : List Tx) (x : Tx) : x ∈ add l x := by
  unfold add; split
  · assumption
  · simp
theorem add_sub {l : List Tx} {x y : Tx} (h : y ∈ l) : y ∈ add l x := by
  unfold add; split
  · exact h
  · exact List.mem_append_left _ h
theorem add_len (l : List Tx) (x : Tx) : l.length ≤ (add l x).length ∧ (add l x).length ≤ l.length + 1 := by
  unfold add; split <;> simp
theorem add_nodup {l : List Tx} {x : Tx} (h : l.Nodup) : (add l x).Nodup := by
  unfold add; split
  · exact h
  · next hn =>
    rw [List.nodup_append]
    refine ⟨h, by simp, fun a ha b hb e => ?_⟩
    obtain rfl : b = x := by simpa using hb
    exact hn (e ▸ ha)
theorem add_take (l : List Tx) (x : Tx) : (add l x).take l.length = l := by
  unfold add; split
  · exact List.take_length
  · simp
theorem add_at {l : List Tx} {x : Tx} {j : Nat} {y : Tx} (h : l[j]? = some y) : (add l x)[j]? = some y := by
  unfold add; split
  · exact h
  · rw [List.getElem?_append_left (List.getElem?_eq_some_iff.1 h).1]; exact h
/-- The texts of the second are put into the first; the numbers of the second. -/
def mrg : List Tx → List Tx → List Tx × List Nat
  | a, [] => (a, [])
  | a, x :: b => ((mrg (add a x) b).1, fnd x (add a x) :: (mrg (add a x) b).2)
theorem mrg_snoc : ∀ (b a : List Tx) (x : Tx), mrg a (b ++ [x]) = (add (mrg a b).1 x, (mrg a b).2 ++ [fnd x (add (mrg a b).1 x)])
  | [], a, x => rfl
  | y :: b, a, x => by
    show ((mrg (add a y) (b ++ [x])).1, fnd y (add a y) :: (mrg (add a y) (b ++ [x])).2) = _
    rw [mrg_snoc b (add a y) x]
    rfl
theorem mrg_len : ∀ (b a : List Tx), (mrg a b).2.length = b.length ∧ a.length ≤ (mrg a b).1.length ∧ (mrg a b).1.length ≤ a.length + b.length
  | [], a => ⟨rfl, Nat.le_refl _, Nat.le_refl _⟩
  | x :: b, a => by
    have h := mrg_len b (add a x)
    have h2 := add_len a x
    refine ⟨?_, ?_, ?_⟩
    · show (mrg (add a x) b).2.length + 1 = b.length + 1
      rw [h.1]
    · exact Nat.le_trans h2.1 h.2.1
    · show (mrg (add a x) b).1.length ≤ a.length + (b.length + 1)
      have := h.2.2
      omega
theorem mrg_nodup : ∀ (b a : List Tx), a.Nodup → (mrg a b).1.Nodup
  | [], _, h => h
  | x :: b, a, h => mrg_nodup b (add a x) (add_nodup h)
theorem mrg_at : ∀ (b a : List Tx) {j : Nat} {y : Tx}, a[j]? = some y → (mrg a b).1[j]? = some y
  | [], _, _, _, h => h
  | x :: b, a, _, _, h => mrg_at b (add a x) (add_at h)
theorem mrg_take (b a : List Tx) : (mrg a b).1.take a.length = a := by
  refine List.ext_getElem? fun j => ?_
  rw [List.getElem?_take]
  split
  · next hj =>
    rw [List.getElem?_eq_getElem hj]
    exact mrg_at b a (List.getElem?_eq_getElem hj)
  · next hj => exact (List.getElem?_eq_none (by omega)).symm
/-- A number of the second leads to its text. -/
theorem mrg_get : ∀ (b a : List Tx) {i k : Nat}, (mrg a b).2[i]? = some k → ∃ y, b[i]? = some y ∧ (mrg a b).1[k]? = some y
  | [], _, _, _, h => by simp [mrg] at h
  | x :: b, a, 0, k, h => by
    obtain rfl : fnd x (add a x) = k := by simpa [mrg] using h
    exact ⟨x, rfl, mrg_at b (add a x) (fnd_at (add_mem a x))⟩
  | x :: b, a, i + 1, k, h => by
    obtain ⟨y, h1, h2⟩ := mrg_get b (add a x) (i := i) (k := k) (by simpa [mrg] using h)
    exact ⟨y, by simpa using h1, h2⟩
/-- Texts whose numbers are used, with the new numbers: from the index i on, c texts are kept so far. -/
def kps (u : List Int) : List Tx → Nat → Nat → List Tx × List Int
  | [], _, _ => ([], [])
  | t :: s, i, c => if (i : Int) ∈ u then (t :: (kps u s (i + 1) (c + 1)).1, (c : Int) :: (kps u s (i + 1) (c + 1)).2) else ((kps u s (i + 1) c).1, -1 :: (kps u s (i + 1) c).2)
/-- The error of Keep behind Check. -/
def kerr (n : Nat) (u : List Int) : Nat := if ∀ x ∈ u, 0 ≤ x ∧ x < n then 0 else 20
theorem kps_len (u : List Int) : ∀ (s : List Tx) (i c : Nat), (kps u s i c).2.length = s.length ∧ (kps u s i c).1.length ≤ s.length
  | [], _, _ => ⟨rfl, Nat.le_refl _⟩
  | t :: s, i, c => by
    have h1 := kps_len u s (i + 1) (c + 1)
    have h2 := kps_len u s (i + 1) c
    unfold kps
    split
    · simp only [List.length_cons]; omega
    · simp only [List.length_cons]; omega
theorem kps_snoc (u : List Int) (t : Tx) : ∀ (s : List Tx) (i c : Nat), kps u (s ++ [t]) i c =
    if ((i + s.length : Nat) : Int) ∈ u then ((kps u s i c).1 ++ [t], (kps u s i c).2 ++ [((c + (kps u s i c).1.length : Nat) : Int)]) else ((kps u s i c).1, (kps u s i c).2 ++ [-1])
  | [], i, c => by
    show kps u [t] i c = _
    simp only [kps, List.length_nil, Nat.add_zero, List.nil_append]
  | x :: s, i, c => by
    have h1 := kps_snoc u t s (i + 1) (c + 1)
    have h2 := kps_snoc u t s (i + 1) c
    have e : i + (x :: s).length = i + 1 + s.length := by simp; omega
    rw [e]
    show kps u (x :: (s ++ [t])) i c = _
    unfold kps
    by_cases hm : (i : Int) ∈ u
    · rw [if_pos hm, if_pos hm, h1]
      by_cases hk : ((i + 1 + s.length : Nat) : Int) ∈ u
      · rw [if_pos hk, if_pos hk]
        simp only [List.cons_append, List.length_cons]
        rw [show c + 1 + (kps u s (i + 1) (c + 1)).1.length = c + ((kps u s (i + 1) (c + 1)).1.length + 1) by omega]
      · rw [if_neg hk, if_neg hk]
        rfl
    · rw [if_neg hm, if_neg hm, h2]
      by_cases hk : ((i + 1 + s.length : Nat) : Int) ∈ u
      · rw [if_pos hk, if_pos hk]; rfl
      · rw [if_neg hk, if_neg hk]; rfl
/-- What a new number says. -/
theorem kps_get (u : List Int) : ∀ (s : List Tx) (i c j : Nat) (x : Int), (kps u s i c).2[j]? = some x →
    (((i + j : Nat) : Int) ∈ u ∧ ∃ k : Nat, x = ((c + k : Nat) : Int) ∧ ∃ t, s[j]? = some t ∧ (kps u s i c).1[k]? = some t) ∨ (((i + j : Nat) : Int) ∉ u ∧ x = -1)
  | [], _, _, _, _, h => by simp [kps] at h
  | t :: s, i, c, 0, x, h => by
    unfold kps at h ⊢
    by_cases hm : (i : Int) ∈ u
    · rw [if_pos hm] at h ⊢
      obtain rfl : (c : Int) = x := by simpa using h
      exact .inl ⟨hm, 0, rfl, t, rfl, rfl⟩
    · rw [if_neg hm] at h ⊢
      obtain rfl : (-1 : Int) = x := by simpa using h
      exact .inr ⟨hm, rfl⟩
  | t :: s, i, c, j + 1, x, h => by
    have e : i + (j + 1) = i + 1 + j := by omega
    rw [e]
    unfold kps at h ⊢
    by_cases hm : (i : Int) ∈ u
    · rw [if_pos hm] at h ⊢
      rcases kps_get u s (i + 1) (c + 1) j x (by simpa using h) with ⟨h1, k, h2, y, h3, h4⟩ | h1
      · refine .inl ⟨h1, k + 1, by rw [h2, show c + 1 + k = c + (k + 1) by omega], y, by simpa using h3, by simpa using h4⟩
      · exact .inr h1
    · rw [if_neg hm] at h ⊢
      rcases kps_get u s (i + 1) c j x (by simpa using h) with ⟨h1, k, h2, y, h3, h4⟩ | h1
      · exact .inl ⟨h1, k, h2, y, by simpa using h3, h4⟩
      · exact .inr h1
end CtN
end Go.Proofs.Ytlfoikjbbbhbdaa
