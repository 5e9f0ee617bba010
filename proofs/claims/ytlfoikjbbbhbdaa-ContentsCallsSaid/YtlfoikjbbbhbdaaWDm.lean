/- Plain mathematics of damaged frames: no beginning of a frame is a frame, and a frame of which one byte was changed is not read as a frame of the same length; chains of frames. No condition. -/
import Derived.Test.YtlfoikjbbbhbdaaWFm
namespace WireN
set_option linter.unusedVariables false
set_option linter.unusedSimpArgs false

theorem rd_inv {l : List Nat} {i n q : Nat} (h : rd l (i : Nat) = (n, q, 0)) :
    i ≤ l.length ∧ on (l.drop i) < (l.drop i).length ∧ short (on (l.drop i)) ((l.drop i)[on (l.drop i)]?.getD 0) = true ∧ n = jn ((l.drop i).take (on (l.drop i) + 1)) ∧ q = i + on (l.drop i) + 1 := by
  unfold rd at h
  split at h
  · simp at h
  · rename_i h0
    rw [Int.toNat_natCast] at h
    split at h
    · simp at h
    · rename_i h1
      split at h
      · rename_i h2
        simp only [Prod.mk.injEq, and_true] at h
        have := on_le (l.drop i)
        exact ⟨by omega, by omega, h2, h.1.symm, h.2.symm⟩
      · simp at h
/-- A number that is read is read of more bytes, too. -/
theorem rd_append {l : List Nat} {i n q : Nat} (h : rd l (i : Nat) = (n, q, 0)) (m : List Nat) : rd (l ++ m) (i : Nat) = (n, q, 0) := by
  obtain ⟨h0, h1, h2, h3, h4⟩ := rd_inv h
  have hd : (l ++ m).drop i = l.drop i ++ m := List.drop_append_of_le_length h0
  have ho : on ((l ++ m).drop i) = on (l.drop i) := by rw [hd, on_append h1]
  rw [rd_ok (k := on (l.drop i)) (by rw [List.length_append]; omega) ho (by rw [hd, List.length_append]; omega) (by rw [hd, List.getElem?_append_left h1]; exact h2)]
  rw [hd, List.take_append_of_le_length (by omega), ← h3, ← h4]
/-- What a frame that is read has. -/
theorem nx_inv {l : List Nat} {i : Nat} (h : (nx l (i : Nat)).2.2.2 = 0) :
    i + 1 < l.length ∧ l[i]?.getD 0 = 247 ∧ l[i + 1]?.getD 0 ≠ 0 ∧ ∃ n q, rd l ((i + 2 : Nat) : Int) = (n, q, 0) ∧ n ≤ 2097152 ∧ q + n + 4 ≤ l.length ∧
      (l.drop (q + n)).take 4 = le4 (ck ((l.take (q + n)).drop (i + 1))) ∧ nx l (i : Nat) = (l[i + 1]?.getD 0, (l.drop q).take n, q + n + 4, 0) := by
  by_cases h0 : (l.length : Int) < (i : Nat)
  · rw [nx_range (.inr h0)] at h; simp at h
  · by_cases h1 : i = l.length
    · rw [nx_end0 h1] at h; simp at h
    · by_cases h2 : l[i]?.getD 0 = 247
      · by_cases h3 : l.length = i + 1
        · rw [nx_end1 h3 h2] at h; simp at h
        · by_cases h4 : l[i + 1]?.getD 0 = 0
          · rw [nx_kind (by omega) h2 h4] at h; simp at h
          · obtain ⟨⟨n, q, e⟩, hr⟩ : ∃ r, rd l ((i + 2 : Nat) : Int) = r := ⟨_, rfl⟩
            by_cases h5 : e = 0
            · subst h5
              by_cases h6 : 2097152 < n
              · rw [nx_limit (by omega) h2 h4 hr h6] at h; simp at h
              · by_cases h7 : l.length < q + n + 4
                · rw [nx_end2 (by omega) h2 h4 hr (by omega) h7] at h; simp at h
                · by_cases h8 : (l.drop (q + n)).take 4 = le4 (ck ((l.take (q + n)).drop (i + 1)))
                  · exact ⟨by omega, h2, h4, n, q, hr, by omega, by omega, h8, nx_ok (by omega) h2 h4 hr (by omega) (by omega) h8⟩
                  · rw [nx_sum (by omega) h2 h4 hr (by omega) (by omega) h8] at h; simp at h
            · rw [nx_len (by omega) h2 h4 hr h5] at h; exact absurd h h5
      · rw [nx_mark (by omega) h2] at h; simp at h
/-- How a frame lies. -/
theorem fr_read {k : Nat} {p : List Nat} (hk : k ≠ 0) (hp : p.length ≤ 2097152) : rd (fr k p) ((0 + 2 : Nat) : Int) = (p.length, 2 + (uv p.length).length, 0) := by
  have h := rd_back [247, k] (p ++ le4 (ck (body k p))) (n := p.length) (by omega)
  have e : [247, k] ++ (uv p.length ++ (p ++ le4 (ck (body k p)))) = fr k p := by simp [fr, body]
  rw [e] at h
  exact h
/-- No proper beginning of a frame is a frame. -/
theorem fr_begin {k : Nat} {p : List Nat} (hk : k ≠ 0) (hp : p.length ≤ 2097152) {m : Nat} (hm : m < (fr k p).length) : (nx ((fr k p).take m) ((0 : Nat) : Int)).2.2.2 ≠ 0 := by
  intro h
  obtain ⟨h1, h2, h3, n, q, hr, hn, hq, hs, -⟩ := nx_inv h
  have h4 := rd_append hr ((fr k p).drop m)
  rw [List.take_append_drop, fr_read hk hp] at h4
  simp only [Prod.mk.injEq, and_true] at h4
  have h5 := fr_len k p
  rw [List.length_take] at hq
  omega
theorem ab_fst (l : List Nat) : (ab l).1 = (1 + l.sum) % 65521 := by
  have key : ∀ (l : List Nat) (p : Nat × Nat), (l.foldl stp p).1 % 65521 = (p.1 + l.sum) % 65521 := by
    intro l
    induction l with
    | nil => intro p; simp
    | cons x l ih =>
      intro p
      rw [List.foldl_cons, ih]
      simp only [stp, List.sum_cons]
      omega
  have h := key l (1, 0)
  have h2 := (ab_lt l).1
  have h3 : (l.foldl stp (1, 0)).1 = (ab l).1 := rfl
  rw [h3, Nat.mod_eq_of_lt h2] at h
  exact h
theorem sum_set : ∀ (l : List Nat) (j y : Nat), j < l.length → (l.set j y).sum + l[j]?.getD 0 = l.sum + y
  | [], j, y, h => by simp at h
  | x :: l, 0, y, h => by simp; omega
  | x :: l, j + 1, y, h => by
    have := sum_set l j y (by simpa using h)
    simp only [List.set_cons_succ, List.sum_cons, List.getElem?_cons_succ]
    omega
/-- The checksum tells when a byte was changed. -/
theorem ck_set {l : List Nat} {j y : Nat} (hj : j < l.length) (hy : y < 256) (hl : Lt l) (h : ck (l.set j y) = ck l) : y = l[j]?.getD 0 := by
  have h1 := ab_lt l
  have h2 := ab_lt (l.set j y)
  have h3 : (ab (l.set j y)).1 = (ab l).1 := by unfold ck at h; omega
  rw [ab_fst, ab_fst] at h3
  have h4 := sum_set l j y hj
  have h5 := hl j
  omega
/-- A frame of which one byte was changed is not read as a frame of the same length. -/
theorem fr_damage {k : Nat} {p : List Nat} (hk : k ≠ 0) (hk2 : k < 256) (hp : p.length ≤ 2097152) (hl : Lt p) {a y : Nat} (ha : a < (fr k p).length) (hy : y < 256) (hne : y ≠ (fr k p)[a]?.getD 0) :
    (nx ((fr k p).set a y) ((0 : Nat) : Int)).2.2.2 ≠ 0 ∨ (nx ((fr k p).set a y) ((0 : Nat) : Int)).2.2.1 ≠ (fr k p).length := by
  by_cases he : (nx ((fr k p).set a y) ((0 : Nat) : Int)).2.2.2 = 0
  · right
    intro hnext
    obtain ⟨h1, h2, h3, n, q, hr, hn, hq, hs, hx⟩ := nx_inv he
    rw [hx] at hnext
    simp only at hnext
    obtain ⟨E, hE⟩ : ∃ E, E = q + n := ⟨_, rfl⟩
    rw [← hE] at hs hnext
    have hbl := body_len k p
    have hfl := fr_len k p
    have hEb : E = (body k p).length + 1 := by rw [hbl]; omega
    have hF : fr k p = (247 :: body k p) ++ le4 (ck (body k p)) := by simp [fr]
    have hFd : (fr k p).drop E = le4 (ck (body k p)) := by rw [hF, hEb, show (body k p).length + 1 = (247 :: body k p).length by simp, List.drop_left]
    have hFt : ((fr k p).take E).drop (0 + 1) = body k p := by rw [hF, hEb, show (body k p).length + 1 = (247 :: body k p).length by simp, List.take_left]; rfl
    by_cases ha0 : a = 0
    · subst ha0
      have h0 : ((fr k p).set 0 y)[0]?.getD 0 = y := by rw [List.getElem?_set_self ha]; rfl
      rw [h0] at h2
      apply hne
      rw [h2]; rfl
    · by_cases haE : a < E
      · have hd : ((fr k p).set a y).drop E = (fr k p).drop E := by rw [List.drop_set_of_lt haE]
        have ht : (((fr k p).set a y).take E).drop (0 + 1) = (body k p).set (a - 1) y := by
          rw [List.take_set, List.drop_set, if_neg (by omega), hFt]
        rw [hd, ht, hFd, List.take_of_length_le (by rw [le4_len]; omega)] at hs
        have hck := le4_inj (ck_lt _) (ck_lt _) hs
        have := ck_set (l := body k p) (j := a - 1) (y := y) (by omega) hy (body_lt hk2 hl) hck.symm
        apply hne
        rw [this, ← hFt, List.getElem?_drop, List.getElem?_take, if_pos (by omega), show 0 + 1 + (a - 1) = a by omega]
      · have ht : ((fr k p).set a y).take E = (fr k p).take E := by rw [List.take_set_of_le (by omega)]
        have hd : ((fr k p).set a y).drop E = (le4 (ck (body k p))).set (a - E) y := by rw [List.drop_set, if_neg (by omega), hFd]
        rw [ht, hFt, hd, List.take_of_length_le (by rw [List.length_set, le4_len]; omega)] at hs
        have h6 : ((le4 (ck (body k p))).set (a - E) y)[a - E]?.getD 0 = y := by
          rw [List.getElem?_set_self (by rw [le4_len]; omega)]; rfl
        rw [hs, ← hFd, List.getElem?_drop, show E + (a - E) = a by omega] at h6
        exact hne h6.symm
  · exact .inl he

/-- Frames one after the other, from a place to a place. -/
def Chain (l : List Nat) : Nat → List (Nat × List Nat) → Nat → Prop
  | p, [], q => p = q
  | p, x :: r, q => p < l.length ∧ (nx l (p : Nat)).2.2.2 = 0 ∧ x = ((nx l (p : Nat)).1, (nx l (p : Nat)).2.1) ∧ Chain l (nx l (p : Nat)).2.2.1 r q
/-- Where the frames end, and with which error. -/
def Stops (l : List Nat) (q e : Nat) : Prop := (l.length ≤ q ∧ e = 0) ∨ (q < l.length ∧ e ≠ 0 ∧ (nx l (q : Nat)).2.2.2 = e)
theorem Chain.snoc {l : List Nat} : ∀ {r : List (Nat × List Nat)} {p q : Nat}, Chain l p r q → q < l.length → (nx l (q : Nat)).2.2.2 = 0 → Chain l p (r ++ [((nx l (q : Nat)).1, (nx l (q : Nat)).2.1)]) (nx l (q : Nat)).2.2.1
  | [], p, q, h, h1, h2 => by
    have h : p = q := h
    subst h
    exact ⟨h1, h2, rfl, rfl⟩
  | x :: r, p, q, h, h1, h2 => ⟨h.1, h.2.1, h.2.2.1, h.2.2.2.snoc h1 h2⟩
theorem Chain.unique {l : List Nat} : ∀ {r r' : List (Nat × List Nat)} {p q q' e e' : Nat}, Chain l p r q → Stops l q e → Chain l p r' q' → Stops l q' e' → r = r' ∧ q = q' ∧ e = e'
  | [], [], p, q, q', e, e', h, hs, h', hs' => by
    have h : p = q := h
    have h' : p = q' := h'
    subst h h'
    refine ⟨rfl, rfl, ?_⟩
    rcases hs with ⟨a, b⟩ | ⟨a, b, c⟩ <;> rcases hs' with ⟨a', b'⟩ | ⟨a', b', c'⟩ <;> omega
  | [], x :: r, p, q, q', e, e', h, hs, h', hs' => by
    have h : p = q := h
    subst h
    obtain ⟨h1, h2, -⟩ := h'
    rcases hs with ⟨a, b⟩ | ⟨a, b, c⟩ <;> omega
  | x :: r, [], p, q, q', e, e', h, hs, h', hs' => by
    have h' : p = q' := h'
    subst h'
    obtain ⟨h1, h2, -⟩ := h
    rcases hs' with ⟨a, b⟩ | ⟨a, b, c⟩ <;> omega
  | x :: r, x' :: r', p, q, q', e, e', h, hs, h', hs' => by
    obtain ⟨h1, h2, h3, h4⟩ := h
    obtain ⟨h1', h2', h3', h4'⟩ := h'
    obtain ⟨a, b, c⟩ := h4.unique hs h4' hs'
    exact ⟨by rw [h3, h3', a], b, c⟩
/-- Copies of a frame, one after the other. -/
theorem Chain.copies {k : Nat} {p : List Nat} (hk : k ≠ 0) (hp : p.length ≤ 2097152) (m : List Nat) : ∀ (n : Nat) (a : List Nat), Chain (a ++ ((List.replicate n (fr k p)).flatten ++ m)) a.length (List.replicate n (k, p)) (a.length + n * (fr k p).length)
  | 0, a => by simp [Chain]
  | n + 1, a => by
    have hl : a ++ ((List.replicate (n + 1) (fr k p)).flatten ++ m) = a ++ (fr k p ++ ((List.replicate n (fr k p)).flatten ++ m)) := by simp [List.replicate_succ]
    have hx := nx_back a ((List.replicate n (fr k p)).flatten ++ m) hk hp
    have hlen := fr_len k p
    rw [hl, List.replicate_succ]
    refine ⟨by rw [List.length_append, List.length_append]; omega, by rw [hx], by rw [hx], ?_⟩
    rw [hx]
    have := Chain.copies hk hp m n (a ++ fr k p)
    rw [List.length_append, List.append_assoc] at this
    rw [show a.length + (n + 1) * (fr k p).length = a.length + (fr k p).length + n * (fr k p).length by rw [Nat.succ_mul]; omega]
    exact this
end WireN
