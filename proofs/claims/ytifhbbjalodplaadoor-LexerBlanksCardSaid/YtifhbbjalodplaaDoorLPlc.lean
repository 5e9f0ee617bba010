/- Plain mathematics of tokens' places: tokens ascend, do not overlap, and are where their texts are. No condition. -/
import Derived.Test.YtifhbbjalodplaaDoorLx
namespace LexN
set_option linter.unusedVariables false
set_option linter.unusedSimpArgs false

/-- What a token takes of the text at least. -/
def wide (t : Tok) : Nat := t.2.1.length + if t.1 = 2 then 1 else 0
/-- What a token keeps. -/
structure Fine (l : List Nat) (t : Tok) : Prop where
  at_lt : t.2.2.2 < l.length
  kind : t.1 = 1 ∨ t.1 = 2 ∨ t.1 = 3 ∨ t.1 = 4
  text : t.1 = 1 ∨ t.1 = 4 → t.2.2.2 + t.2.1.length ≤ l.length ∧ sub l t.2.2.2 (t.2.2.2 + t.2.1.length) = t.2.1 ∧ 1 ≤ t.2.1.length
  len : t.2.1.length ≤ l.length
def Good (l : List Nat) : Nat → List Tok → Prop
  | p, [] => False
  | p, t :: ts => p ≤ t.2.2.2 ∧ ((ts = [] ∧ t = (5, [], 0, l.length)) ∨ (ts ≠ [] ∧ Fine l t ∧ Good l (t.2.2.2 + wide t) ts))
theorem Good.mono {l : List Nat} {p q : Nat} (h : q ≤ p) : ∀ {ts : List Tok}, Good l p ts → Good l q ts
  | [], hg => hg
  | t :: ts, hg => ⟨Nat.le_trans h hg.1, hg.2⟩
theorem Good.ne {l : List Nat} {p : Nat} : ∀ {ts : List Tok}, Good l p ts → ts ≠ []
  | [], hg => hg.elim
  | t :: ts, _ => by simp
theorem tok_fine {l : List Nat} {i : Nat} {t : Tok} {n : Nat} (hi : i < l.length) (h : tok l i = (t, n, 0)) : Fine l t ∧ t.2.2.2 = i ∧ i + wide t ≤ n := by
  unfold tok at h
  by_cases h1 : letter (at' l i) = true
  · rw [if_pos h1] at h
    by_cases h2 : 24 < spn inner l i - i
    · rw [if_pos h2] at h; simp at h
    · rw [if_neg h2] at h
      simp only [Prod.mk.injEq, and_true] at h
      obtain ⟨rfl, rfl⟩ := h
      have hg := spn_gt (p := inner) hi (by simp [inner, h1])
      have hl := spn_le inner (l := l) (i := i) (by omega)
      have hs := sub_len (l := l) (i := i) (j := spn inner l i) hl
      refine ⟨⟨hi, .inl rfl, fun _ => ⟨?_, ?_, ?_⟩, ?_⟩, rfl, ?_⟩
      · simp only; omega
      · simp only; rw [hs]; congr 1; omega
      · simp only; omega
      · simp only; omega
      · simp only [wide]; rw [hs]; simp; omega
  · rw [if_neg h1] at h
    by_cases h2 : digit (at' l i) = true
    · rw [if_pos h2] at h
      by_cases h3 : 9007199254740992 < digits (sub l i (spn digit l i))
      · rw [if_pos h3] at h; simp at h
      · rw [if_neg h3] at h
        simp only [Prod.mk.injEq, and_true] at h
        obtain ⟨rfl, rfl⟩ := h
        have hg := spn_gt (p := digit) hi h2
        refine ⟨⟨hi, .inr (.inl rfl), fun h => ?_, by simp⟩, rfl, ?_⟩
        · rcases h with h | h <;> simp at h
        · simp [wide]; omega
    · rw [if_neg h2] at h
      by_cases h3 : at' l i = 34
      · rw [if_pos h3] at h
        by_cases h4 : spn txt l (i + 1) = l.length ∨ at' l (spn txt l (i + 1)) ≠ 34
        · rw [if_pos h4] at h; simp at h
        · rw [if_neg h4] at h
          simp only [Prod.mk.injEq, and_true] at h
          obtain ⟨rfl, rfl⟩ := h
          have hg := spn_ge txt l (i + 1)
          have hl := spn_le txt (l := l) (i := i + 1) (by omega)
          have hs := sub_len (l := l) (i := i + 1) (j := spn txt l (i + 1)) hl
          refine ⟨⟨hi, .inr (.inr (.inl rfl)), fun h => ?_, ?_⟩, rfl, ?_⟩
          · rcases h with h | h <;> simp at h
          · simp only; omega
          · simp only [wide]; rw [hs]; simp; omega
      · rw [if_neg h3] at h
        by_cases h4 : at' l i = 61 ∧ i + 1 < l.length ∧ at' l (i + 1) = 61
        · rw [if_pos h4] at h
          simp only [Prod.mk.injEq, and_true] at h
          obtain ⟨rfl, rfl⟩ := h
          refine ⟨⟨hi, .inr (.inr (.inr rfl)), fun _ => ⟨?_, ?_, ?_⟩, ?_⟩, rfl, ?_⟩
          · simp; omega
          · show sub l i (i + 2) = [61, 61]
            rw [sub_snoc (by omega) h4.2.1, sub_one hi, h4.1, h4.2.2]; rfl
          · simp
          · simp; omega
          · simp [wide]
        · rw [if_neg h4] at h
          by_cases h5 : sgn (at' l i) = true
          · rw [if_pos h5] at h
            simp only [Prod.mk.injEq, and_true] at h
            obtain ⟨rfl, rfl⟩ := h
            refine ⟨⟨hi, .inr (.inr (.inr rfl)), fun _ => ⟨?_, ?_, ?_⟩, ?_⟩, rfl, ?_⟩
            · simp; omega
            · show sub l i (i + 1) = [at' l i]
              exact sub_one hi
            · simp
            · simp; omega
            · simp [wide]
          · rw [if_neg h5] at h; simp at h
theorem lexF_good (l : List Nat) : ∀ (n i : Nat), i ≤ l.length → l.length - i < n → ((lexF l n i).2.2 = 0 → Good l i (lexF l n i).1 ∧ (lexF l n i).2.1 = 0) ∧ ((lexF l n i).2.2 ≠ 0 → (lexF l n i).1 = [] ∧ (lexF l n i).2.1 ≤ l.length) := by
  intro n
  induction n with
  | zero => intro i h1 h2; omega
  | succ n ih =>
    intro i h1 h2
    unfold lexF
    by_cases hl : l.length ≤ i
    · rw [if_pos hl]
      exact ⟨fun _ => ⟨⟨h1, .inl ⟨rfl, rfl⟩⟩, rfl⟩, fun h => absurd rfl h⟩
    · rw [if_neg hl]
      by_cases hb : blank (at' l i) = true
      · rw [if_pos hb]
        have := ih (i + 1) (by omega) (by omega)
        exact ⟨fun h => ⟨(this.1 h).1.mono (by omega), (this.1 h).2⟩, this.2⟩
      · rw [if_neg hb]
        by_cases hc : at' l i = 35
        · rw [if_pos hc]
          have hs := spn_line (by omega) hc
          have := ih (spn line l i) hs.2 (by omega)
          exact ⟨fun h => ⟨(this.1 h).1.mono (by omega), (this.1 h).2⟩, this.2⟩
        · rw [if_neg hc]
          by_cases he : (tok l i).2.2 = 0
          · rw [if_pos he]
            have hnx := tok_next (by omega) he
            obtain ⟨⟨t, N, E⟩, ht⟩ : ∃ r, r = tok l i := ⟨_, rfl⟩
            rw [← ht] at he hnx ⊢
            simp only at he hnx ⊢
            subst he
            obtain ⟨hf, hat, hw⟩ := tok_fine (by omega) ht.symm
            have hr := ih N hnx.2 (by omega)
            unfold aheadL
            by_cases h0 : (lexF l n N).2.2 = 0
            · rw [if_pos h0]
              have hg := hr.1 h0
              refine ⟨fun _ => ⟨⟨by omega, .inr ⟨hg.1.ne, hf, hg.1.mono (by omega)⟩⟩, hg.2⟩, fun h => absurd h0 h⟩
            · rw [if_neg h0]
              exact ⟨fun h => absurd h h0, fun _ => hr.2 h0⟩
          · rw [if_neg he]
            exact ⟨fun h => absurd h he, fun _ => ⟨rfl, by simp only; omega⟩⟩
theorem toks_good {l : List Nat} (h : l.length ≤ 16384) : ((toks l).2.2 = 0 → Good l 0 (toks l).1 ∧ (toks l).2.1 = 0) ∧ ((toks l).2.2 ≠ 0 → (toks l).1 = [] ∧ (toks l).2.1 ≤ l.length) := by
  unfold toks
  rw [if_neg (by omega)]
  exact lexF_good l _ 0 (by omega) (by omega)
end LexN
