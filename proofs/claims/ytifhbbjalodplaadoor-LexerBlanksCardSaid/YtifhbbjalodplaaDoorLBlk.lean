/- Plain mathematics of blanks between words: they change the offsets of tokens only. No condition. -/
import Derived.Test.YtifhbbjalodplaaDoorLPlc
namespace LexN
set_option linter.unusedVariables false
set_option linter.unusedSimpArgs false

/-- A token without its offset; an answer's tokens without offsets, with its error. -/
def strip (t : Tok) : Tok := (t.1, t.2.1, t.2.2.1, 0)
def outc (r : Ans) : List Tok × Nat := (r.1.map strip, r.2.2)
theorem at_shift (P m : List Nat) (i : Nat) : at' (P ++ m) (P.length + i) = at' m i := by
  unfold at'
  rw [List.getElem?_append_right (by omega)]
  congr 2; omega
theorem drop_shift (P m : List Nat) (i : Nat) : (P ++ m).drop (P.length + i) = m.drop i := by
  rw [List.drop_append]
  simp
theorem spn_shift (p : Nat → Bool) (P m : List Nat) (i : Nat) : spn p (P ++ m) (P.length + i) = P.length + spn p m i := by
  unfold spn
  rw [drop_shift]; omega
theorem sub_shift (P m : List Nat) (i j : Nat) : sub (P ++ m) (P.length + i) (P.length + j) = sub m i j := by
  unfold sub
  rw [List.take_length_add_append, drop_shift]
theorem tok_shift (P m : List Nat) (i : Nat) : tok (P ++ m) (P.length + i) = if (tok m i).2.2 = 0 then (((tok m i).1.1, (tok m i).1.2.1, (tok m i).1.2.2.1, P.length + i), P.length + (tok m i).2.1, 0) else (Tok.zero, 0, (tok m i).2.2) := by
  have e1 : P.length + i + 1 = P.length + (i + 1) := by omega
  have e2 : P.length + i + 2 = P.length + (i + 2) := by omega
  have e3 : (P ++ m).length = P.length + m.length := List.length_append
  unfold tok
  rw [at_shift, spn_shift, spn_shift, e1, spn_shift, at_shift, at_shift, e2, e3]
  by_cases h1 : letter (at' m i) = true
  · rw [if_pos h1, if_pos h1]
    by_cases h2 : 24 < spn inner m i - i
    · rw [if_pos (by omega), if_pos h2]; rfl
    · rw [if_neg (by omega), if_neg h2, sub_shift]; rfl
  · rw [if_neg h1, if_neg h1]
    by_cases h2 : digit (at' m i) = true
    · rw [if_pos h2, if_pos h2, sub_shift]
      by_cases h3 : 9007199254740992 < digits (sub m i (spn digit m i))
      · rw [if_pos h3, if_pos h3]; rfl
      · rw [if_neg h3, if_neg h3]; rfl
    · rw [if_neg h2, if_neg h2]
      by_cases h3 : at' m i = 34
      · rw [if_pos h3, if_pos h3, sub_shift]
        by_cases h4 : spn txt m (i + 1) = m.length ∨ at' m (spn txt m (i + 1)) ≠ 34
        · rw [if_pos (by rcases h4 with h | h; exact .inl (by omega); exact .inr h), if_pos h4]; rfl
        · rw [if_neg (fun h => h4 (by rcases h with h | h; exact .inl (by omega); exact .inr h)), if_neg h4]; rfl
      · rw [if_neg h3, if_neg h3]
        by_cases h4 : at' m i = 61 ∧ i + 1 < m.length ∧ at' m (i + 1) = 61
        · rw [if_pos ⟨h4.1, by omega, h4.2.2⟩, if_pos h4]; rfl
        · rw [if_neg (fun h => h4 ⟨h.1, by omega, h.2.2⟩), if_neg h4]
          by_cases h5 : sgn (at' m i) = true
          · rw [if_pos h5, if_pos h5]; rfl
          · rw [if_neg h5, if_neg h5]; rfl
theorem at_app {w R : List Nat} {i : Nat} (h : i < w.length) : at' (w ++ R) i = at' w i := by
  unfold at'; rw [List.getElem?_append_left h]
theorem sub_app {w R : List Nat} {i j : Nat} (h : j ≤ w.length) : sub (w ++ R) i j = sub w i j := by
  unfold sub; rw [List.take_append_of_le_length h]
/-- Nothing comes behind, or a blank. -/
def Behind (R : List Nat) : Prop := R = [] ∨ blank (at' R 0) = true
theorem behind_while {R : List Nat} (h : Behind R) {p : Nat → Bool} (hp : ∀ c, blank c = true → p c = false) : R.takeWhile p = [] := by
  rcases h with rfl | h
  · rfl
  · match R with
    | [] => rfl
    | c :: r => exact List.takeWhile_cons_of_neg (by simpa using hp c (by simpa [at'] using h))
theorem spn_app {w R : List Nat} (h : Behind R) {p : Nat → Bool} (hp : ∀ c, blank c = true → p c = false) {i : Nat} (hi : i ≤ w.length) : spn p (w ++ R) i = spn p w i := by
  unfold spn
  rw [List.drop_append_of_le_length hi, List.takeWhile_append, behind_while h hp]
  split
  · rename_i e; rw [List.append_nil, e]
  · rfl
theorem spn_app_lt {w R : List Nat} {p : Nat → Bool} {i : Nat} (hi : i ≤ w.length) (hlt : spn p w i < w.length) : spn p (w ++ R) i = spn p w i := by
  unfold spn at hlt ⊢
  rw [List.drop_append_of_le_length hi, List.takeWhile_append]
  split
  · rename_i e
    rw [List.length_drop] at e
    omega
  · rfl
theorem blank_inner : ∀ c, blank c = true → inner c = false := by
  intro c h
  simp only [blank, Bool.or_eq_true, beq_iff_eq] at h
  rcases h with ((rfl | rfl) | rfl) | rfl <;> decide
theorem blank_digit : ∀ c, blank c = true → digit c = false := by
  intro c h
  simp only [blank, Bool.or_eq_true, beq_iff_eq] at h
  rcases h with ((rfl | rfl) | rfl) | rfl <;> decide
theorem tok_app {w R : List Nat} (hR : Behind R) (hw : 0 < w.length) (h34 : at' w 0 = 34 → spn txt w 1 < w.length) : tok (w ++ R) 0 = tok w 0 := by
  unfold tok
  rw [at_app hw, spn_app hR blank_inner (Nat.zero_le _), spn_app hR blank_digit (Nat.zero_le _)]
  have hi := spn_le inner (l := w) (i := 0) (Nat.zero_le _)
  have hd := spn_le digit (l := w) (i := 0) (Nat.zero_le _)
  rw [sub_app hi, sub_app hd]
  by_cases h3 : at' w 0 = 34
  · have h4 := h34 h3
    have h5 : spn txt (w ++ R) 1 = spn txt w 1 := spn_app_lt (by omega) h4
    rw [Nat.zero_add, h5, at_app h4, sub_app (by omega)]
    have e1 : ¬ spn txt w 1 = (w ++ R).length := by rw [List.length_append]; omega
    have e2 : ¬ spn txt w 1 = w.length := by omega
    simp [h3, e1, e2]
    by_cases h6 : at' w (spn txt w 1) = 34 <;> simp [h6, letter, digit] <;> omega
  · rw [if_neg h3, if_neg h3]
    have h61 : (at' w 0 = 61 ∧ 0 + 1 < (w ++ R).length ∧ at' (w ++ R) (0 + 1) = 61) ↔ (at' w 0 = 61 ∧ 0 + 1 < w.length ∧ at' w (0 + 1) = 61) := by
      by_cases hl : 1 < w.length
      · rw [at_app hl, List.length_append]
        constructor
        · rintro ⟨a, b, c⟩; exact ⟨a, by omega, c⟩
        · rintro ⟨a, b, c⟩; exact ⟨a, by omega, c⟩
      · constructor
        · rintro ⟨a, b, c⟩
          exfalso
          have e := at_shift w R 0
          rw [show w.length + 0 = 0 + 1 by omega] at e
          rw [e] at c
          rcases hR with rfl | h
          · simp at b; omega
          · rw [c] at h; exact absurd h (by decide)
        · rintro ⟨a, b, c⟩; omega
    by_cases h : at' w 0 = 61 ∧ 0 + 1 < w.length ∧ at' w (0 + 1) = 61
    · rw [if_pos h, if_pos (h61.2 h)]
    · rw [if_neg h, if_neg (fun e => h (h61.1 e))]
/-- What every word of the law keeps. -/
def goodW (w : List Nat) : Bool := decide (0 < w.length) && (!blank (at' w 0) && (at' w 0 != 35 && ((at' w 0 != 34 || decide (spn txt w 1 < w.length)) && ((tok w 0).2.2 != 0 || (tok w 0).2.1 == w.length))))
theorem lex_word {w R : List Nat} (hw : goodW w = true) (hR : Behind R) (P : List Nat) :
    lex (P ++ (w ++ R)) P.length = if (tok w 0).2.2 = 0 then aheadL [((tok w 0).1.1, (tok w 0).1.2.1, (tok w 0).1.2.2.1, P.length)] (lex ((P ++ w) ++ R) (P ++ w).length) else ([], P.length, (tok w 0).2.2) := by
  simp only [goodW, Bool.and_eq_true, decide_eq_true_eq, Bool.not_eq_true', bne_iff_ne, Bool.or_eq_true, beq_iff_eq] at hw
  obtain ⟨h1, h2, h3, h4, h5⟩ := hw
  have ht : tok (P ++ (w ++ R)) (P.length + 0) = _ := tok_shift P (w ++ R) 0
  rw [tok_app hR h1 (fun h => by rcases h4 with h4 | h4; exact absurd h h4; exact h4)] at ht
  have ha : at' (P ++ (w ++ R)) (P.length + 0) = at' w 0 := by rw [at_shift, at_app h1]
  simp only [Nat.add_zero] at ht ha
  have hl : P.length < (P ++ (w ++ R)).length := by rw [List.length_append, List.length_append]; omega
  by_cases he : (tok w 0).2.2 = 0
  · rw [if_pos he] at ht ⊢
    rw [lex_tok hl (by rw [ha]; exact h2) (by rw [ha]; exact h3) (by rw [ht]), ht]
    have h6 : (tok w 0).2.1 = w.length := by rcases h5 with h5 | h5; exact absurd he h5; exact h5
    rw [h6, List.append_assoc, List.length_append]
  · rw [if_neg he] at ht ⊢
    rw [lex_err hl (by rw [ha]; exact h2) (by rw [ha]; exact h3) (by rw [ht]; exact he), ht]
/-- What blanks and comments keep. -/
def Sepr (s : List Nat) : Prop := ∀ P M, lex (P ++ (s ++ M)) P.length = lex ((P ++ s) ++ M) (P ++ s).length
theorem sep_nil : Sepr [] := fun P M => by simp
theorem sep_one {c : Nat} (h : blank c = true) : Sepr [c] := fun P M => by
  have ha : at' (P ++ ([c] ++ M)) (P.length + 0) = c := by rw [at_shift]; rfl
  rw [Nat.add_zero] at ha
  rw [lex_blank (by simp) (by rw [ha]; exact h), List.append_assoc, List.length_append]
  rfl
theorem sep_append {s t : List Nat} (hs : Sepr s) (ht : Sepr t) : Sepr (s ++ t) := fun P M => by
  have h1 := hs P (t ++ M)
  have h2 := ht (P ++ s) M
  rw [List.append_assoc] at h2 ⊢
  rw [h1, ← List.append_assoc, ← List.append_assoc]
  rw [List.append_assoc, List.append_assoc, List.append_assoc] at h2
  simpa [List.append_assoc] using h2
theorem sep_comment : Sepr [35, 32, 99, 32, 59, 32, 10] := fun P M => by
  have ha : at' (P ++ ([35, 32, 99, 32, 59, 32, 10] ++ M)) (P.length + 0) = 35 := by rw [at_shift]; rfl
  rw [Nat.add_zero] at ha
  have hs : spn line (P ++ ([35, 32, 99, 32, 59, 32, 10] ++ M)) (P.length + 0) = P.length + 6 := by
    rw [spn_shift]
    congr 1
  rw [Nat.add_zero] at hs
  rw [lex_comment (by simp) ha, hs]
  have hb : at' (P ++ ([35, 32, 99, 32, 59, 32, 10] ++ M)) (P.length + 6) = 10 := by rw [at_shift]; rfl
  rw [lex_blank (by simp) (by rw [hb]; decide), List.append_assoc, List.length_append]
  rfl
/-- Words with what stands before each. -/
def text : List (List Nat × List Nat) → List Nat
  | [] => []
  | p :: ps => p.1 ++ (p.2 ++ text ps)
theorem text_snoc : ∀ (ps : List (List Nat × List Nat)) (s w : List Nat), text (ps ++ [(s, w)]) = text ps ++ (s ++ w)
  | [], s, w => by simp [text]
  | p :: ps, s, w => by simp [text, text_snoc ps s w, List.append_assoc]
/-- The outcome of words. -/
def outW : List (List Nat) → List Tok × Nat
  | [] => ([(5, [], 0, 0)], 0)
  | w :: ws => if (tok w 0).2.2 = 0 then (if (outW ws).2 = 0 then (strip (tok w 0).1 :: (outW ws).1, 0) else ([], (outW ws).2)) else ([], (tok w 0).2.2)
/-- A separator begins with a blank. -/
def SepB (s : List Nat) : Prop := Sepr s ∧ 0 < s.length ∧ blank (at' s 0) = true
theorem text_behind : ∀ {ps : List (List Nat × List Nat)}, (∀ p ∈ ps, SepB p.1) → Behind (text ps)
  | [], _ => .inl rfl
  | p :: ps, h => by
    have hp := h p List.mem_cons_self
    right
    show blank (at' (p.1 ++ (p.2 ++ text ps)) 0) = true
    rw [at_app hp.2.1]; exact hp.2.2
theorem lex_nil_of {l : List Nat} {i : Nat} (hi : i ≤ l.length) (h : (lex l i).2.2 ≠ 0) : (lex l i).1 = [] := ((lexF_good l (l.length + 1 - i) i hi (by omega)).2 h).1
theorem lex_text : ∀ (ps : List (List Nat × List Nat)), (∀ p ∈ ps, SepB p.1 ∧ goodW p.2 = true) → ∀ P : List Nat, outc (lex (P ++ text ps) P.length) = outW (ps.map (·.2))
  | [], _, P => by
    have : lex (P ++ text []) P.length = ([(5, [], 0, P.length)], 0, 0) := by
      have h := lex_end (l := P ++ text []) (i := P.length) (by simp [text])
      simpa [text] using h
    rw [this]; rfl
  | p :: ps, h, P => by
    have hp := h p List.mem_cons_self
    have hps : ∀ q ∈ ps, SepB q.1 ∧ goodW q.2 = true := fun q hq => h q (List.mem_cons_of_mem _ hq)
    have hb := text_behind (ps := ps) (fun q hq => (hps q hq).1)
    have ih := lex_text ps hps ((P ++ p.1) ++ p.2)
    show outc (lex (P ++ (p.1 ++ (p.2 ++ text ps))) P.length) = outW (p.2 :: ps.map (·.2))
    rw [hp.1.1 P (p.2 ++ text ps), lex_word hp.2 hb (P ++ p.1)]
    unfold outW
    by_cases he : (tok p.2 0).2.2 = 0
    · rw [if_pos he, if_pos he]
      have hle : ((P ++ p.1) ++ p.2).length ≤ (((P ++ p.1) ++ p.2) ++ text ps).length := by have := @List.length_append _ ((P ++ p.1) ++ p.2) (text ps); omega
      obtain ⟨r, hr⟩ : ∃ r, r = lex (((P ++ p.1) ++ p.2) ++ text ps) ((P ++ p.1) ++ p.2).length := ⟨_, rfl⟩
      have hn := lex_nil_of hle
      rw [← hr] at ih hn ⊢
      have i1 : r.1.map strip = (outW (ps.map (·.2))).1 := congrArg (·.1) ih
      have i2 : r.2.2 = (outW (ps.map (·.2))).2 := congrArg (·.2) ih
      unfold aheadL
      by_cases h0 : r.2.2 = 0
      · rw [if_pos h0, if_pos (by rw [← i2]; exact h0)]
        show (_ :: r.1.map strip, r.2.2) = _
        rw [i1, h0]; rfl
      · rw [if_neg h0, if_neg (by rw [← i2]; exact h0)]
        show (r.1.map strip, r.2.2) = _
        rw [hn h0, i2]; rfl
    · rw [if_neg he, if_neg he]; rfl
/-- Blanks and comments between words change offsets only. -/
theorem toks_text {ps qs : List (List Nat × List Nat)} (hp : ∀ p ∈ ps, SepB p.1 ∧ goodW p.2 = true) (hq : ∀ p ∈ qs, SepB p.1 ∧ goodW p.2 = true) (he : ps.map (·.2) = qs.map (·.2)) (h1 : (text ps).length ≤ 16384) (h2 : (text qs).length ≤ 16384) :
    (toks (text ps)).1.map strip = (toks (text qs)).1.map strip ∧ (toks (text ps)).2.2 = (toks (text qs)).2.2 := by
  have a := lex_text ps hp []
  have b := lex_text qs hq []
  rw [he] at a
  rw [← a] at b
  simp only [List.nil_append, List.length_nil] at b
  unfold toks
  rw [if_neg (by omega), if_neg (by omega)]
  exact ⟨(congrArg (·.1) b).symm, (congrArg (·.2) b).symm⟩
end LexN
