/- Texts made of words: the tokens of words that stand one behind the other. No condition. -/
import Derived.Test.YtmflgfojicaecaaGreatDoorSSpec
namespace LexN
set_option linter.unusedVariables false
set_option linter.unusedSimpArgs false

theorem at_sh5 (P m : List Nat) (i : Nat) : at' (P ++ m) (P.length + i) = at' m i := by
  unfold at'
  rw [List.getElem?_append_right (by omega)]
  congr 2; omega
theorem drop_sh5 (P m : List Nat) (i : Nat) : (P ++ m).drop (P.length + i) = m.drop i := by
  rw [List.drop_append]
  simp
theorem spn_sh5 (p : Nat → Bool) (P m : List Nat) (i : Nat) : spn p (P ++ m) (P.length + i) = P.length + spn p m i := by
  unfold spn
  rw [drop_sh5]; omega
theorem sub_sh5 (P m : List Nat) (i j : Nat) : sub (P ++ m) (P.length + i) (P.length + j) = sub m i j := by
  unfold sub
  rw [List.take_length_add_append, drop_sh5]
/-- A token and the place behind it, moved. -/
theorem tok_sh5 (P m : List Nat) {k n j : Nat} {x : List Nat} (h : tok m 0 = ((k, x, n, 0), j, 0)) : tok (P ++ m) P.length = ((k, x, n, P.length), P.length + j, 0) := by
  have e1 : P.length + 1 = P.length + (0 + 1) := by omega
  have e2 : P.length + 2 = P.length + (0 + 2) := by omega
  have e3 : (P ++ m).length = P.length + m.length := List.length_append
  have h0 := at_sh5 P m 0
  have h1 := at_sh5 P m (0 + 1)
  have s1 := spn_sh5 inner P m 0
  have s2 := spn_sh5 digit P m 0
  have s3 := spn_sh5 txt P m (0 + 1)
  rw [Nat.add_zero] at h0 s1 s2
  unfold tok at h ⊢
  rw [h0, s1, s2, e1, s3, h1, e2, e3]
  have b1 : sub (P ++ m) P.length (P.length + spn inner m 0) = sub m 0 (spn inner m 0) := by have := sub_sh5 P m 0 (spn inner m 0); rwa [Nat.add_zero] at this
  have b2 : sub (P ++ m) P.length (P.length + spn digit m 0) = sub m 0 (spn digit m 0) := by have := sub_sh5 P m 0 (spn digit m 0); rwa [Nat.add_zero] at this
  rw [b1, b2, sub_sh5]
  by_cases l1 : letter (at' m 0) = true
  · rw [if_pos l1] at h ⊢
    by_cases l2 : 24 < spn inner m 0 - 0
    · rw [if_pos l2] at h; simp at h
    · rw [if_neg l2] at h
      rw [if_neg (by omega)]
      simp only [Prod.mk.injEq] at h ⊢
      exact ⟨⟨h.1.1, h.1.2.1, h.1.2.2.1, trivial⟩, by omega, trivial⟩
  · rw [if_neg l1] at h ⊢
    by_cases l2 : digit (at' m 0) = true
    · rw [if_pos l2] at h ⊢
      by_cases l3 : 9007199254740992 < digits (sub m 0 (spn digit m 0))
      · rw [if_pos l3] at h; simp at h
      · rw [if_neg l3] at h ⊢
        simp only [Prod.mk.injEq] at h ⊢
        exact ⟨⟨h.1.1, h.1.2.1, h.1.2.2.1, trivial⟩, by omega, trivial⟩
    · rw [if_neg l2] at h ⊢
      by_cases l3 : at' m 0 = 34
      · rw [if_pos l3] at h ⊢
        by_cases l4 : spn txt m (0 + 1) = m.length ∨ at' m (spn txt m (0 + 1)) ≠ 34
        · rw [if_pos l4] at h; simp at h
        · rw [if_neg l4] at h
          rw [if_neg (fun hh => l4 (by
            rcases hh with hh | hh
            · exact .inl (by omega)
            · rw [at_sh5] at hh; exact .inr hh))]
          simp only [Prod.mk.injEq] at h ⊢
          exact ⟨⟨h.1.1, h.1.2.1, h.1.2.2.1, trivial⟩, by omega, trivial⟩
      · rw [if_neg l3] at h ⊢
        by_cases l4 : at' m 0 = 61 ∧ 0 + 1 < m.length ∧ at' m (0 + 1) = 61
        · rw [if_pos l4] at h
          rw [if_pos ⟨l4.1, by omega, l4.2.2⟩]
          simp only [Prod.mk.injEq] at h ⊢
          exact ⟨⟨h.1.1, h.1.2.1, h.1.2.2.1, trivial⟩, by omega, trivial⟩
        · rw [if_neg l4] at h
          rw [if_neg (fun hh => l4 ⟨hh.1, by omega, hh.2.2⟩)]
          by_cases l5 : sgn (at' m 0) = true
          · rw [if_pos l5] at h ⊢
            simp only [Prod.mk.injEq] at h ⊢
            exact ⟨⟨h.1.1, h.1.2.1, h.1.2.2.1, trivial⟩, by omega, trivial⟩
          · rw [if_neg l5] at h; simp at h
/-- A piece of a text: a word with its token, or a blank. -/
inductive Pc where
  | wd (w : List Nat) (k : Nat) (x : List Nat) (n : Nat)
  | bl (c : Nat)
def Pc.bytes : Pc → List Nat
  | .wd w _ _ _ => w
  | .bl c => [c]
def bytes : List Pc → List Nat
  | [] => []
  | p :: r => p.bytes ++ bytes r
def place : List Pc → Nat → List Tok
  | [], _ => []
  | .wd w k x n :: r, o => (k, x, n, o) :: place r (o + w.length)
  | .bl _ :: r, o => place r (o + 1)
/-- A word that is read as its token where R stands behind it. -/
def okPc (R : List Nat) : Pc → Prop
  | .wd w k x n => tok (w ++ R) 0 = ((k, x, n, 0), w.length, 0) ∧ 0 < w.length ∧ blank (at' w 0) = false ∧ at' w 0 ≠ 35
  | .bl c => blank c = true
def okPs : List Pc → Prop
  | [] => True
  | p :: r => okPc (bytes r) p ∧ okPs r
theorem bytes_append : ∀ (a b : List Pc), bytes (a ++ b) = bytes a ++ bytes b
  | [], b => rfl
  | p :: r, b => by simp [bytes, bytes_append r b]
theorem lex_ps : ∀ (ps : List Pc) (P : List Nat), okPs ps → lex (P ++ bytes ps) P.length = (place ps P.length ++ [(5, [], 0, (P ++ bytes ps).length)], 0, 0)
  | [], P, _ => by
    rw [lex_end (by simp [bytes])]; rfl
  | .bl c :: r, P, h => by
    have hb : blank c = true := h.1
    have e : P ++ bytes (.bl c :: r) = (P ++ [c]) ++ bytes r := by simp [bytes, Pc.bytes]
    have ha : at' (P ++ bytes (.bl c :: r)) P.length = c := by
      have := at_sh5 P (bytes (.bl c :: r)) 0
      rw [Nat.add_zero] at this
      rw [this]; rfl
    rw [lex_blank (by simp [bytes, Pc.bytes]) (by rw [ha]; exact hb)]
    have := lex_ps r (P ++ [c]) h.2
    rw [List.length_append, List.length_singleton] at this
    rw [e, this]; rfl
  | .wd w k x n :: r, P, h => by
    obtain ⟨h1, h2, h3, h4⟩ := h.1
    have e : P ++ bytes (.wd w k x n :: r) = (P ++ w) ++ bytes r := by simp [bytes, Pc.bytes]
    have ew : bytes (.wd w k x n :: r) = w ++ bytes r := rfl
    have ha : at' (P ++ bytes (.wd w k x n :: r)) P.length = at' w 0 := by
      have := at_sh5 P (bytes (.wd w k x n :: r)) 0
      rw [Nat.add_zero] at this
      rw [this, ew]
      unfold at'
      rw [List.getElem?_append_left h2]
    have ht := tok_sh5 P (w ++ bytes r) h1
    rw [← ew] at ht
    rw [lex_tok (by rw [ew, List.length_append, List.length_append]; omega) (by rw [ha]; exact h3) (by rw [ha]; exact h4) (by rw [ht]), ht]
    have := lex_ps r (P ++ w) h.2
    rw [List.length_append] at this
    rw [e, this]
    rfl
theorem toks_ps {ps : List Pc} (h : okPs ps) (hl : (bytes ps).length ≤ 16384) : toks (bytes ps) = (place ps 0 ++ [(5, [], 0, (bytes ps).length)], 0, 0) := by
  unfold toks
  rw [if_neg (by omega)]
  have := lex_ps ps [] h
  simpa using this
/-- A span that ends where something else stands. -/
theorem spn_full {p : Nat → Bool} : ∀ (w R : List Nat), (∀ c ∈ w, p c = true) → (R = [] ∨ p (at' R 0) = false) → ((w ++ R).takeWhile p).length = w.length
  | [], R, _, hR => by
    rcases hR with rfl | hR
    · rfl
    · cases R with
      | nil => rfl
      | cons c r =>
        have : p c = false := hR
        simp [List.takeWhile, this]
  | c :: w, R, h, hR => by
    have hc := h c (by simp)
    have := spn_full w R (fun d hd => h d (List.mem_cons_of_mem _ hd)) hR
    simp only [List.cons_append, List.takeWhile_cons_of_pos hc, List.length_cons, this]
theorem sub_full (w R : List Nat) : sub (w ++ R) 0 w.length = w := by
  unfold sub
  simp
theorem ok_name {w R : List Nat} (h0 : 0 < w.length) (hl : w.length ≤ 24) (h1 : letter (at' w 0) = true) (h2 : ∀ c ∈ w, inner c = true) (hR : R = [] ∨ inner (at' R 0) = false) : okPc R (.wd w 1 w 0) := by
  have ha : at' (w ++ R) 0 = at' w 0 := by unfold at'; rw [List.getElem?_append_left h0]
  have hs : spn inner (w ++ R) 0 = w.length := by unfold spn; rw [List.drop_zero, spn_full w R h2 hR]; omega
  refine ⟨?_, h0, ?_, ?_⟩
  · unfold tok
    rw [ha, if_pos h1, hs, if_neg (by omega), sub_full]
  · unfold letter at h1; unfold blank
    simp only [Bool.and_eq_true, decide_eq_true_eq] at h1
    simp; omega
  · unfold letter at h1
    simp only [Bool.and_eq_true, decide_eq_true_eq] at h1
    omega
theorem ok_num {w R : List Nat} (h0 : 0 < w.length) (h2 : ∀ c ∈ w, digit c = true) (hv : digits w ≤ 9007199254740992) (hR : R = [] ∨ digit (at' R 0) = false) : okPc R (.wd w 2 [] (digits w)) := by
  have ha : at' (w ++ R) 0 = at' w 0 := by unfold at'; rw [List.getElem?_append_left h0]
  have hs : spn digit (w ++ R) 0 = w.length := by unfold spn; rw [List.drop_zero, spn_full w R h2 hR]; omega
  have hd : digit (at' w 0) = true := by
    cases w with
    | nil => simp at h0
    | cons c r => exact h2 c (by simp)
  have hd' := hd
  unfold digit at hd'
  simp only [Bool.and_eq_true, decide_eq_true_eq] at hd'
  have hnl : ¬ letter (at' w 0) = true := by unfold letter; simp; omega
  refine ⟨?_, h0, ?_, ?_⟩
  · unfold tok
    rw [ha, if_neg hnl, if_pos hd, hs, sub_full, if_neg (by omega)]
  · unfold blank; simp; omega
  · omega
theorem ok_sign {c : Nat} {R : List Nat} (hc : sgn c = true) (h61 : c = 61 → (R = [] ∨ at' R 0 ≠ 61)) : okPc R (.wd [c] 4 [c] 0) := by
  have hc' : c = 59 ∨ c = 44 ∨ c = 40 ∨ c = 41 ∨ c = 43 ∨ c = 45 ∨ c = 42 ∨ c = 47 ∨ c = 37 ∨ c = 60 ∨ c = 61 := by simpa [sgn, signs] using hc
  have ha : at' ([c] ++ R) 0 = c := rfl
  have hn : ¬ letter c = true := by unfold letter; simp; omega
  have hd : ¬ digit c = true := by unfold digit; simp; omega
  refine ⟨?_, by simp, ?_, ?_⟩
  · unfold tok
    rw [ha, if_neg hn, if_neg hd, if_neg (by omega)]
    rw [if_neg]
    · rw [if_pos hc]; rfl
    · rintro ⟨e1, e2, e3⟩
      have e4 : at' ([c] ++ R) (0 + 1) = at' R 0 := by simp [at']
      rw [e4] at e3
      rcases h61 e1 with h | h
      · subst h; simp at e2
      · exact h e3
  · show blank c = false
    unfold blank; simp; omega
  · show c ≠ 35
    omega
theorem ok_eq2 {R : List Nat} : okPc R (.wd [61, 61] 4 [61, 61] 0) := by
  refine ⟨?_, by simp, by decide, by decide⟩
  unfold tok
  have ha : at' ([61, 61] ++ R) 0 = 61 := rfl
  rw [ha, if_neg (by decide), if_neg (by decide), if_neg (by decide), if_pos ⟨rfl, by simp, rfl⟩]
  rfl
theorem ok_text {w R : List Nat} (h : ∀ c ∈ w, txt c = true) : okPc R (.wd ([34] ++ w ++ [34]) 3 w 0) := by
  have e : [34] ++ w ++ [34] ++ R = 34 :: (w ++ (34 :: R)) := by simp
  have hs : spn txt (34 :: (w ++ (34 :: R))) (0 + 1) = w.length + 1 := by
    unfold spn
    have := spn_full (p := txt) w (34 :: R) h (.inr (show txt 34 = false by decide))
    simp only [Nat.zero_add, List.drop_succ_cons, List.drop_zero, this]; omega
  refine ⟨?_, by simp, by simp [at', blank], by simp [at']⟩
  rw [e]
  unfold tok
  have ha : at' (34 :: (w ++ (34 :: R))) 0 = 34 := rfl
  have hb : at' (34 :: (w ++ (34 :: R))) (w.length + 1) = 34 := by
    unfold at'
    rw [List.getElem?_cons_succ, List.getElem?_append_right (Nat.le_refl _)]
    simp
  rw [ha, if_neg (by decide), if_neg (by decide), if_pos rfl, hs, hb, if_neg (by simp)]
  have hsub : sub (34 :: (w ++ (34 :: R))) (0 + 1) (w.length + 1) = w := by
    unfold sub
    simp
  rw [hsub]
  simp
end LexN
