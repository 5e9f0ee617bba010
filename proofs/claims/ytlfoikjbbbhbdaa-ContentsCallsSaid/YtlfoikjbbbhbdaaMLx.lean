/- Plain mathematics of tokens: spans of bytes, the token at a place, the tokens from a place on. No condition. -/
import Derived.Test.YtlfoikjbbbhbdaaRows
import Derived.Test.YtlfoikjbbbhbdaaStr
namespace LexN
set_option linter.unusedVariables false
set_option linter.unusedSimpArgs false

def letter (c : Nat) : Bool := decide (97 ≤ c) && decide (c ≤ 122)
def digit (c : Nat) : Bool := decide (48 ≤ c) && decide (c ≤ 57)
def inner (c : Nat) : Bool := letter c || digit c || c == 95
def part' (c : Nat) : Bool := inner c || c == 46
def txt (c : Nat) : Bool := decide (32 ≤ c) && decide (c ≤ 126) && c != 34
def line (c : Nat) : Bool := c != 10
def blank (c : Nat) : Bool := c == 32 || c == 9 || c == 10 || c == 13
def signs : List Nat := [59, 44, 40, 41, 43, 45, 42, 47, 37, 60, 61]
def sgn (c : Nat) : Bool := signs.contains c
/-- The byte at a place. -/
def at' (l : List Nat) (i : Nat) : Nat := l[i]?.getD 0
/-- The place behind the bytes that fit, from a place on. -/
def spn (p : Nat → Bool) (l : List Nat) (i : Nat) : Nat := i + ((l.drop i).takeWhile p).length
def sub (l : List Nat) (i j : Nat) : List Nat := (l.take j).drop i

theorem drop_at {l : List Nat} {i : Nat} (h : i < l.length) : l.drop i = at' l i :: l.drop (i + 1) := by
  rw [List.drop_eq_getElem_cons h]; simp [at', h]
theorem spn_step {p : Nat → Bool} {l : List Nat} {i : Nat} (h : i < l.length) (hp : p (at' l i) = true) : spn p l i = spn p l (i + 1) := by
  unfold spn
  rw [drop_at h, List.takeWhile_cons_of_pos hp, List.length_cons]
  omega
theorem spn_no {p : Nat → Bool} {l : List Nat} {i : Nat} (hp : p (at' l i) = false) (h : i < l.length) : spn p l i = i := by
  unfold spn
  rw [drop_at h, List.takeWhile_cons_of_neg (by simp [hp])]
  rfl
theorem spn_end {p : Nat → Bool} {l : List Nat} {i : Nat} (h : l.length ≤ i) : spn p l i = i := by
  unfold spn
  rw [List.drop_eq_nil_of_le h]; rfl
theorem spn_ge (p : Nat → Bool) (l : List Nat) (i : Nat) : i ≤ spn p l i := by unfold spn; omega
theorem spn_le (p : Nat → Bool) {l : List Nat} {i : Nat} (h : i ≤ l.length) : spn p l i ≤ l.length := by
  unfold spn
  have := (List.takeWhile_prefix p (l := l.drop i)).length_le
  rw [List.length_drop] at this
  omega
theorem spn_gt {p : Nat → Bool} {l : List Nat} {i : Nat} (h : i < l.length) (hp : p (at' l i) = true) : i < spn p l i := by
  rw [spn_step h hp]; exact spn_ge _ _ _
/-- All bytes of a span fit. -/
theorem spn_all (p : Nat → Bool) (l : List Nat) : ∀ (n i : Nat), spn p l i = i + n → ∀ j, i ≤ j → j < i + n → p (at' l j) = true := by
  intro n
  induction n with
  | zero => intro i _ j h1 h2; omega
  | succ n ih =>
    intro i h j h1 h2
    by_cases hl : i < l.length
    · by_cases hp : p (at' l i) = true
      · by_cases hj : j = i
        · subst hj; exact hp
        · exact ih (i + 1) (by rw [← spn_step hl hp]; omega) j (by omega) (by omega)
      · rw [spn_no (by simpa using hp) hl] at h; omega
    · rw [spn_end (by omega)] at h; omega
/-- The byte behind a span doesn't fit. -/
theorem spn_stop (p : Nat → Bool) (l : List Nat) : ∀ (n i : Nat), l.length - i ≤ n → spn p l i < l.length → p (at' l (spn p l i)) = false := by
  intro n
  induction n with
  | zero => intro i h1 h2; have := spn_ge p l i; omega
  | succ n ih =>
    intro i h1 h2
    by_cases hl : i < l.length
    · by_cases hp : p (at' l i) = true
      · rw [spn_step hl hp] at h2 ⊢
        exact ih (i + 1) (by omega) h2
      · have hp : p (at' l i) = false := by simpa using hp
        rw [spn_no hp hl]; exact hp
    · rw [spn_end (by omega)] at h2; omega

abbrev Tok := Nat × List Nat × Nat × Nat
def Tok.zero : Tok := (0, [], 0, 0)
def digits (ds : List Nat) : Nat := ds.foldl (fun v c => 10 * v + (c - 48)) 0
/-- The token at a place: the token, the place behind it, the error. -/
def tok (l : List Nat) (i : Nat) : Tok × Nat × Nat :=
  if letter (at' l i) = true then
    if 24 < spn inner l i - i then (Tok.zero, 0, 2) else ((1, sub l i (spn inner l i), 0, i), spn inner l i, 0)
  else if digit (at' l i) = true then
    if 9007199254740992 < digits (sub l i (spn digit l i)) then (Tok.zero, 0, 3) else ((2, [], digits (sub l i (spn digit l i)), i), spn digit l i, 0)
  else if at' l i = 34 then
    if spn txt l (i + 1) = l.length ∨ at' l (spn txt l (i + 1)) ≠ 34 then (Tok.zero, 0, 9) else ((3, sub l (i + 1) (spn txt l (i + 1)), 0, i), spn txt l (i + 1) + 1, 0)
  else if at' l i = 61 ∧ i + 1 < l.length ∧ at' l (i + 1) = 61 then ((4, [61, 61], 0, i), i + 2, 0)
  else if sgn (at' l i) = true then ((4, [at' l i], 0, i), i + 1, 0)
  else (Tok.zero, 0, 9)

theorem tok_next {l : List Nat} {i : Nat} (h : i < l.length) (he : (tok l i).2.2 = 0) : i < (tok l i).2.1 ∧ (tok l i).2.1 ≤ l.length := by
  unfold tok at *
  by_cases h1 : letter (at' l i) = true
  · rw [if_pos h1] at *
    by_cases h2 : 24 < spn inner l i - i
    · rw [if_pos h2] at he; simp at he
    · rw [if_neg h2]
      exact ⟨spn_gt h (by simp [inner, h1]), spn_le _ (by omega)⟩
  · rw [if_neg h1] at *
    by_cases h2 : digit (at' l i) = true
    · rw [if_pos h2] at *
      by_cases h3 : 9007199254740992 < digits (sub l i (spn digit l i))
      · rw [if_pos h3] at he; simp at he
      · rw [if_neg h3]
        exact ⟨spn_gt h h2, spn_le _ (by omega)⟩
    · rw [if_neg h2] at *
      by_cases h3 : at' l i = 34
      · rw [if_pos h3] at *
        by_cases h4 : spn txt l (i + 1) = l.length ∨ at' l (spn txt l (i + 1)) ≠ 34
        · rw [if_pos h4] at he; simp at he
        · rw [if_neg h4]
          have h5 := spn_ge txt l (i + 1)
          have h6 := spn_le txt (l := l) (i := i + 1) (by omega)
          have h7 : spn txt l (i + 1) ≠ l.length := fun e => h4 (.inl e)
          refine ⟨?_, ?_⟩ <;> simp only <;> omega
      · rw [if_neg h3] at *
        by_cases h4 : at' l i = 61 ∧ i + 1 < l.length ∧ at' l (i + 1) = 61
        · rw [if_pos h4]
          refine ⟨?_, ?_⟩ <;> simp only <;> omega
        · rw [if_neg h4] at *
          by_cases h5 : sgn (at' l i) = true
          · rw [if_pos h5]
            refine ⟨?_, ?_⟩ <;> simp only <;> omega
          · rw [if_neg h5] at he; simp at he

abbrev Ans := List Tok × Nat × Nat
/-- Tokens aheadL of an answer. -/
def aheadL (ts : List Tok) (r : Ans) : Ans := if r.2.2 = 0 then (ts ++ r.1, r.2) else r
theorem aheadL_nil (r : Ans) : aheadL [] r = r := by unfold aheadL; split <;> rfl
theorem aheadL_aheadL (a b : List Tok) (r : Ans) : aheadL a (aheadL b r) = aheadL (a ++ b) r := by
  unfold aheadL
  by_cases h : r.2.2 = 0 <;> simp [h]
/-- The tokens from a place on. -/
def lexF (l : List Nat) : Nat → Nat → Ans
  | 0, i => ([], i, 9)
  | n + 1, i =>
    if l.length ≤ i then ([(5, [], 0, l.length)], 0, 0)
    else if blank (at' l i) = true then lexF l n (i + 1)
    else if at' l i = 35 then lexF l n (spn line l i)
    else if (tok l i).2.2 = 0 then aheadL [(tok l i).1] (lexF l n (tok l i).2.1) else ([], i, (tok l i).2.2)
theorem spn_line {l : List Nat} {i : Nat} (h : i < l.length) (h35 : at' l i = 35) : i < spn line l i ∧ spn line l i ≤ l.length :=
  ⟨spn_gt h (by simp [line, h35]), spn_le _ (by omega)⟩
theorem lexF_more (l : List Nat) : ∀ (n m i : Nat), l.length - i < n → l.length - i < m → lexF l n i = lexF l m i := by
  intro n
  induction n with
  | zero => intro m i h; omega
  | succ n ih =>
    intro m i h1 h2
    obtain ⟨m, rfl⟩ : ∃ k, m = k + 1 := ⟨m - 1, by omega⟩
    unfold lexF
    by_cases hl : l.length ≤ i
    · rw [if_pos hl, if_pos hl]
    · rw [if_neg hl, if_neg hl]
      by_cases hb : blank (at' l i) = true
      · rw [if_pos hb, if_pos hb]; exact ih _ _ (by omega) (by omega)
      · rw [if_neg hb, if_neg hb]
        by_cases hc : at' l i = 35
        · rw [if_pos hc, if_pos hc]
          have := spn_line (by omega) hc
          exact ih _ _ (by omega) (by omega)
        · rw [if_neg hc, if_neg hc]
          by_cases he : (tok l i).2.2 = 0
          · rw [if_pos he, if_pos he]
            have := tok_next (by omega) he
            rw [ih m (tok l i).2.1 (by omega) (by omega)]
          · rw [if_neg he, if_neg he]
def lex (l : List Nat) (i : Nat) : Ans := lexF l (l.length + 1 - i) i
theorem lex_fuel {l : List Nat} {n i : Nat} (h : l.length - i < n) (hi : i ≤ l.length) : lexF l n i = lex l i := lexF_more _ _ _ _ h (by omega)
theorem lex_end {l : List Nat} {i : Nat} (h : i = l.length) : lex l i = ([(5, [], 0, l.length)], 0, 0) := by
  subst h
  unfold lex
  rw [show l.length + 1 - l.length = 0 + 1 by omega]
  unfold lexF
  rw [if_pos (Nat.le_refl _)]
theorem lex_blank {l : List Nat} {i : Nat} (h : i < l.length) (hb : blank (at' l i) = true) : lex l i = lex l (i + 1) := by
  unfold lex
  rw [show l.length + 1 - i = (l.length - i) + 1 by omega, lexF, if_neg (by omega), if_pos hb]
  exact lexF_more _ _ _ _ (by omega) (by omega)
theorem lex_comment {l : List Nat} {i : Nat} (h : i < l.length) (hc : at' l i = 35) : lex l i = lex l (spn line l i) := by
  have := spn_line h hc
  unfold lex
  rw [show l.length + 1 - i = (l.length - i) + 1 by omega, lexF, if_neg (by omega), if_neg (by rw [hc]; decide), if_pos hc]
  exact lexF_more _ _ _ _ (by omega) (by omega)
theorem lex_tok {l : List Nat} {i : Nat} (h : i < l.length) (hb : blank (at' l i) = false) (hc : at' l i ≠ 35) (he : (tok l i).2.2 = 0) : lex l i = aheadL [(tok l i).1] (lex l (tok l i).2.1) := by
  have := tok_next h he
  unfold lex
  rw [show l.length + 1 - i = (l.length - i) + 1 by omega, lexF, if_neg (by omega), if_neg (by simp [hb]), if_neg hc, if_pos he]
  rw [lexF_more l (l.length - i) (l.length + 1 - (tok l i).2.1) _ (by omega) (by omega)]
theorem lex_err {l : List Nat} {i : Nat} (h : i < l.length) (hb : blank (at' l i) = false) (hc : at' l i ≠ 35) (he : (tok l i).2.2 ≠ 0) : lex l i = ([], i, (tok l i).2.2) := by
  unfold lex
  rw [show l.length + 1 - i = (l.length - i) + 1 by omega, lexF, if_neg (by omega), if_neg (by simp [hb]), if_neg hc, if_neg he]

/-- What Tokens answers. -/
def toks (l : List Nat) : Ans := if 16384 < l.length then ([], 0, 2) else lex l 0
theorem digits_snoc (ds : List Nat) (c : Nat) : digits (ds ++ [c]) = 10 * digits ds + (c - 48) := by
  unfold digits; rw [List.foldl_append]; rfl
theorem digits_mono (ds es : List Nat) : digits ds ≤ digits (ds ++ es) := by
  induction es generalizing ds with
  | nil => simp
  | cons e es ih =>
    have := ih (ds ++ [e])
    rw [digits_snoc] at this
    rw [show ds ++ e :: es = ds ++ [e] ++ es by simp]
    omega
theorem sub_snoc {l : List Nat} {i j : Nat} (hij : i ≤ j) (hj : j < l.length) : sub l i (j + 1) = sub l i j ++ [at' l j] := by
  unfold sub
  rw [List.take_succ_eq_append_getElem hj, List.drop_append_of_le_length (by rw [List.length_take]; omega)]
  simp [at', hj]
theorem sub_self (l : List Nat) (i : Nat) : sub l i i = [] := by
  unfold sub
  rw [List.drop_eq_nil_of_le (by rw [List.length_take]; omega)]
theorem sub_len {l : List Nat} {i j : Nat} (hj : j ≤ l.length) : (sub l i j).length = j - i := by
  unfold sub; rw [List.length_drop, List.length_take]; omega
theorem sub_at {l : List Nat} {i j k : Nat} (hj : j ≤ l.length) (hk : k < j - i) : at' (sub l i j) k = at' l (i + k) := by
  unfold sub at'
  rw [List.getElem?_drop, List.getElem?_take, if_pos (by omega)]
theorem sub_one {l : List Nat} {i : Nat} (h : i < l.length) : sub l i (i + 1) = [at' l i] := by
  rw [sub_snoc (Nat.le_refl _) h, sub_self]; rfl
end LexN

/- Strings as lists of bytes: index, length, parts, the way to bytes and back. Conditions: the places lie in the string. -/
namespace Go.Proofs.Ytlfoikjbbbhbdaa
namespace By
open Go.RowKit WireN LexN
set_option linter.unusedVariables false
set_option linter.unusedSimpArgs false

theorem idx {l : List Nat} (hl : Lt l) {i : Nat} (h : i < l.length) (w : World) : (Instr.index 9 (.string (st l)) (.int .i64 (i : Int))).run Try.prog w = .ok (.int .u8 (at' l i : Nat)) w := by
  have hrs : i < (st l).size := by rw [st_size]; exact h
  have h1 : i < (st l).data.toList.length := hrs
  rw [run_index_string w 9 (st l) .i64 i Try.underlying9, dif_pos (by omega)]
  have e := bs_get (st l) i hrs
  rw [bs_st hl, List.getD_eq_getElem?_getD, List.getElem?_eq_getElem h1] at e
  unfold at'
  rw [← e]
  rfl
theorem len {l : List Nat} (w : World) : (Builtin.len_ #[9] 3 #[.string (st l)]).run Try.prog w = .ok (goInt l.length) w := by
  rw [run_len_string w _ _ (st l) Try.underlying9, st_size]
theorem st_sub {l : List Nat} {i j : Nat} : (st l).extract i j = st (sub l i j) := by
  unfold st sub
  apply ByteArray.ext
  apply Array.ext'
  simp [List.map_drop, List.map_take, ByteArray.data_extract, List.drop_take]
/-- s[i:j] -/
theorem cut {l : List Nat} {i j : Nat} (hij : i ≤ j) (hj : j ≤ l.length) (w : World) : (Instr.slice 9 (.string (st l)) (some (.int .i64 (i : Int))) (some (.int .i64 (j : Int))) none).run Try.prog w = .ok (.string (st (sub l i j))) w := by
  rw [run_slice_string w 9 (st l) .i64 .i64 i j Try.underlying9 (by omega) (by omega) (by rw [st_size]; omega), Int.toNat_natCast, Int.toNat_natCast, st_sub]
/-- s[i:] -/
theorem cut_from {l : List Nat} {i : Nat} (hi : i ≤ l.length) (w : World) : (Instr.slice 9 (.string (st l)) (some (.int .i64 (i : Int))) none none).run Try.prog w = .ok (.string (st (l.drop i))) w := by
  rw [run_slice_string_l w 9 (st l) Try.underlying9 .i64 i (by omega) (by rw [st_size]; omega), Int.toNat_natCast, st_sub, st_size]
  unfold sub
  rw [List.take_of_length_le (Nat.le_refl _)]
/-- s[:j] -/
theorem cut_to {l : List Nat} {j : Nat} (hj : j ≤ l.length) (w : World) : (Instr.slice 9 (.string (st l)) none (some (.int .i64 (j : Int))) none).run Try.prog w = .ok (.string (st (l.take j))) w := by
  rw [run_slice_string_h w 9 (st l) Try.underlying9 .i64 j (by omega) (by rw [st_size]; omega), Int.toNat_natCast, st_sub]
  rfl
end By
end Go.Proofs.Ytlfoikjbbbhbdaa
