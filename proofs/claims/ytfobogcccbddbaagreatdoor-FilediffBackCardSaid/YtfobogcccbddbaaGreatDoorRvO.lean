/- The order of paths, where a path is among sorted files, and that what was written is read back. Plain mathematics. No condition. -/
import Derived.Test.YtfobogcccbddbaaGreatDoorZad
import Derived.Test.YtfobogcccbddbaaGreatDoorZac
namespace Go.Proofs.YtfobogcccbddbaaGreatDoor
namespace RevN
open WireN LexN
set_option linter.unusedVariables false
set_option linter.unusedSimpArgs false

theorem lss_trans : ∀ {a b c : List Nat}, lss a b = true → lss b c = true → lss a c = true
  | a, b, [], _, h => by rw [lss_nil] at h; cases h
  | [], b, z :: c, _, _ => rfl
  | x :: a, [], z :: c, h, _ => by simp [lss] at h
  | x :: a, y :: b, z :: c, h1, h2 => by
    simp only [lss, Bool.or_eq_true, decide_eq_true_eq, Bool.and_eq_true, beq_iff_eq] at h1 h2 ⊢
    rcases h1 with h1 | ⟨h1, h1'⟩ <;> rcases h2 with h2 | ⟨h2, h2'⟩
    · exact .inl (by omega)
    · exact .inl (by omega)
    · exact .inl (by omega)
    · exact .inr ⟨by omega, lss_trans h1' h2'⟩
theorem lss_total : ∀ {a b : List Nat}, lss a b = false → a ≠ b → lss b a = true
  | [], [], _, h => absurd rfl h
  | [], y :: b, h, _ => by simp [lss] at h
  | x :: a, [], _, _ => rfl
  | x :: a, y :: b, h, hne => by
    simp only [lss, Bool.or_eq_false_iff, decide_eq_false_iff_not, Bool.and_eq_false_iff, beq_eq_false_iff_ne, Bool.or_eq_true, decide_eq_true_eq, Bool.and_eq_true, beq_iff_eq, Nat.not_lt] at h ⊢
    obtain ⟨h1, h2⟩ := h
    by_cases hxy : x = y
    · subst hxy
      rcases h2 with h2 | h2
      · exact absurd rfl h2
      · exact .inr ⟨rfl, lss_total h2 (fun e => hne (by rw [e]))⟩
    · exact .inl (by omega)
theorem lss_asymm {a b : List Nat} (h : lss a b = true) : lss b a = false := by
  cases h2 : lss b a with
  | false => rfl
  | true =>
    have := lss_trans h h2
    rw [lss_self] at this
    cases this
theorem lss_ne {a b : List Nat} (h : lss a b = true) : a ≠ b := fun e => by rw [e, lss_self] at h; cases h
theorem lss_of_ne {b : List Nat} (h : b ≠ []) : lss [] b = true := by
  cases b with
  | nil => exact absurd rfl h
  | cons y b => rfl
/-- The files of a well-formed revision ascend. -/
theorem chkL_gt : ∀ {fs : List Fl} {p : List Nat}, chkL p fs = 0 → ∀ f ∈ fs, lss p f.1 = true
  | [], p, _, f, hf => by simp at hf
  | g :: fs, p, h, f, hf => by
    unfold chkL at h
    split at h
    · rename_i h1; omega
    · rename_i h1
      obtain ⟨h2, h3, h4, h5⟩ := fileE_ok (show fileE p g = 0 by omega)
      have h6 : lss p g.1 = true := lss_total h4 h3
      rcases List.mem_cons.1 hf with rfl | hf
      · exact h6
      · exact lss_trans h6 (chkL_gt h f hf)
theorem chkL_tail {f : Fl} {fs : List Fl} {p : List Nat} (h : chkL p (f :: fs) = 0) : chkL f.1 fs = 0 ∧ fileE p f = 0 := by
  unfold chkL at h
  split at h
  · rename_i h1; omega
  · rename_i h1
    exact ⟨h, by omega⟩
/-- Where a path is among the files, or would be. -/
def pos : List Fl → List Nat → Nat
  | [], _ => 0
  | f :: fs, p => if lss f.1 p = true then pos fs p + 1 else 0
theorem pos_le : ∀ (fs : List Fl) (p : List Nat), pos fs p ≤ fs.length
  | [], p => Nat.le_refl _
  | f :: fs, p => by
    have := pos_le fs p
    unfold pos
    split
    · simp; omega
    · exact Nat.zero_le _
theorem pos_lt : ∀ {fs : List Fl} {p : List Nat} {k : Nat} {f : Fl}, k < pos fs p → fs[k]? = some f → lss f.1 p = true
  | [], p, k, f, h, _ => by simp [pos] at h
  | g :: fs, p, 0, f, h, hf => by
    unfold pos at h
    obtain rfl : g = f := by simpa using hf
    split at h
    · assumption
    · omega
  | g :: fs, p, k + 1, f, h, hf => by
    unfold pos at h
    split at h
    · have hk : k < pos fs p := by omega
      exact pos_lt hk (by simpa using hf)
    · omega
theorem pos_ge : ∀ {fs : List Fl} {p q : List Nat} {k : Nat} {f : Fl}, chkL q fs = 0 → pos fs p ≤ k → fs[k]? = some f → lss f.1 p = false
  | [], p, q, k, f, _, _, hf => by simp at hf
  | g :: fs, p, q, 0, f, hc, h, hf => by
    obtain rfl : g = f := by simpa using hf
    unfold pos at h
    split at h
    · omega
    · rename_i h1; simpa using h1
  | g :: fs, p, q, k + 1, f, hc, h, hf => by
    unfold pos at h
    split at h
    · have hk : pos fs p ≤ k := by omega
      exact pos_ge (chkL_tail hc).1 hk (by simpa using hf)
    · rename_i h1
      have h2 := chkL_gt (chkL_tail hc).1 f (List.mem_of_getElem? (by simpa using hf))
      cases h3 : lss f.1 p with
      | false => rfl
      | true => exact absurd (lss_trans h2 h3) h1
/-- Whether there is a file of this path. -/
def hasP (fs : List Fl) (p : List Nat) : Bool := match fs[pos fs p]? with | some f => decide (f.1 = p) | none => false
/-- The files with one put among them. -/
def putL (fs : List Fl) (x : Fl) : List Fl := fs.take (pos fs x.1) ++ ([x] ++ (if hasP fs x.1 = true then fs.drop (pos fs x.1 + 1) else fs.drop (pos fs x.1)))
def remL (fs : List Fl) (p : List Nat) : List Fl := fs.take (pos fs p) ++ fs.drop (pos fs p + 1)
/-- What Put answers. -/
def putF (fs : List Fl) (p b : List Nat) : Nat × List Fl :=
  if chk fs ≠ 0 then (chk fs, []) else if pathB p = false then (6, []) else if 16384 < b.length ∨ 64 < (putL fs (p, b)).length then (2, []) else (0, putL fs (p, b))
def remF (fs : List Fl) (p : List Nat) : Nat × List Fl :=
  if chk fs ≠ 0 then (chk fs, []) else if hasP fs p = false then (18, []) else (0, remL fs p)
/-- The bytes of a file. -/
def bytesAt (fs : List Fl) (p : List Nat) : List Nat := (fs[pos fs p]?.getD ([], [])).2
def movF (fs : List Fl) (p q : List Nat) : Nat × List Fl :=
  if chk fs ≠ 0 then (chk fs, []) else if pathB q = false then (6, []) else if hasP fs p = false then (18, []) else if hasP fs q = true then (19, []) else putF (remL fs p) q (bytesAt fs p)
def findF (fs : List Fl) (p : List Nat) : List Nat × Bool :=
  if chk fs ≠ 0 then ([], false) else if hasP fs p = false then ([], false) else (bytesAt fs p, true)
def srcB (p : List Nat) : Bool := pathB p && (decide (4 < p.length) && decide (p.drop (p.length - 4) = [46, 115, 114, 99]))

/-- The frames of a revision. -/
def frames (fs : List Fl) : List (Nat × List Nat) := fs.map (fun f => (1, payF f)) ++ [(2, uv fs.length)]
theorem chain_map : ∀ (fs : List Fl) (a m : List Nat), (∀ f ∈ fs, f.1.length ≤ 80 ∧ f.2.length ≤ 16384) →
    Chain (a ++ (encB fs ++ m)) a.length (fs.map (fun f => (1, payF f))) (a.length + (encB fs).length)
  | [], a, m, _ => by simp [encB, Chain]
  | f :: fs, a, m, h => by
    have hp := payF_len (h f (by simp)).1 (h f (by simp)).2
    have he : encB (f :: fs) = fr 1 (payF f) ++ encB fs := by simp [encB, encF]
    have hnx := nx_back a (encB fs ++ m) (k := 1) (p := payF f) (by omega) (by omega)
    have hl : a ++ (encB (f :: fs) ++ m) = a ++ (fr 1 (payF f) ++ (encB fs ++ m)) := by rw [he]; simp
    have ih := chain_map fs (a ++ fr 1 (payF f)) m (fun g hg => h g (by simp [hg]))
    rw [hl]
    refine ⟨?_, ?_, ?_, ?_⟩
    · have := fr_len 1 (payF f)
      simp only [List.length_append]; omega
    · rw [hnx]
    · rw [hnx]
    · rw [hnx]
      have e1 : a ++ fr 1 (payF f) ++ (encB fs ++ m) = a ++ (fr 1 (payF f) ++ (encB fs ++ m)) := by simp
      have e2 : (a ++ fr 1 (payF f)).length = a.length + (fr 1 (payF f)).length := by simp
      rw [e1, e2] at ih
      rw [he, List.length_append, ← Nat.add_assoc]
      exact ih
theorem Chain.append {l : List Nat} : ∀ {r s : List (Nat × List Nat)} {p q t : Nat}, Chain l p r q → Chain l q s t → Chain l p (r ++ s) t
  | [], s, p, q, t, h, h2 => by
    have h : p = q := h
    subst h
    exact h2
  | x :: r, s, p, q, t, h, h2 => ⟨h.1, h.2.1, h.2.2.1, Chain.append h.2.2.2 h2⟩
theorem chain_enc {fs : List Fl} (h : ∀ f ∈ fs, f.1.length ≤ 80 ∧ f.2.length ≤ 16384) (hn : fs.length ≤ 64) : Chain (enc fs) 0 (frames fs) (enc fs).length := by
  have h1 := chain_map fs [] (fr 2 (uv fs.length)) h
  have hu := uv_ten (n := fs.length) (by omega)
  have hnx := nx_back (encB fs) [] (k := 2) (p := uv fs.length) (by omega) (by omega)
  simp only [List.nil_append, List.length_nil, Nat.zero_add, List.append_nil] at h1 hnx
  refine Chain.append h1 ⟨?_, ?_, ?_, ?_⟩
  · have := fr_len 2 (uv fs.length)
    simp only [enc, List.length_append]; omega
  · show (nx (encB fs ++ fr 2 (uv fs.length)) _).2.2.2 = 0
    rw [hnx]
  · show _ = ((nx (encB fs ++ fr 2 (uv fs.length)) _).1, (nx (encB fs ++ fr 2 (uv fs.length)) _).2.1)
    rw [hnx]
  · show (nx (encB fs ++ fr 2 (uv fs.length)) _).2.2.1 = _
    rw [hnx, enc, List.length_append]
theorem stops_end {l : List Nat} : Stops l l.length 0 := .inl ⟨Nat.le_refl _, rfl⟩
theorem rdF_pay {f : Fl} (hp : f.1.length ≤ 80) (hb : f.2.length ≤ 16384) : rdF (payF f) = some f := by
  have hl : (payF f).length ≤ 16500 := payF_len hp hb
  have e1 : payF f = [] ++ (uv f.1.length ++ (f.1 ++ (uv f.2.length ++ f.2))) := by simp [payF]
  have e2 : payF f = (uv f.1.length ++ f.1) ++ (uv f.2.length ++ (f.2 ++ [])) := by simp [payF]
  have h1 := rdT_back [] f.1 (uv f.2.length ++ f.2) (most := ((payF f).length : Nat)) (by simp only [payF, List.length_append]; omega) (by omega)
  have h2 := rdT_back (uv f.1.length ++ f.1) f.2 [] (most := ((payF f).length : Nat)) (by simp only [payF, List.length_append]; omega) (by omega)
  rw [← e1] at h1
  rw [← e2] at h2
  simp only [List.length_nil, Nat.zero_add] at h1
  have h1 : rdT (payF f) 0 ((payF f).length : Nat) = (f.1, (uv f.1.length).length + f.1.length, 0) := h1
  have e3 : (uv f.1.length ++ f.1).length = (uv f.1.length).length + f.1.length := by simp
  rw [e3] at h2
  unfold rdF
  rw [h1]
  simp only [ne_eq, not_true_eq_false, if_false]
  rw [h2]
  simp only [not_true_eq_false, false_or]
  rw [if_neg (by simp only [payF, List.length_append]; omega)]
theorem rdL_map : ∀ (fs : List Fl), (∀ f ∈ fs, f.1.length ≤ 80 ∧ f.2.length ≤ 16384) → rdL (fs.map (fun f => (1, payF f))) = some fs
  | [], _ => rfl
  | f :: fs, h => by
    simp only [List.map_cons, rdL, if_true]
    rw [rdF_pay (h f (by simp)).1 (h f (by simp)).2, rdL_map fs (fun g hg => h g (by simp [hg]))]
theorem isN_uv {n : Nat} (h : n < 18446744073709551616) : isN (uv n) n = true := by
  have h1 := rd_back [] [] h
  simp only [List.nil_append, List.append_nil, List.length_nil, Nat.zero_add] at h1
  have h1 : rd (uv n) 0 = (n, (uv n).length, 0) := h1
  unfold isN
  rw [h1]
  simp
/-- What was written is read back. -/
theorem dec_enc {fs : List Fl} (h : chk fs = 0) : dec (frames fs) 0 = (0, fs) := by
  have hm : ∀ f ∈ fs, f.1.length ≤ 80 ∧ f.2.length ≤ 16384 := fun f hf => ⟨path_len (chkL_mem (chk_ok h).2 f hf).1, (chkL_mem (chk_ok h).2 f hf).2⟩
  have hl : (frames fs).length = fs.length + 1 := by simp [frames]
  have hg : (frames fs)[fs.length]? = some (2, uv fs.length) := by simp [frames]
  have ht : (frames fs).take fs.length = fs.map (fun f => (1, payF f)) := by
    have : (fs.map (fun f => (1, payF f))).length = fs.length := by simp
    unfold frames
    rw [List.take_append_of_le_length (by simp), ← this, List.take_length]
  unfold dec
  rw [if_neg (by simp), hl, show fs.length + 1 - 1 = fs.length by omega, hg, ht, rdL_map fs hm]
  simp only [Option.getD_some]
  have hi := isN_uv (n := fs.length) (by have := (chk_ok h).1; omega)
  rw [if_neg (by omega)]
  simp [h, hi]
end RevN
end Go.Proofs.YtfobogcccbddbaaGreatDoor
