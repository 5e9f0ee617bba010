/- What a revision is: its errors, its bytes, what bytes are read as. Plain mathematics. No condition. -/
import Derived.Test.YtpgnckjgclbepaaDoorWFm
import Derived.Test.YtpgnckjgclbepaaDoorLPath
namespace Go.Proofs.YtpgnckjgclbepaaDoor
namespace RevN
open WireN LexN
set_option linter.unusedVariables false
set_option linter.unusedSimpArgs false

/-- A file: its path and its bytes. -/
abbrev Fl := List Nat × List Nat
/-- The order of strings. -/
def lss : List Nat → List Nat → Bool
  | _, [] => false
  | [], _ :: _ => true
  | a :: x, b :: y => decide (a < b) || (a == b && lss x y)
theorem lss_nil (x : List Nat) : lss x [] = false := by cases x <;> rfl
theorem lss_self : ∀ x : List Nat, lss x x = false
  | [] => rfl
  | a :: x => by simp [lss, lss_self x]
/-- The error of a file behind another one. -/
def fileE (before : List Nat) (f : Fl) : Nat :=
  if pathB f.1 = false then 6 else if f.1 = before then 10 else if lss f.1 before = true then 6 else if 16384 < f.2.length then 2 else 0
def chkL : List Nat → List Fl → Nat
  | _, [] => 0
  | before, f :: fs => if fileE before f ≠ 0 then fileE before f else chkL f.1 fs
/-- The error of a revision. -/
def chk (fs : List Fl) : Nat := if 64 < fs.length then 2 else chkL [] fs
theorem fileE_le (p : List Nat) (f : Fl) : fileE p f ≤ 10 := by unfold fileE; split <;> (try split) <;> (try split) <;> (try split) <;> omega
theorem chkL_le : ∀ (fs : List Fl) (p : List Nat), chkL p fs ≤ 10
  | [], p => by simp [chkL]
  | f :: fs, p => by
    unfold chkL
    split
    · exact fileE_le _ _
    · exact chkL_le fs _
theorem chk_le (fs : List Fl) : chk fs ≤ 10 := by
  unfold chk
  split
  · omega
  · exact chkL_le _ _
/-- The path of the file before. -/
def bef (fs : List Fl) (k : Nat) : List Nat := if k = 0 then [] else (fs[k - 1]?.getD ([], [])).1
theorem bef_zero (fs : List Fl) : bef fs 0 = [] := rfl
theorem bef_succ {fs : List Fl} {k : Nat} {f : Fl} (h : fs[k]? = some f) : bef fs (k + 1) = f.1 := by simp [bef, h]
theorem chkL_step {fs : List Fl} {k : Nat} {f : Fl} (h : fs[k]? = some f) (p : List Nat) : chkL p (fs.drop k) = if fileE p f ≠ 0 then fileE p f else chkL f.1 (fs.drop (k + 1)) := by
  obtain ⟨hk, he⟩ := List.getElem?_eq_some_iff.1 h
  rw [List.drop_eq_getElem_cons hk, he]
  rfl
/-- A revision that is well-formed. -/
theorem chk_ok {fs : List Fl} (h : chk fs = 0) : fs.length ≤ 64 ∧ chkL [] fs = 0 := by
  unfold chk at h
  split at h
  · omega
  · exact ⟨by omega, h⟩
theorem fileE_ok {p : List Nat} {f : Fl} (h : fileE p f = 0) : pathB f.1 = true ∧ f.1 ≠ p ∧ lss f.1 p = false ∧ f.2.length ≤ 16384 := by
  unfold fileE at h
  split at h
  · omega
  · split at h
    · omega
    · split at h
      · omega
      · split at h
        · omega
        · rename_i h1 h2 h3 h4
          exact ⟨by simpa using h1, h2, by simpa using h3, by omega⟩
theorem chkL_mem : ∀ {fs : List Fl} {p : List Nat}, chkL p fs = 0 → ∀ f ∈ fs, pathB f.1 = true ∧ f.2.length ≤ 16384
  | [], p, _, f, hf => by simp at hf
  | g :: fs, p, h, f, hf => by
    unfold chkL at h
    split at h
    · rename_i h1; omega
    · rename_i h1
      have h1 : fileE p g = 0 := by omega
      rcases List.mem_cons.1 hf with rfl | hf
      · exact ⟨(fileE_ok h1).1, (fileE_ok h1).2.2.2⟩
      · exact chkL_mem h f hf
theorem path_len {p : List Nat} (h : pathB p = true) : p.length ≤ 80 := by
  unfold pathB at h
  simp only [Bool.and_eq_true, decide_eq_true_eq] at h
  exact h.1
theorem path_nil : pathB [] = false := by decide +kernel
theorem path_ne {p : List Nat} (h : pathB p = true) : p ≠ [] := fun e => by rw [e, path_nil] at h; cases h
/-- The payload of a file, its frame, and the bytes of a revision. -/
def payF (f : Fl) : List Nat := uv f.1.length ++ f.1 ++ (uv f.2.length ++ f.2)
def encF (f : Fl) : List Nat := fr 1 (payF f)
def encB (fs : List Fl) : List Nat := (fs.map encF).flatten
def enc (fs : List Fl) : List Nat := encB fs ++ fr 2 (uv fs.length)
theorem encB_take {fs : List Fl} {k : Nat} {f : Fl} (h : fs[k]? = some f) : encB (fs.take (k + 1)) = encB (fs.take k) ++ encF f := by
  unfold encB
  rw [List.take_add_one, h]
  simp
theorem payF_len {f : Fl} (hp : f.1.length ≤ 80) (hb : f.2.length ≤ 16384) : (payF f).length ≤ 16500 := by
  have h1 := uv_ten (n := f.1.length) (by omega)
  have h2 := uv_ten (n := f.2.length) (by omega)
  simp only [payF, List.length_append]
  omega
theorem encF_len {f : Fl} (hp : f.1.length ≤ 80) (hb : f.2.length ≤ 16384) : (encF f).length ≤ 16600 := by
  have h1 := payF_len hp hb
  have h2 := uv_ten (n := (payF f).length) (by omega)
  unfold encF
  rw [fr_len]
  omega
theorem encB_len : ∀ {fs : List Fl}, (∀ f ∈ fs, f.1.length ≤ 80 ∧ f.2.length ≤ 16384) → (encB fs).length ≤ 16600 * fs.length
  | [], _ => by simp [encB]
  | f :: fs, h => by
    have h1 := encF_len (h f (by simp)).1 (h f (by simp)).2
    have h2 := encB_len (fs := fs) (fun g hg => h g (by simp [hg]))
    simp only [encB, List.map_cons, List.flatten_cons, List.length_append, List.length_cons] at h2 ⊢
    omega
/-- The file that a payload means. -/
def rdF (l : List Nat) : Option Fl :=
  if (rdT l 0 l.length).2.2 ≠ 0 then none
  else if (rdT l (rdT l 0 l.length).2.1 l.length).2.2 ≠ 0 ∨ (rdT l (rdT l 0 l.length).2.1 l.length).2.1 ≠ l.length then none
  else some ((rdT l 0 l.length).1, (rdT l (rdT l 0 l.length).2.1 l.length).1)
/-- The files of frames. -/
def rdL : List (Nat × List Nat) → Option (List Fl)
  | [] => some []
  | f :: fs => if f.1 = 1 then match rdF f.2 with | none => none | some x => match rdL fs with | none => none | some r => some (x :: r) else none
theorem rdL_snoc : ∀ (a : List (Nat × List Nat)) (f : Nat × List Nat) (r : List Fl) (x : Fl), rdL a = some r → f.1 = 1 → rdF f.2 = some x → rdL (a ++ [f]) = some (r ++ [x])
  | [], f, r, x, h, h1, h2 => by
    obtain rfl : [] = r := by simpa [rdL] using h
    simp [rdL, h1, h2]
  | g :: a, f, r, x, h, h1, h2 => by
    simp only [List.cons_append, rdL] at h ⊢
    split at h
    · rename_i hg
      rw [if_pos hg]
      split at h
      · cases h
      · rename_i y hy
        split at h
        · cases h
        · rename_i r' hr'
          injection h with h
          rw [rdL_snoc a f r' x hr' h1 h2]
          simp [← h]
    · cases h
theorem rdL_bad : ∀ (fs : List (Nat × List Nat)) (k : Nat) (f : Nat × List Nat), fs[k]? = some f → (f.1 ≠ 1 ∨ rdF f.2 = none) → rdL fs = none
  | [], k, f, h, _ => by simp at h
  | g :: fs, 0, f, h, hb => by
    obtain rfl : g = f := by simpa using h
    unfold rdL
    rcases hb with hb | hb
    · rw [if_neg hb]
    · split
      · rw [hb]
      · rfl
  | g :: fs, k + 1, f, h, hb => by
    unfold rdL
    rw [rdL_bad fs k f (by simpa using h) hb]
    split
    · split <;> rfl
    · rfl
theorem rdL_len : ∀ (fs : List (Nat × List Nat)) (r : List Fl), rdL fs = some r → r.length = fs.length
  | [], r, h => by
    obtain rfl : [] = r := by simpa [rdL] using h
    rfl
  | g :: fs, r, h => by
    simp only [rdL] at h
    split at h
    · split at h
      · cases h
      · split at h
        · cases h
        · rename_i r' hr'
          injection h with h
          rw [← h, List.length_cons, List.length_cons, rdL_len fs r' hr']
    · cases h
/-- Whether a payload is a number. -/
def isN (l : List Nat) (n : Nat) : Bool := decide ((rd l 0).1 = n) && (decide ((rd l 0).2.2 = 0) && decide ((rd l 0).2.1 = l.length))
/-- What frames are read as: the error, the files. -/
def dec (fs : List (Nat × List Nat)) (E : Nat) : Nat × List Fl :=
  if E ≠ 0 then (E, []) else
  if fs.length = 0 ∨ (fs[fs.length - 1]?.getD (0, [])).1 ≠ 2 then (7, []) else
  match rdL (fs.take (fs.length - 1)) with
  | none => (6, [])
  | some r => if isN (fs[fs.length - 1]?.getD (0, [])).2 (fs.length - 1) = false then (6, []) else if chk r ≠ 0 then (chk r, []) else (0, r)
end RevN
end Go.Proofs.YtpgnckjgclbepaaDoor
