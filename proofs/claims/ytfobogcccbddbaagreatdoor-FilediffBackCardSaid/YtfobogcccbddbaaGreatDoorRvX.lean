/- Where a path is among the files, plain. No condition. -/
import Derived.Test.YtfobogcccbddbaaGreatDoorRvO
namespace Go.Proofs.YtfobogcccbddbaaGreatDoor
set_option linter.unusedVariables false
set_option linter.unusedSimpArgs false
namespace RevN
open WireN LexN
theorem fileE_zero {p : List Nat} {f : Fl} (h1 : pathB f.1 = true) (h2 : lss p f.1 = true) (h3 : f.2.length ≤ 16384) : fileE p f = 0 := by
  unfold fileE
  rw [if_neg (by rw [h1]; simp), if_neg (fun e => lss_ne h2 e.symm), if_neg (by rw [lss_asymm h2]; simp), if_neg (by omega)]
theorem chkL_cons {p : List Nat} {f : Fl} {fs : List Fl} (h1 : fileE p f = 0) (h2 : chkL f.1 fs = 0) : chkL p (f :: fs) = 0 := by
  unfold chkL
  rw [if_neg (by omega)]
  exact h2
theorem pos_split : ∀ (A C : List Fl) (p : List Nat), (∀ a ∈ A, lss a.1 p = true) → (∀ x, C.head? = some x → lss x.1 p = false) → pos (A ++ C) p = A.length
  | [], [], p, _, _ => rfl
  | [], c :: C, p, _, h => by
    have := h c rfl
    simp [pos, this]
  | a :: A, C, p, ha, h => by
    have h1 := ha a (List.mem_cons_self ..)
    have h2 := pos_split A C p (fun x hx => ha x (List.mem_cons_of_mem _ hx)) h
    simp [pos, h1, h2]
theorem at_split (A C : List Fl) : (A ++ C)[A.length]? = C.head? := by
  rw [List.getElem?_append_right (Nat.le_refl _), Nat.sub_self]
  cases C <;> rfl
theorem has_split {A C : List Fl} {p : List Nat} (ha : ∀ a ∈ A, lss a.1 p = true) (h : ∀ x, C.head? = some x → lss x.1 p = false) : hasP (A ++ C) p = match C.head? with | some f => decide (f.1 = p) | none => false := by
  unfold hasP
  rw [pos_split A C p ha h, at_split]
  cases C <;> rfl
theorem has_mid {A B : List Fl} {f : Fl} (ha : ∀ a ∈ A, lss a.1 f.1 = true) : hasP (A ++ f :: B) f.1 = true := by
  rw [has_split ha (fun x hx => by simp at hx; subst hx; exact lss_self _)]
  simp
theorem has_not {A C : List Fl} {p : List Nat} (ha : ∀ a ∈ A, lss a.1 p = true) (h : ∀ x, C.head? = some x → lss p x.1 = true) : hasP (A ++ C) p = false := by
  rw [has_split ha (fun x hx => lss_asymm (h x hx))]
  cases hc : C.head? with
  | none => rfl
  | some x => simp; exact fun e => lss_ne (h x hc) e.symm
theorem put_not {A C : List Fl} {p b : List Nat} (ha : ∀ a ∈ A, lss a.1 p = true) (h : ∀ x, C.head? = some x → lss p x.1 = true) : putL (A ++ C) (p, b) = A ++ (p, b) :: C := by
  unfold putL
  rw [has_not ha h, pos_split A C p ha (fun x hx => lss_asymm (h x hx))]
  simp
theorem rem_mid {A B : List Fl} {f : Fl} (ha : ∀ a ∈ A, lss a.1 f.1 = true) : remL (A ++ f :: B) f.1 = A ++ B := by
  unfold remL
  rw [pos_split A (f :: B) f.1 ha (fun x hx => by simp at hx; subst hx; exact lss_self _)]
  simp
theorem bytes_mid {A B : List Fl} {f : Fl} (ha : ∀ a ∈ A, lss a.1 f.1 = true) : bytesAt (A ++ f :: B) f.1 = f.2 := by
  unfold bytesAt
  rw [pos_split A (f :: B) f.1 ha (fun x hx => by simp at hx; subst hx; exact lss_self _), at_split]
  rfl
/-- What is true of the parts of a well-formed list around one of its files. -/
theorem chkL_split : ∀ {A B : List Fl} {f : Fl} {p : List Nat}, chkL p (A ++ f :: B) = 0 → (∀ a ∈ A, lss a.1 f.1 = true) ∧ (∀ b ∈ B, lss f.1 b.1 = true) ∧ chkL p (A ++ B) = 0 ∧ pathB f.1 = true ∧ f.2.length ≤ 16384 ∧ lss p f.1 = true
  | [], B, f, p, h => by
    obtain ⟨h1, h2⟩ := chkL_tail h
    obtain ⟨q1, q2, q3, q4⟩ := fileE_ok h2
    have hpf := lss_total q3 q2
    refine ⟨fun a ha => by simp at ha, chkL_gt h1, ?_, q1, q4, hpf⟩
    cases B with
    | nil => rfl
    | cons g B =>
      obtain ⟨h3, h4⟩ := chkL_tail h1
      obtain ⟨r1, r2, r3, r4⟩ := fileE_ok h4
      exact chkL_cons (fileE_zero r1 (lss_trans hpf (lss_total r3 r2)) r4) h3
  | a :: A, B, f, p, h => by
    obtain ⟨h1, h2⟩ := chkL_tail h
    obtain ⟨i1, i2, i3, i4, i5, i6⟩ := chkL_split h1
    obtain ⟨q1, q2, q3, q4⟩ := fileE_ok h2
    refine ⟨fun x hx => ?_, i2, chkL_cons h2 i3, i4, i5, lss_trans (lss_total q3 q2) i6⟩
    rcases List.mem_cons.1 hx with rfl | hx
    · exact i6
    · exact i1 x hx
theorem chkL_snoc : ∀ {A : List Fl} {p : List Nat} {x : Fl}, chkL p A = 0 → (∀ a ∈ A, lss a.1 x.1 = true) → lss p x.1 = true → pathB x.1 = true → x.2.length ≤ 16384 → chkL p (A ++ [x]) = 0
  | [], p, x, _, _, h, h1, h2 => chkL_cons (fileE_zero h1 h h2) rfl
  | a :: A, p, x, hc, ha, h, h1, h2 => by
    obtain ⟨q1, q2⟩ := chkL_tail hc
    exact chkL_cons q2 (chkL_snoc q1 (fun b hb => ha b (List.mem_cons_of_mem _ hb)) (ha a (List.mem_cons_self ..)) h1 h2)
theorem cut_at : ∀ {fs : List Fl} {q : List Nat}, chkL q fs = 0 → ∀ p : List Nat, ∃ A C, fs = A ++ C ∧ (∀ a ∈ A, lss a.1 p = true) ∧ ((∃ f B, C = f :: B ∧ f.1 = p ∧ ∀ b ∈ B, lss p b.1 = true) ∨ (∀ c ∈ C, lss p c.1 = true))
  | [], q, h, p => ⟨[], [], rfl, fun a ha => by simp at ha, .inr (fun c hc => by simp at hc)⟩
  | f :: fs, q, h, p => by
    obtain ⟨h1, h2⟩ := chkL_tail h
    by_cases hl : lss f.1 p = true
    · obtain ⟨A, C, e, ha, hc⟩ := cut_at h1 p
      refine ⟨f :: A, C, by rw [e]; rfl, fun a hm => ?_, hc⟩
      rcases List.mem_cons.1 hm with rfl | hm
      · exact hl
      · exact ha a hm
    · have hgt := chkL_gt h1
      by_cases he : f.1 = p
      · exact ⟨[], f :: fs, rfl, fun a ha => by simp at ha, .inl ⟨f, fs, rfl, he, fun b hb => by rw [← he]; exact hgt b hb⟩⟩
      · have hpf : lss p f.1 = true := lss_total (by simpa using hl) he
        refine ⟨[], f :: fs, rfl, fun a ha => by simp at ha, .inr (fun c hc => ?_)⟩
        rcases List.mem_cons.1 hc with rfl | hc
        · exact hpf
        · exact lss_trans hpf (hgt c hc)
theorem has_iff {fs : List Fl} (h : chk fs = 0) (p : List Nat) : hasP fs p = true ↔ ∃ f ∈ fs, f.1 = p := by
  obtain ⟨A, C, rfl, ha, hc⟩ := cut_at (chk_ok h).2 p
  rcases hc with ⟨f, B, rfl, rfl, hb⟩ | hc
  · exact ⟨fun _ => ⟨f, by simp, rfl⟩, fun _ => has_mid ha⟩
  · rw [has_not ha (fun x hx => hc x (List.mem_of_mem_head? hx))]
    refine ⟨fun e => Bool.noConfusion e, fun hx => ?_⟩
    obtain ⟨f, hf, e⟩ := hx
    rcases List.mem_append.1 hf with hf | hf
    · exact absurd e (lss_ne (ha f hf))
    · exact absurd e.symm (lss_ne (hc f hf))
theorem find_at {fs : List Fl} (h : chk fs = 0) {k : Nat} {f : Fl} (hf : fs[k]? = some f) {p : List Nat} (he : f.1 = p) : findF fs p = (f.2, true) := by
  subst he
  obtain ⟨hk, e⟩ := List.getElem?_eq_some_iff.1 hf
  have hs : fs = fs.take k ++ f :: fs.drop (k + 1) := by rw [← e, ← List.drop_eq_getElem_cons hk, List.take_append_drop]
  have hc := (chk_ok h).2
  rw [hs] at hc
  obtain ⟨ha, -⟩ := chkL_split hc
  unfold findF
  rw [if_neg (by rw [h]; simp)]
  rw [hs, if_neg (by rw [has_mid ha]; simp), bytes_mid ha]
theorem find_not {fs : List Fl} (h : chk fs = 0) {p : List Nat} (hn : ∀ (k : Nat) (f : Fl), fs[k]? = some f → f.1 ≠ p) : findF fs p = ([], false) := by
  unfold findF
  rw [if_neg (by rw [h]; simp)]
  have : hasP fs p = false := by
    cases hh : hasP fs p with
    | false => rfl
    | true =>
      obtain ⟨f, hf, e⟩ := (has_iff h p).1 hh
      obtain ⟨k, hk⟩ := List.getElem?_of_mem hf
      exact absurd e (hn k f hk)
  rw [if_pos this]
end RevN
end Go.Proofs.YtfobogcccbddbaaGreatDoor
