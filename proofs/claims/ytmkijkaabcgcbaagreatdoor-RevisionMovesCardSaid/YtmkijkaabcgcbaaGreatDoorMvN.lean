/- Moving a file behind all others and back, putting and removing: what they make of a revision. Plain mathematics. No condition. -/
import Derived.Test.YtmkijkaabcgcbaaGreatDoorMMz
namespace Go.Proofs.YtmkijkaabcgcbaaGreatDoor
namespace RevN
open WireN LexN
set_option linter.unusedVariables false
set_option linter.unusedSimpArgs false
/-- The path behind all that the maker draws: zz/new. -/
def zzN : List Nat := [122, 122, 47, 110, 101, 119]
theorem zz_path : pathB zzN = true := by decide +kernel
theorem zz_lt : Lt zzN := by unfold zzN; intro i; match i with | 0 => decide | 1 => decide | 2 => decide | 3 => decide | 4 => decide | 5 => decide | n + 6 => simp
theorem pos_split : ∀ (A C : List Fl) (p : List Nat), (∀ a ∈ A, lss a.1 p = true) → (∀ x, C.head? = some x → lss x.1 p = false) → pos (A ++ C) p = A.length
  | [], [], p, _, _ => rfl
  | [], c :: C, p, _, h => by
    have := h c rfl
    simp [pos, this]
  | a :: A, C, p, ha, h => by
    have h1 := ha a (List.mem_cons_self ..)
    have h2 := pos_split A C p (fun x hx => ha x (List.mem_cons_of_mem _ hx)) h
    simp [pos, h1, h2]
theorem at_split (A C : List Fl) : (A ++ C)[A.length]? = C.head? := by
  rw [List.getElem?_append_right (Nat.le_refl _), Nat.sub_self]
  cases C <;> rfl
theorem has_split {A C : List Fl} {p : List Nat} (ha : ∀ a ∈ A, lss a.1 p = true) (h : ∀ x, C.head? = some x → lss x.1 p = false) : hasP (A ++ C) p = match C.head? with | some f => decide (f.1 = p) | none => false := by
  unfold hasP
  rw [pos_split A C p ha h, at_split]
  cases C <;> rfl
theorem has_mid {A B : List Fl} {f : Fl} (ha : ∀ a ∈ A, lss a.1 f.1 = true) : hasP (A ++ f :: B) f.1 = true := by
  rw [has_split ha (fun x hx => by simp at hx; subst hx; exact lss_self _)]
  simp
theorem has_not {A C : List Fl} {p : List Nat} (ha : ∀ a ∈ A, lss a.1 p = true) (h : ∀ x, C.head? = some x → lss p x.1 = true) : hasP (A ++ C) p = false := by
  rw [has_split ha (fun x hx => lss_asymm (h x hx))]
  cases hc : C.head? with
  | none => rfl
  | some x => simp; exact fun e => lss_ne (h x hc) e.symm
theorem put_not {A C : List Fl} {p b : List Nat} (ha : ∀ a ∈ A, lss a.1 p = true) (h : ∀ x, C.head? = some x → lss p x.1 = true) : putL (A ++ C) (p, b) = A ++ (p, b) :: C := by
  unfold putL
  rw [has_not ha h, pos_split A C p ha (fun x hx => lss_asymm (h x hx))]
  simp
theorem rem_mid {A B : List Fl} {f : Fl} (ha : ∀ a ∈ A, lss a.1 f.1 = true) : remL (A ++ f :: B) f.1 = A ++ B := by
  unfold remL
  rw [pos_split A (f :: B) f.1 ha (fun x hx => by simp at hx; subst hx; exact lss_self _)]
  simp
theorem bytes_mid {A B : List Fl} {f : Fl} (ha : ∀ a ∈ A, lss a.1 f.1 = true) : bytesAt (A ++ f :: B) f.1 = f.2 := by
  unfold bytesAt
  rw [pos_split A (f :: B) f.1 ha (fun x hx => by simp at hx; subst hx; exact lss_self _), at_split]
  rfl
/-- What is true of the parts of a well-formed list around one of its files. -/
theorem chkL_split : ∀ {A B : List Fl} {f : Fl} {p : List Nat}, chkL p (A ++ f :: B) = 0 → (∀ a ∈ A, lss a.1 f.1 = true) ∧ (∀ b ∈ B, lss f.1 b.1 = true) ∧ chkL p (A ++ B) = 0 ∧ pathB f.1 = true ∧ f.2.length ≤ 16384 ∧ lss p f.1 = true
  | [], B, f, p, h => by
    obtain ⟨h1, h2⟩ := chkL_tail h
    obtain ⟨q1, q2, q3, q4⟩ := fileE_ok h2
    have hpf := lss_total q3 q2
    refine ⟨fun a ha => by simp at ha, chkL_gt h1, ?_, q1, q4, hpf⟩
    cases B with
    | nil => rfl
    | cons g B =>
      obtain ⟨h3, h4⟩ := chkL_tail h1
      obtain ⟨r1, r2, r3, r4⟩ := fileE_ok h4
      exact chkL_cons (fileE_zero r1 (lss_trans hpf (lss_total r3 r2)) r4) h3
  | a :: A, B, f, p, h => by
    obtain ⟨h1, h2⟩ := chkL_tail h
    obtain ⟨i1, i2, i3, i4, i5, i6⟩ := chkL_split h1
    obtain ⟨q1, q2, q3, q4⟩ := fileE_ok h2
    refine ⟨fun x hx => ?_, i2, chkL_cons h2 i3, i4, i5, lss_trans (lss_total q3 q2) i6⟩
    rcases List.mem_cons.1 hx with rfl | hx
    · exact i6
    · exact i1 x hx
theorem chkL_snoc : ∀ {A : List Fl} {p : List Nat} {x : Fl}, chkL p A = 0 → (∀ a ∈ A, lss a.1 x.1 = true) → lss p x.1 = true → pathB x.1 = true → x.2.length ≤ 16384 → chkL p (A ++ [x]) = 0
  | [], p, x, _, _, h, h1, h2 => chkL_cons (fileE_zero h1 h h2) rfl
  | a :: A, p, x, hc, ha, h, h1, h2 => by
    obtain ⟨q1, q2⟩ := chkL_tail hc
    exact chkL_cons q2 (chkL_snoc q1 (fun b hb => ha b (List.mem_cons_of_mem _ hb)) (ha a (List.mem_cons_self ..)) h1 h2)
/-- A well-formed list of few files, all ahead of zz/new. -/
structure Few (fs : List Fl) : Prop where
  ok : chkL [] fs = 0
  len : fs.length ≤ 20
  zz : ∀ f ∈ fs, lss f.1 zzN = true
theorem Few.chk {fs : List Fl} (h : Few fs) : chk fs = 0 := by
  unfold RevN.chk
  rw [if_neg (by have := h.len; omega)]
  exact h.ok
theorem Few.put_zz {fs : List Fl} (h : Few fs) (b : List Nat) : putL fs (zzN, b) = fs ++ [(zzN, b)] := by
  have := put_not (A := fs) (C := []) (p := zzN) (b := b) h.zz (fun x hx => by simp at hx)
  simpa using this
theorem Few.has_zz {fs : List Fl} (h : Few fs) : hasP fs zzN = false := by
  have := has_not (A := fs) (C := []) (p := zzN) h.zz (fun x hx => by simp at hx)
  simpa using this
theorem Few.putF_zz {fs : List Fl} (h : Few fs) {b : List Nat} (hb : b.length ≤ 16384) : putF fs zzN b = (0, fs ++ [(zzN, b)]) := by
  unfold putF
  rw [if_neg (by rw [h.chk]; simp), if_neg (by rw [zz_path]; simp), h.put_zz, if_neg (by have := h.len; simp; omega)]
theorem Few.chk_zz {fs : List Fl} (h : Few fs) {b : List Nat} (hb : b.length ≤ 16384) : RevN.chk (fs ++ [(zzN, b)]) = 0 := by
  unfold RevN.chk
  rw [if_neg (by have := h.len; simp; omega)]
  exact chkL_snoc h.ok h.zz (lss_of_ne (path_ne zz_path)) zz_path hb
theorem Few.remF_zz {fs : List Fl} (h : Few fs) {b : List Nat} (hb : b.length ≤ 16384) : remF (fs ++ [(zzN, b)]) zzN = (0, fs) := by
  have h1 := has_mid (A := fs) (B := []) (f := (zzN, b)) h.zz
  have h2 := rem_mid (A := fs) (B := []) (f := (zzN, b)) h.zz
  unfold remF
  rw [if_neg (by rw [h.chk_zz hb]; simp), if_neg (by rw [h1]; simp), h2]
  simp
theorem Few.rem {A B : List Fl} {f : Fl} (h : Few (A ++ f :: B)) : Few (A ++ B) := by
  obtain ⟨h1, h2, h3, -⟩ := chkL_split h.ok
  refine ⟨h3, by have := h.len; simp at this ⊢; omega, fun x hx => h.zz x ?_⟩
  rcases List.mem_append.1 hx with hx | hx <;> simp [hx]
theorem Few.remF_mid {A B : List Fl} {f : Fl} (h : Few (A ++ f :: B)) : remF (A ++ f :: B) f.1 = (0, A ++ B) := by
  obtain ⟨h1, h2, -⟩ := chkL_split h.ok
  unfold remF
  rw [if_neg (by rw [h.chk]; simp), if_neg (by rw [has_mid h1]; simp), rem_mid h1]
/-- Moving there. -/
theorem Few.mov {A B : List Fl} {f : Fl} (h : Few (A ++ f :: B)) : movF (A ++ f :: B) f.1 zzN = (0, A ++ B ++ [(zzN, f.2)]) := by
  obtain ⟨h1, h2, h3, h4, h5, h6⟩ := chkL_split h.ok
  unfold movF
  rw [if_neg (by rw [h.chk]; simp), if_neg (by rw [zz_path]; simp), if_neg (by rw [has_mid h1]; simp), if_neg (by rw [h.has_zz]; simp), rem_mid h1, bytes_mid h1]
  exact h.rem.putF_zz h5
/-- And back. -/
theorem Few.back {A B : List Fl} {f : Fl} (h : Few (A ++ f :: B)) : movF (A ++ B ++ [(zzN, f.2)]) zzN f.1 = (0, A ++ f :: B) := by
  obtain ⟨h1, h2, h3, h4, h5, h6⟩ := chkL_split h.ok
  have hr := h.rem
  have hzf := h.zz f (by simp)
  have e1 : hasP (A ++ B ++ [(zzN, f.2)]) f.1 = false := by
    rw [List.append_assoc]
    refine has_not h1 (fun x hx => ?_)
    cases B with
    | nil => simp at hx; subst hx; exact hzf
    | cons b B => simp at hx; subst hx; exact h2 _ (by simp)
  have e2 := has_mid (A := A ++ B) (B := []) (f := (zzN, f.2)) hr.zz
  have e3 := rem_mid (A := A ++ B) (B := []) (f := (zzN, f.2)) hr.zz
  have e4 := bytes_mid (A := A ++ B) (B := []) (f := (zzN, f.2)) hr.zz
  have e5 : putL (A ++ B) (f.1, f.2) = A ++ (f.1, f.2) :: B := put_not h1 (fun x hx => h2 x (List.mem_of_mem_head? hx))
  unfold movF
  rw [if_neg (by rw [hr.chk_zz h5]; simp), if_neg (by rw [h4]; simp), if_neg (by rw [e2]; simp), if_neg (by rw [e1]; simp), e3, e4, List.append_nil]
  unfold putF
  rw [if_neg (by rw [hr.chk]; simp), if_neg (by rw [h4]; simp), e5, if_neg (by have := h.len; simp at this ⊢; omega)]
/-- Removing a file where one is put behind all. -/
theorem Few.remF_both {A B : List Fl} {f : Fl} (h : Few (A ++ f :: B)) {b : List Nat} (hb : b.length ≤ 16384) : remF (A ++ f :: B ++ [(zzN, b)]) f.1 = (0, A ++ B ++ [(zzN, b)]) := by
  obtain ⟨h1, h2, h3, h4, h5, h6⟩ := chkL_split h.ok
  have e1 := has_mid (A := A) (B := B ++ [(zzN, b)]) (f := f) h1
  have e2 := rem_mid (A := A) (B := B ++ [(zzN, b)]) (f := f) h1
  have e3 : A ++ f :: B ++ [(zzN, b)] = A ++ f :: (B ++ [(zzN, b)]) := by simp
  have e4 := h.chk_zz hb
  unfold remF
  rw [if_neg (by rw [e4]; simp), e3, if_neg (by rw [e1]; simp), e2, List.append_assoc]
/-- What the maker puts has one of its paths. -/
theorem ins2_mem {f : Fl} : ∀ {fs : List Fl} {x : Fl}, x ∈ ins2 f fs → x = f ∨ x ∈ fs
  | [], x, h => by simp [ins2] at h; exact .inl h
  | y :: fs, x, h => by
    unfold ins2 at h
    split at h
    · rcases List.mem_cons.1 h with rfl | h
      · exact .inl rfl
      · exact .inr (List.mem_filter.1 h).1
    · rcases List.mem_cons.1 h with rfl | h
      · exact .inr (by simp)
      · rcases ins2_mem h with rfl | h
        · exact .inl rfl
        · exact .inr (by simp [h])
theorem fold_mem : ∀ (ops s : List Fl) (x : Fl), x ∈ ops.foldl insL s → x ∈ ops ∨ x ∈ s
  | [], s, x, h => .inr h
  | f :: ops, s, x, h => by
    rw [List.foldl_cons] at h
    rcases fold_mem ops _ x h with h | h
    · exact .inl (by simp [h])
    · rw [insL_eq] at h
      rcases ins2_mem h with rfl | h
      · exact .inl (by simp)
      · exact .inr h
end RevN
namespace By
open WireN LexN RevN
theorem Put.mem {k : Nat} {fs : List Fl} (h : Put k fs) : ∀ f ∈ fs, f.1 ∈ mkPaths ∧ Lt f.2 ∧ f.2.length ≤ 13500 := by
  obtain ⟨o, h1, h2, rfl⟩ := h
  intro f hf
  rcases fold_mem o [] f hf with hf | hf
  · exact h2 f hf
  · simp at hf
theorem Put.few {k : Nat} {fs : List Fl} (h : Put k fs) (hk : k ≤ 20) : Few fs := by
  refine ⟨(chk_ok (h.chk (by omega))).2, by have := h.len; omega, fun f hf => ?_⟩
  have hp : ∀ q ∈ mkPaths, lss q zzN = true := by decide +kernel
  exact hp _ (h.mem f hf).1
end By
end Go.Proofs.YtmkijkaabcgcbaaGreatDoor
