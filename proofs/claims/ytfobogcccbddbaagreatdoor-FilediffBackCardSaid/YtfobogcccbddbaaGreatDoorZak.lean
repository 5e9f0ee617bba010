/- Changes of files, plain: Apply of Diff leads from the one to the other, and the order of changes does not matter. No condition. -/
import Derived.Test.YtfobogcccbddbaaGreatDoorZaj
namespace Go.Proofs.YtfobogcccbddbaaGreatDoor
set_option linter.unusedVariables false
set_option linter.unusedSimpArgs false
namespace FdN
open RevN LexN
theorem dstn : ∀ {l : List Fl} {q : List Nat}, chkL q l = 0 → l.Pairwise fun x y => x.1 ≠ y.1
  | [], _, _ => List.Pairwise.nil
  | z :: l, q, h => List.pairwise_cons.2 ⟨fun y hy => lss_ne (chkL_gt (chkL_tail h).1 y hy), dstn (chkL_tail h).1⟩
theorem DI.fold {a b : List Fl} (ha : chk a = 0) (hb : chk b = 0) : ∀ (r bs : List Fl) (us : List Bool) (D : List Ch), bs ++ r = b → DI a b bs us D →
    DI a b b (r.foldl (stepD a (gn a b)) (us, D)).1 (r.foldl (stepD a (gn a b)) (us, D)).2
  | [], bs, us, D, e, h => by
    rw [List.append_nil] at e
    rw [← e] at h ⊢
    exact h
  | f :: r, bs, us, D, e, h => by
    have hd := dstn (chk_ok hb).2
    rw [← e] at hd
    have hnew : ¬ has bs f.1 := fun ⟨g, hg, e2⟩ => (List.pairwise_append.1 hd).2.2 g hg f List.mem_cons_self e2
    have h1 := h.step ha hb (f := f) (by rw [← e]; simp) hnew
    rw [List.foldl_cons]
    exact DI.fold ha hb r (bs ++ [f]) _ _ (by rw [← e]; simp) h1
theorem dif1_ok {a b : List Fl} (ha : chk a = 0) (hb : chk b = 0) : DI a b b (dif1 a b).1 (dif1 a b).2 := DI.fold ha hb b [] _ _ rfl (DI.start a b)
/-- The changes that lead from a to b. -/
structure Dif (a b : List Fl) (D : List Ch) : Prop where
  srt : Srt D
  el : ∀ x ∈ D, (x.1 = 3 ∧ x.2.2.1 = [] ∧ (x.2.1, x.2.2.2) ∈ b ∧ ∃ y, (x.2.1, y) ∈ a ∧ y ≠ x.2.2.2) ∨
    (x.1 = 1 ∧ x.2.2.1 = [] ∧ (x.2.1, x.2.2.2) ∈ b ∧ ¬ has a x.2.1) ∨
    (x.1 = 4 ∧ x.2.2.2 = [] ∧ ¬ has a x.2.1 ∧ ∃ y, (x.2.1, y) ∈ b ∧ (x.2.2.1, y) ∈ a ∧ ¬ has b x.2.2.1) ∨
    (x.1 = 2 ∧ x.2.2.1 = [] ∧ x.2.2.2 = [] ∧ has a x.2.1 ∧ ¬ has b x.2.1)
  b1 : ∀ f ∈ b, f ∈ a ∨ ∃ x ∈ D, x.1 ≠ 2 ∧ x.2.1 = f.1
  a1 : ∀ f ∈ a, ¬ has b f.1 → ∃ x ∈ D, (x.1 = 2 ∧ x.2.1 = f.1) ∨ (x.1 = 4 ∧ x.2.2.1 = f.1)
  u4 : ∀ x ∈ D, ∀ y ∈ D, x.1 = 4 → y.1 = 4 → x.2.2.1 = y.2.2.1 → x = y
  u24 : ∀ x ∈ D, ∀ y ∈ D, x.1 = 4 → y.1 = 2 → x.2.2.1 ≠ y.2.1
theorem rem_fold {a b : List Fl} (ha : chk a = 0) (hb : chk b = 0) {us : List Bool} {D : List Ch} (h : DI a b b us D) : ∀ k, k ≤ (gn a b).length →
    Srt ((List.range k).foldl (stepR (gn a b) us) D) ∧ ∀ z, z ∈ (List.range k).foldl (stepR (gn a b) us) D ↔ z ∈ D ∨ ∃ (i : Nat) (f : Fl), i < k ∧ (gn a b)[i]? = some f ∧ us[i]? = some false ∧ z = (2, f.1, [], [])
  | 0, _ => ⟨h.srt, fun z => by simp⟩
  | k + 1, hk => by
    obtain ⟨h1, h2⟩ := rem_fold ha hb h k (by omega)
    rw [List.range_succ, List.foldl_append, List.foldl_cons, List.foldl_nil]
    have hul := h.len
    obtain ⟨u, hu⟩ : ∃ u, us[k]? = some u := ⟨_, List.getElem?_eq_getElem (by omega)⟩
    obtain ⟨f, hf⟩ : ∃ f, (gn a b)[k]? = some f := ⟨_, List.getElem?_eq_getElem (by omega)⟩
    have hs : ∀ D', stepR (gn a b) us D' k = if u = true then D' else ins (2, f.1, [], []) D' := fun D' => by unfold stepR; rw [hu, hf]; rfl
    rw [hs]
    cases u with
    | true =>
      rw [if_pos rfl]
      refine ⟨h1, fun z => (h2 z).trans ⟨fun hz => ?_, fun hz => ?_⟩⟩
      · rcases hz with hz | ⟨i, g, hi, hz⟩
        · exact .inl hz
        · exact .inr ⟨i, g, by omega, hz⟩
      · rcases hz with hz | ⟨i, g, hi, h3, h4, h5⟩
        · exact .inl hz
        · have hne : i ≠ k := fun e => by rw [e, hu] at h4; cases h4
          exact .inr ⟨i, g, by omega, h3, h4, h5⟩
    | false =>
      rw [if_neg (by simp)]
      have hgm := (gn_mem hb).1 (List.mem_of_getElem? hf)
      refine ⟨ins_srt h1 (fun y hy e => ?_), fun z => ?_⟩
      · rcases (h2 y).1 hy with hy | ⟨i, g, hi, h3, -, h5⟩
        · exact hgm.2 (by rw [show f.1 = y.2.1 from e]; exact h.path y hy)
        · rw [h5] at e
          have hd : (gn a b).Pairwise fun x y => x.1 ≠ y.1 := List.Pairwise.sublist List.filter_sublist (dstn (chk_ok ha).2)
          obtain ⟨h7, h8⟩ := List.getElem?_eq_some_iff.1 h3
          obtain ⟨h9, h10⟩ := List.getElem?_eq_some_iff.1 hf
          exact (List.pairwise_iff_getElem.1 hd) i k h7 h9 hi (by rw [h8, h10]; exact e.symm)
      · rw [ins_mem, h2 z]
        constructor
        · rintro (rfl | hz | ⟨i, g, hi, hz⟩)
          · exact .inr ⟨k, f, by omega, hf, hu, rfl⟩
          · exact .inl hz
          · exact .inr ⟨i, g, by omega, hz⟩
        · rintro (hz | ⟨i, g, hi, h3, h4, h5⟩)
          · exact .inr (.inl hz)
          · by_cases e : i = k
            · subst e
              rw [hf] at h3
              obtain rfl : f = g := by simpa using h3
              exact .inl h5
            · exact .inr (.inr ⟨i, g, by omega, h3, h4, h5⟩)
theorem dif_ok {a b : List Fl} (ha : chk a = 0) (hb : chk b = 0) : Dif a b (difL a b) := by
  have h := dif1_ok ha hb
  obtain ⟨h1, h2⟩ := rem_fold ha hb h (gn a b).length (Nat.le_refl _)
  have hg : ∀ {i : Nat} {f : Fl}, (gn a b)[i]? = some f → f ∈ a ∧ ¬ has b f.1 := fun hi => (gn_mem hb).1 (List.mem_of_getElem? hi)
  refine ⟨h1, fun x hx => ?_, fun f hf => ?_, fun f hf hn => ?_, fun x hx y hy hx4 hy4 e => ?_, fun x hx y hy hx4 hy2 e => ?_⟩
  · rcases (h2 x).1 hx with hx | ⟨i, f, -, h3, -, rfl⟩
    · rcases h.el x hx with h4 | h4 | ⟨h3, h4, h5, i, y, h6, h7, -⟩
      · exact .inl h4
      · exact .inr (.inl h4)
      · exact .inr (.inr (.inl ⟨h3, h4, h5, y, h6, hg h7⟩))
    · exact .inr (.inr (.inr ⟨rfl, rfl, rfl, ⟨f, (hg h3).1, rfl⟩, (hg h3).2⟩))
  · rcases h.all f hf with h3 | ⟨x, hx, e⟩
    · exact .inl h3
    · refine .inr ⟨x, (h2 x).2 (.inl hx), fun e2 => ?_, e⟩
      rcases h.el x hx with ⟨h3, -⟩ | ⟨h3, -⟩ | ⟨h3, -⟩ <;> omega
  · obtain ⟨i, hi⟩ := List.mem_iff_getElem?.1 ((gn_mem hb).2 ⟨hf, hn⟩)
    have hul := h.len
    obtain ⟨u, hu⟩ : ∃ u, (dif1 a b).1[i]? = some u := ⟨_, List.getElem?_eq_getElem (by have := (List.getElem?_eq_some_iff.1 hi).1; omega)⟩
    cases u with
    | true =>
      obtain ⟨x, hx, h3⟩ := h.us4 i f hi hu
      exact ⟨x, (h2 x).2 (.inl hx), .inr h3⟩
    | false => exact ⟨_, (h2 _).2 (.inr ⟨i, f, (List.getElem?_eq_some_iff.1 hi).1, hi, hu, rfl⟩), .inl ⟨rfl, rfl⟩⟩
  · rcases (h2 x).1 hx with hx | ⟨i, f, -, h3, -, rfl⟩
    · rcases (h2 y).1 hy with hy | ⟨i, f, -, h3, -, rfl⟩
      · exact h.u4 x hx y hy hx4 hy4 e
      · cases hy4
    · cases hx4
  · rcases (h2 x).1 hx with hx | ⟨i, f, -, h3, -, rfl⟩
    · rcases (h2 y).1 hy with hy | ⟨i, f, -, h3, h4, rfl⟩
      · rcases h.el y hy with ⟨h3, -⟩ | ⟨h3, -⟩ | ⟨h3, -⟩ <;> omega
      · rcases h.el x hx with ⟨h5, -⟩ | ⟨h5, -⟩ | ⟨-, -, -, j, z, -, h7, h8⟩
        · omega
        · omega
        · have hd : (gn a b).Pairwise fun x y => x.1 ≠ y.1 := List.Pairwise.sublist List.filter_sublist (dstn (chk_ok ha).2)
          obtain ⟨q1, q2⟩ := List.getElem?_eq_some_iff.1 h3
          obtain ⟨q3, q4⟩ := List.getElem?_eq_some_iff.1 h7
          have hij : i = j := by
            rcases Nat.lt_trichotomy i j with h11 | h11 | h11
            · exact absurd (by rw [q2, q4]; exact e.symm) ((List.pairwise_iff_getElem.1 hd) i j q1 q3 h11)
            · exact h11
            · exact absurd (by rw [q2, q4]; exact e) ((List.pairwise_iff_getElem.1 hd) j i q3 q1 h11)
          rw [hij, h8] at h4
          cases h4
    · cases hx4
/-- Equal revisions have no changes. -/
theorem dif_same {a : List Fl} (ha : chk a = 0) : difL a a = [] := by
  have h := dif_ok ha ha
  refine List.eq_nil_iff_forall_not_mem.2 fun x hx => ?_
  rcases h.el x hx with ⟨-, -, h1, y, h2, h3⟩ | ⟨-, -, h1, h2⟩ | ⟨-, -, h2, y, h1, -⟩ | ⟨-, -, -, h1, h2⟩
  · exact h3 (Prod.ext_iff.1 (one_file (chk_ok ha).2 h2 h1 rfl)).2
  · exact h2 ⟨_, h1, rfl⟩
  · exact h2 ⟨_, h1, rfl⟩
  · exact h2 h1
/-- The path that a change takes away. -/
def tks (x : Ch) : Option (List Nat) := if x.1 = 4 then some x.2.2.1 else if x.1 = 2 ∨ x.1 = 3 then some x.2.1 else none
def pts (x : Ch) : Bool := decide (x.1 ≠ 2)
def wel (x : Ch) : Bool := if x.1 = 1 ∨ x.1 = 3 then decide (x.2.2.1 = []) else if x.1 = 2 then decide (x.2.2.1 = []) && decide (x.2.2.2 = []) else if x.1 = 4 then decide (x.2.2.2 = []) else false
/-- Two changes take, or put, the same path. -/
def tw (x y : Ch) : Bool := ((tks x).isSome && decide (tks x = tks y)) || (pts x && (pts y && decide (x.2.1 = y.2.1)))
abbrev noTw (l : List Ch) : Prop := l.Pairwise fun x y => tw x y = false
theorem tw_comm (x y : Ch) : tw x y = tw y x := by
  unfold tw
  by_cases h1 : tks x = tks y
  · rw [h1]; by_cases h2 : x.2.1 = y.2.1
    · simp [h2, Bool.and_comm]
      all_goals (cases pts x <;> cases pts y <;> rfl)
    · simp [h2, Ne.symm h2]
  · have h1' : ¬ tks y = tks x := fun e => h1 e.symm
    by_cases h2 : x.2.1 = y.2.1
    · simp [h1, h1', h2]
      all_goals (cases pts x <;> cases pts y <;> rfl)
    · simp [h1, h1', h2, Ne.symm h2]
def left (a : List Fl) (l : List Ch) : List Fl := a.filter fun f => !decide (some f.1 ∈ l.map tks)
def putB (a : List Fl) (x : Ch) : List Nat := if x.1 = 4 then (findF a x.2.2.1).1 else x.2.2.2
/-- A file at its place. -/
def insF (fs : List Fl) (f : Fl) : List Fl := fs.take (pos fs f.1) ++ f :: fs.drop (pos fs f.1)
def outL (a : List Fl) (l : List Ch) : List Fl := (l.filter pts).foldl (fun fs x => insF fs (x.2.1, putB a x)) (left a l)
/-- The error of Apply. -/
def aplE (a : List Fl) (l : List Ch) : Nat :=
  if chk a ≠ 0 then 1 else if ¬ (∀ x ∈ l, wel x = true) then 1 else if ¬ noTw l then 10 else if ¬ (∀ x ∈ l, (tks x).all (fun p => hasP a p) = true) then 18 else
  if ¬ (∀ x ∈ l, pts x = true → ¬ has (left a l) x.2.1) then 19 else if ¬ (∀ x ∈ l, pts x = true → pathB x.2.1 = true) then 1 else if chk (outL a l) ≠ 0 then 1 else 0
theorem left_mem {a : List Fl} {l : List Ch} {f : Fl} : f ∈ left a l ↔ f ∈ a ∧ ∀ x ∈ l, tks x ≠ some f.1 := by
  unfold left
  rw [List.mem_filter]
  simp only [Bool.not_eq_true', decide_eq_false_iff_not, List.mem_map, not_exists, not_and]
theorem insF_mem {fs : List Fl} {f z : Fl} : z ∈ insF fs f ↔ z = f ∨ z ∈ fs := by
  unfold insF
  conv => rhs; rw [← List.take_append_drop (pos fs f.1) fs]
  simp only [List.mem_append, List.mem_cons]
  constructor
  · rintro (h | h | h) <;> simp [h]
  · rintro (h | h | h) <;> simp [h]
theorem insF_chk {f : Fl} (h1 : pathB f.1 = true) (h3 : f.2.length ≤ 16384) : ∀ {fs : List Fl} {p : List Nat}, lss p f.1 = true → chkL p fs = 0 → ¬ has fs f.1 → chkL p (insF fs f) = 0
  | [], p, h2, _, _ => chkL_cons (fileE_zero h1 h2 h3) rfl
  | x :: fs, p, h2, h, hn => by
    obtain ⟨ht, hx⟩ := chkL_tail h
    have hne : x.1 ≠ f.1 := fun e => hn ⟨x, List.mem_cons_self, e⟩
    unfold insF pos
    by_cases hl : lss x.1 f.1 = true
    · rw [if_pos hl]
      exact chkL_cons hx (insF_chk h1 h3 hl ht (fun ⟨g, hg, e⟩ => hn ⟨g, List.mem_cons_of_mem _ hg, e⟩))
    · rw [if_neg hl]
      have hlt := lss_total (by simpa using hl) hne
      obtain ⟨q1, -, -, q4⟩ := fileE_ok hx
      exact chkL_cons (fileE_zero h1 h2 h3) (chkL_cons (fileE_zero q1 hlt q4) ht)
/-- Files that are put one after another, of paths that differ and are not there. -/
theorem insF_fold : ∀ (P : List Fl) (s : List Fl), (∀ f ∈ P, pathB f.1 = true ∧ f.2.length ≤ 16384 ∧ ¬ has s f.1) → P.Pairwise (fun x y => x.1 ≠ y.1) → chkL [] s = 0 →
    chkL [] (P.foldl insF s) = 0 ∧ ∀ z, z ∈ P.foldl insF s ↔ z ∈ P ∨ z ∈ s
  | [], s, _, _, h => ⟨h, fun z => by simp⟩
  | f :: P, s, hp, hd, h => by
    obtain ⟨h1, h2, h3⟩ := hp f List.mem_cons_self
    have hd' := List.pairwise_cons.1 hd
    have h4 := insF_chk h1 h2 (lss_of_ne (path_ne h1)) h h3
    obtain ⟨h5, h6⟩ := insF_fold P (insF s f) (fun g hg => by
      obtain ⟨q1, q2, q3⟩ := hp g (List.mem_cons_of_mem _ hg)
      refine ⟨q1, q2, fun ⟨z, hz, e⟩ => ?_⟩
      rcases insF_mem.1 hz with rfl | hz
      · exact hd'.1 g hg e
      · exact q3 ⟨z, hz, e⟩) hd'.2 h4
    refine ⟨h5, fun z => ?_⟩
    rw [List.foldl_cons, h6 z, insF_mem, List.mem_cons]
    constructor
    · rintro (h | h | h) <;> simp [h]
    · rintro ((h | h) | h) <;> simp [h]
theorem insF_any : ∀ (P s : List Fl) (z : Fl), z ∈ P.foldl insF s ↔ z ∈ P ∨ z ∈ s
  | [], s, z => by simp
  | f :: P, s, z => by
    rw [List.foldl_cons, insF_any P, insF_mem, List.mem_cons]
    constructor
    · rintro (h | h | h) <;> simp [h]
    · rintro ((h | h) | h) <;> simp [h]
def putsL (a : List Fl) (l : List Ch) : List Fl := (l.filter pts).map fun x => (x.2.1, putB a x)
theorem outL_eq (a : List Fl) (l : List Ch) : outL a l = (putsL a l).foldl insF (left a l) := by
  unfold outL putsL
  rw [List.foldl_map]
theorem puts_mem {a : List Fl} {l : List Ch} {f : Fl} : f ∈ putsL a l ↔ ∃ x ∈ l, pts x = true ∧ f = (x.2.1, putB a x) := by
  unfold putsL
  simp only [List.mem_map, List.mem_filter]
  constructor
  · rintro ⟨x, ⟨h1, h2⟩, rfl⟩; exact ⟨x, h1, h2, rfl⟩
  · rintro ⟨x, h1, h2, rfl⟩; exact ⟨x, ⟨h1, h2⟩, rfl⟩
theorem puts_dst {a : List Fl} {l : List Ch} (h : noTw l) : (putsL a l).Pairwise fun x y => x.1 ≠ y.1 := by
  unfold putsL
  rw [List.pairwise_map]
  refine List.Pairwise.imp_of_mem (fun {x y} hx hy hxy e => ?_) (List.Pairwise.filter _ h)
  have h1 := (List.mem_filter.1 hx).2
  have h2 := (List.mem_filter.1 hy).2
  unfold tw at hxy
  simp [h1, h2] at hxy
  exact hxy.2 e
theorem left_chk {a : List Fl} (ha : chk a = 0) (l : List Ch) : chkL [] (left a l) = 0 := by
  have hh : ∀ (l' : List Fl) (q r : List Nat) (P : Fl → Bool), chkL q l' = 0 → (r = q ∨ lss r q = true) → chkL r (l'.filter P) = 0 := by
    intro l'
    induction l' with
    | nil => intros; rfl
    | cons x l' ih =>
      intro q r P h hr
      obtain ⟨h1, h2⟩ := chkL_tail h
      have hqx : lss q x.1 = true := chkL_gt h x List.mem_cons_self
      obtain ⟨q1, -, -, q4⟩ := fileE_ok h2
      have hrx : lss r x.1 = true := by
        rcases hr with rfl | hr
        · exact hqx
        · exact lss_trans hr hqx
      rw [List.filter_cons]
      split
      · exact chkL_cons (fileE_zero q1 hrx q4) (ih x.1 x.1 P h1 (.inl rfl))
      · exact ih x.1 r P h1 (.inr hrx)
  exact hh a [] [] _ (chk_ok ha).2 (.inl rfl)
end FdN
end Go.Proofs.YtfobogcccbddbaaGreatDoor

/- The changes as the program finds them, plain: files that changed, files that moved, files that are gone. No condition. -/
namespace Go.Proofs.YtfobogcccbddbaaGreatDoor
set_option linter.unusedVariables false
set_option linter.unusedSimpArgs false
namespace FdN
open RevN
/-- The files of the second that had other bytes before. -/
def chg (a b : List Fl) : List Ch := b.filterMap fun f => if hasP a f.1 = true ∧ bytesAt a f.1 ≠ f.2 then some (3, f.1, [], f.2) else none
/-- A new file: it takes the first unused one of the old places with its bytes. -/
def mvS (g : List Fl) (s : List Bool × List Ch) (f : Fl) : List Bool × List Ch :=
  match fndU f.2 g s.1 0 with
  | some i => (s.1.set i true, s.2 ++ [(4, f.1, (g[i]?.getD ([], [])).1, [])])
  | none => (s.1, s.2 ++ [(1, f.1, [], f.2)])
/-- The old places that are not used are removed. -/
def rmL (g : List Fl) (us : List Bool) (k : Nat) : List Ch := (List.range k).filterMap fun i => if us[i]?.getD true = true then none else some (2, (g[i]?.getD ([], [])).1, [], [])
def mv1 (g A : List Fl) : List Bool × List Ch := A.foldl (mvS g) (List.replicate g.length false, [])
/-- What the program's moved returns. -/
def mvL (g A : List Fl) : List Ch := (mv1 g A).2 ++ rmL g (mv1 g A).1 g.length
theorem ins_perm (x : Ch) : ∀ l : List Ch, (ins x l).Perm (x :: l)
  | [] => .refl _
  | y :: l => by
    unfold ins
    split
    · exact .refl _
    · exact ((ins_perm x l).cons y).trans (.swap _ _ _)
theorem stepD_in {a g : List Fl} {us : List Bool} {D : List Ch} {f : Fl} (h : hasP a f.1 = true) : (stepD a g (us, D) f).1 = us ∧ (stepD a g (us, D) f).2.Perm (D ++ (if bytesAt a f.1 = f.2 then [] else [(3, f.1, [], f.2)])) := by
  unfold stepD
  rw [if_pos h]
  by_cases e : bytesAt a f.1 = f.2
  · simp [e]
  · rw [if_neg e, if_neg e]
    exact ⟨rfl, (ins_perm _ _).trans (List.perm_append_comm (l₁ := [_]))⟩
theorem stepD_out {a g : List Fl} {us : List Bool} {D M : List Ch} {f : Fl} (h : ¬ hasP a f.1 = true) : (stepD a g (us, D) f).1 = (mvS g (us, M) f).1 ∧ ∃ x, (mvS g (us, M) f).2 = M ++ [x] ∧ (stepD a g (us, D) f).2.Perm (D ++ [x]) := by
  unfold stepD mvS
  rw [if_neg h]
  cases fndU f.2 g us 0 with
  | none => exact ⟨rfl, _, rfl, (ins_perm _ _).trans (List.perm_append_comm (l₁ := [_]))⟩
  | some i => exact ⟨rfl, _, rfl, (ins_perm _ _).trans (List.perm_append_comm (l₁ := [_]))⟩
theorem fold_mv {a g : List Fl} : ∀ (r : List Fl) (us : List Bool) (D C M : List Ch), D.Perm (C ++ M) →
    (r.foldl (stepD a g) (us, D)).1 = ((gn r a).foldl (mvS g) (us, M)).1 ∧ (r.foldl (stepD a g) (us, D)).2.Perm ((C ++ chg a r) ++ ((gn r a).foldl (mvS g) (us, M)).2)
  | [], us, D, C, M, h => ⟨rfl, by simpa [chg, gn] using h⟩
  | f :: r, us, D, C, M, h => by
    rw [List.foldl_cons]
    by_cases hh : hasP a f.1 = true
    · obtain ⟨h1, h2⟩ := stepD_in (a := a) (g := g) (us := us) (D := D) (f := f) hh
      have e1 : gn (f :: r) a = gn r a := by unfold gn; rw [List.filter_cons, if_neg (by simp [hh])]
      have e2 : chg a (f :: r) = (if bytesAt a f.1 = f.2 then [] else [(3, f.1, [], f.2)]) ++ chg a r := by
        unfold chg
        rw [List.filterMap_cons]
        by_cases e : bytesAt a f.1 = f.2
        · simp [hh, e]
        · simp [hh, e]
      rw [e1, e2]
      have hs : stepD a g (us, D) f = (us, (stepD a g (us, D) f).2) := Prod.ext h1 rfl
      rw [hs]
      have h3 := fold_mv (a := a) (g := g) r us (stepD a g (us, D) f).2 (C ++ (if bytesAt a f.1 = f.2 then [] else [(3, f.1, [], f.2)])) M (h2.trans (by
        refine (h.append_right _).trans ?_
        rw [List.append_assoc, List.append_assoc]
        exact List.Perm.append_left _ List.perm_append_comm))
      exact ⟨h3.1, by rw [← List.append_assoc]; exact h3.2⟩
    · obtain ⟨h1, x, h2, h3⟩ := stepD_out (g := g) (us := us) (D := D) (M := M) hh
      have e1 : gn (f :: r) a = f :: gn r a := by unfold gn; rw [List.filter_cons, if_pos (by simp [hh])]
      have e2 : chg a (f :: r) = chg a r := by unfold chg; rw [List.filterMap_cons]; simp [hh]
      rw [e1, e2, List.foldl_cons]
      have hs : stepD a g (us, D) f = ((mvS g (us, M) f).1, (stepD a g (us, D) f).2) := Prod.ext h1 rfl
      have ht : mvS g (us, M) f = ((mvS g (us, M) f).1, M ++ [x]) := Prod.ext rfl h2
      rw [hs, ht]
      exact fold_mv r _ _ C (M ++ [x]) (h3.trans (by rw [← List.append_assoc]; exact h.append_right _))
theorem rmL_succ (g : List Fl) (us : List Bool) (k : Nat) : rmL g us (k + 1) = rmL g us k ++ (if us[k]?.getD true = true then [] else [(2, (g[k]?.getD ([], [])).1, [], [])]) := by
  unfold rmL
  rw [List.range_succ, List.filterMap_append]
  by_cases e : us[k]?.getD true = true
  · simp [e]
  · simp [e]
theorem fold_rm (g : List Fl) (us : List Bool) (D : List Ch) : ∀ k, ((List.range k).foldl (stepR g us) D).Perm (D ++ rmL g us k)
  | 0 => by simp [rmL]
  | k + 1 => by
    rw [List.range_succ, List.foldl_append, rmL_succ, ← List.append_assoc]
    have h := fold_rm g us D k
    show (stepR g us _ k).Perm _
    unfold stepR
    split
    · rw [List.append_nil]; exact h
    · exact ((ins_perm _ _).trans (List.perm_append_comm (l₁ := [_]))).trans (h.append_right _)
/-- What Diff answers is, but for its order, what the program finds. -/
theorem dif_perm (a b : List Fl) : (difL a b).Perm (chg a b ++ mvL (gn a b) (gn b a)) := by
  unfold difL mvL
  refine (fold_rm _ _ _ _).trans ?_
  obtain ⟨h1, h2⟩ := fold_mv (a := a) (g := gn a b) b (List.replicate (gn a b).length false) [] [] [] (.refl _)
  have e1 : (dif1 a b).1 = (mv1 (gn a b) (gn b a)).1 := h1
  have e2 : (dif1 a b).2.Perm (chg a b ++ (mv1 (gn a b) (gn b a)).2) := by
    rw [List.nil_append] at h2
    exact h2
  rw [e1, ← List.append_assoc]
  exact e2.append_right _
theorem srt_mem_eq : ∀ {A B : List Ch}, Srt A → Srt B → (∀ x, x ∈ A ↔ x ∈ B) → A = B
  | [], [], _, _, _ => rfl
  | [], y :: B, _, _, h => by have := (h y).2 List.mem_cons_self; simp at this
  | x :: A, [], _, _, h => by have := (h x).1 List.mem_cons_self; simp at this
  | x :: A, y :: B, ha, hb, h => by
    have h1 := List.pairwise_cons.1 ha
    have h2 := List.pairwise_cons.1 hb
    have hxy : x = y := by
      rcases List.mem_cons.1 ((h x).1 List.mem_cons_self) with e | e
      · exact e
      · rcases List.mem_cons.1 ((h y).2 List.mem_cons_self) with e2 | e2
        · exact e2.symm
        · have h3 := h2.1 x e
          rw [lss_asymm (h1.1 y e2)] at h3
          cases h3
    subst hxy
    rw [srt_mem_eq h1.2 h2.2 (fun f => ⟨fun hf => ?_, fun hf => ?_⟩)]
    · rcases List.mem_cons.1 ((h f).1 (List.mem_cons_of_mem _ hf)) with e | e
      · have h3 := h1.1 f hf; rw [e, lss_self] at h3; cases h3
      · exact e
    · rcases List.mem_cons.1 ((h f).2 (List.mem_cons_of_mem _ hf)) with e | e
      · have h3 := h2.1 f hf; rw [e, lss_self] at h3; cases h3
      · exact e
theorem srt_ne {l : List Ch} (h : Srt l) : l.Pairwise fun x y => x.2.1 ≠ y.2.1 := h.imp fun h => lss_ne h
/-- What the program finds, sorted by the paths, is what Diff answers. -/
theorem dif_sorted {a b : List Fl} (ha : chk a = 0) (hb : chk b = 0) {d : List Ch} (hp : d.Perm (chg a b ++ mvL (gn a b) (gn b a))) (hs : d.Pairwise fun x y => lss y.2.1 x.2.1 = false) : d = difL a b := by
  have hd := dif_ok ha hb
  have hpd : d.Perm (difL a b) := hp.trans (dif_perm a b).symm
  have hne : d.Pairwise fun x y => x.2.1 ≠ y.2.1 := (hpd.pairwise_iff (fun h => h.symm)).2 (srt_ne hd.srt)
  refine srt_mem_eq ?_ hd.srt (fun x => hpd.mem_iff)
  refine (hs.and hne).imp fun {x y} h => ?_
  exact lss_total h.1 (fun e => h.2 e.symm)
/-- The paths of the unused old places with these bytes. -/
def oldP : List Fl → List Bool → List Nat → List (List Nat)
  | g :: gs, u :: us, y => if u = false ∧ g.2 = y then g.1 :: oldP gs us y else oldP gs us y
  | _, _, _ => []
theorem oldP_all (y : List Nat) : ∀ g : List Fl, oldP g (List.replicate g.length false) y = (g.filter fun f => decide (f.2 = y)).map (·.1)
  | [] => rfl
  | f :: g => by
    show oldP (f :: g) (false :: List.replicate g.length false) y = _
    unfold oldP
    rw [oldP_all y g]
    by_cases e : f.2 = y <;> simp [e]
theorem oldP_snoc (g : List Fl) (f : Fl) (y : List Nat) : ((g ++ [f]).filter fun f => decide (f.2 = y)).map (·.1) = (g.filter fun f => decide (f.2 = y)).map (·.1) ++ (if f.2 = y then [f.1] else []) := by
  rw [List.filter_append, List.map_append]
  by_cases e : f.2 = y <;> simp [e]
theorem fndU_oldP (y : List Nat) : ∀ (gs : List Fl) (us : List Bool) (j : Nat),
    (fndU y gs us j = none ∧ oldP gs us y = []) ∨ ∃ i, fndU y gs us j = some (j + i) ∧ i < gs.length ∧ i < us.length ∧ oldP gs us y = (gs[i]?.getD ([], [])).1 :: oldP gs (us.set i true) y ∧ ∀ y', y' ≠ y → oldP gs (us.set i true) y' = oldP gs us y'
  | [], us, j => .inl ⟨by simp [fndU], by simp [oldP]⟩
  | g :: gs, [], j => .inl ⟨by simp [fndU], by simp [oldP]⟩
  | g :: gs, u :: us, j => by
    by_cases h : u = false ∧ g.2 = y
    · refine .inr ⟨0, by unfold fndU; rw [if_pos h]; rfl, by simp, by simp, ?_, fun y' hy => ?_⟩
      · have e : oldP (g :: gs) ((u :: us).set 0 true) y = oldP gs us y := by
          show oldP (g :: gs) (true :: us) y = _
          unfold oldP
          rw [if_neg (by simp)]
          cases gs <;> cases us <;> rfl
        rw [e]
        conv => lhs; unfold oldP
        rw [if_pos h]
        rfl
      · show oldP (g :: gs) (true :: us) y' = _
        unfold oldP
        rw [if_neg (by simp), if_neg (fun e => hy (by rw [← e.2, h.2]))]
    · rcases fndU_oldP y gs us (j + 1) with ⟨h1, h2⟩ | ⟨i, h1, h2, h3, h4, h5⟩
      · refine .inl ⟨by unfold fndU; rw [if_neg h]; exact h1, ?_⟩
        unfold oldP
        rw [if_neg h]; exact h2
      · refine .inr ⟨i + 1, by unfold fndU; rw [if_neg h, h1]; congr 1; omega, by simpa using h2, by simpa using h3, ?_, fun y' hy => ?_⟩
        · show oldP (g :: gs) (u :: us) y = ((g :: gs)[i + 1]?.getD ([], [])).1 :: oldP (g :: gs) (u :: us.set i true) y
          unfold oldP
          rw [if_neg h, if_neg h, h4]
          simp
        · show oldP (g :: gs) (u :: us.set i true) y' = oldP (g :: gs) (u :: us) y'
          unfold oldP
          rw [h5 y' hy]
/-- An old place is not used just where its path is among the unused ones with its bytes. -/
theorem oldP_mem {y p : List Nat} : ∀ {gs : List Fl} {us : List Bool}, p ∈ oldP gs us y ↔ ∃ i : Nat, us[i]? = some false ∧ gs[i]? = some (p, y)
  | [], us => by simp [oldP]
  | g :: gs, [] => by simp [oldP]
  | g :: gs, u :: us => by
    unfold oldP
    have ih := oldP_mem (y := y) (p := p) (gs := gs) (us := us)
    constructor
    · intro h
      split at h
      · rename_i hh
        rcases List.mem_cons.1 h with rfl | h
        · exact ⟨0, by simp [hh.1], by simp [← hh.2]⟩
        · obtain ⟨i, h1, h2⟩ := ih.1 h
          exact ⟨i + 1, by simpa using h1, by simpa using h2⟩
      · obtain ⟨i, h1, h2⟩ := ih.1 h
        exact ⟨i + 1, by simpa using h1, by simpa using h2⟩
    · rintro ⟨i, h1, h2⟩
      cases i with
      | zero =>
        obtain rfl : u = false := by simpa using h1
        obtain rfl : g = (p, y) := by simpa using h2
        rw [if_pos ⟨rfl, rfl⟩]
        exact List.mem_cons_self
      | succ i =>
        have h3 := ih.2 ⟨i, by simpa using h1, by simpa using h2⟩
        split
        · exact List.mem_cons_of_mem _ h3
        · exact h3
theorem oldP_at {g : List Fl} {us : List Bool} (hd : g.Pairwise fun x y => x.1 ≠ y.1) (hl : us.length = g.length) {i : Nat} {f : Fl} (hf : g[i]? = some f) : decide (f.1 ∈ oldP g us f.2) = !(us[i]?.getD true) := by
  have hi : i < g.length := (List.getElem?_eq_some_iff.1 hf).1
  have hu : us[i]? = some (us[i]'(by omega)) := List.getElem?_eq_getElem (by omega)
  rw [hu]
  simp only [Option.getD_some]
  rw [Bool.eq_iff_iff, decide_eq_true_eq, oldP_mem]
  constructor
  · rintro ⟨j, h1, h2⟩
    have hj : j = i := by
      have hjl : j < g.length := (List.getElem?_eq_some_iff.1 h2).1
      have g1 := (List.getElem?_eq_some_iff.1 h2).2
      have g2 := (List.getElem?_eq_some_iff.1 hf).2
      rcases Nat.lt_trichotomy j i with h | h | h
      · exact absurd (by rw [g1, g2]) (List.pairwise_iff_getElem.1 hd j i hjl hi h)
      · exact h
      · exact absurd (by rw [g1, g2]) (List.pairwise_iff_getElem.1 hd i j hi hjl h)
    subst hj
    rw [hu] at h1
    simp only [Option.some.injEq] at h1
    simp [h1]
  · intro h
    refine ⟨i, ?_, hf⟩
    rw [hu]
    simpa using h
theorem mvS_len {g : List Fl} {s : List Bool × List Ch} (f : Fl) : (mvS g s f).1.length = s.1.length ∧ (mvS g s f).2.length = s.2.length + 1 := by
  unfold mvS
  cases fndU f.2 g s.1 0 <;> simp
theorem mv_len (g : List Fl) : ∀ (A : List Fl) (s : List Bool × List Ch), (A.foldl (mvS g) s).1.length = s.1.length ∧ (A.foldl (mvS g) s).2.length = s.2.length + A.length
  | [], s => by simp
  | f :: A, s => by
    rw [List.foldl_cons, (mv_len g A _).1, (mv_len g A _).2, (mvS_len f).1, (mvS_len f).2]
    exact ⟨rfl, by rw [List.length_cons]; omega⟩
theorem mv_snoc {g A : List Fl} {k : Nat} {f : Fl} (h : A[k]? = some f) (s : List Bool × List Ch) : (A.take (k + 1)).foldl (mvS g) s = mvS g ((A.take k).foldl (mvS g) s) f := by
  rw [List.take_add_one, h, List.foldl_append]
  rfl
theorem rmL_len (g : List Fl) (us : List Bool) (k : Nat) : (rmL g us k).length ≤ k := by
  unfold rmL
  exact Nat.le_trans (List.length_filterMap_le _ _) (by simp)
end FdN
end Go.Proofs.YtfobogcccbddbaaGreatDoor

/- Changes of files, plain: Apply of Diff is the second revision; the order of changes does not matter for Apply. No condition. -/
namespace Go.Proofs.YtfobogcccbddbaaGreatDoor
set_option linter.unusedVariables false
set_option linter.unusedSimpArgs false
namespace FdN
open RevN LexN
theorem Dif.well {a b : List Fl} {D : List Ch} (h : Dif a b D) : ∀ x ∈ D, wel x = true := by
  intro x hx
  unfold wel
  rcases h.el x hx with ⟨h1, h2, -⟩ | ⟨h1, h2, -⟩ | ⟨h1, h2, -⟩ | ⟨h1, h2, h3, -⟩
  · rw [if_pos (.inr h1)]; simp [h2]
  · rw [if_pos (.inl h1)]; simp [h2]
  · rw [if_neg (by omega), if_neg (by omega), if_pos h1]; simp [h2]
  · rw [if_neg (by omega), if_pos h1]; simp [h2, h3]
theorem tks4 {x : Ch} (h : x.1 = 4) : tks x = some x.2.2.1 := if_pos h
theorem tks2 {x : Ch} (h : x.1 = 2) : tks x = some x.2.1 := by unfold tks; rw [if_neg (by omega), if_pos (.inl h)]
theorem tks3 {x : Ch} (h : x.1 = 3) : tks x = some x.2.1 := by unfold tks; rw [if_neg (by omega), if_pos (.inr h)]
theorem tks1 {x : Ch} (h : x.1 = 1) : tks x = none := by unfold tks; rw [if_neg (by omega), if_neg (by omega)]
theorem Dif.noTw {a b : List Fl} {D : List Ch} (h : Dif a b D) : noTw D := by
  refine List.Pairwise.imp_of_mem (fun {x y} hx hy hlt => ?_) h.srt
  have hne := lss_ne hlt
  unfold tw
  have h2 : (pts x && (pts y && decide (x.2.1 = y.2.1))) = false := by simp [hne]
  rw [h2, Bool.or_false]
  cases hc : (tks x).isSome && decide (tks x = tks y) with
  | false => rfl
  | true =>
    exfalso
    rw [Bool.and_eq_true, decide_eq_true_eq] at hc
    obtain ⟨hs, he⟩ := hc
    rcases h.el x hx with ⟨x1, -, x3, -⟩ | ⟨x1, -⟩ | ⟨x1, -, -, z, -, -, x6⟩ | ⟨x1, -, -, -, x5⟩
    · rw [tks3 x1] at he
      rcases h.el y hy with ⟨y1, -⟩ | ⟨y1, -⟩ | ⟨y1, -, -, z', -, -, y6⟩ | ⟨y1, -⟩
      · rw [tks3 y1] at he; exact hne (Option.some.inj he)
      · rw [tks1 y1] at he; cases he
      · rw [tks4 y1] at he; exact y6 ⟨_, x3, Option.some.inj he⟩
      · rw [tks2 y1] at he; exact hne (Option.some.inj he)
    · rw [tks1 x1] at hs; cases hs
    · rw [tks4 x1] at he
      rcases h.el y hy with ⟨y1, -, y3, -⟩ | ⟨y1, -⟩ | ⟨y1, -⟩ | ⟨y1, -⟩
      · rw [tks3 y1] at he; exact x6 ⟨_, y3, (Option.some.inj he).symm⟩
      · rw [tks1 y1] at he; cases he
      · rw [tks4 y1] at he
        have e := h.u4 x hx y hy x1 y1 (Option.some.inj he)
        rw [e] at hne
        exact hne rfl
      · rw [tks2 y1] at he; exact h.u24 x hx y hy x1 y1 (Option.some.inj he)
    · rw [tks2 x1] at he
      rcases h.el y hy with ⟨y1, -⟩ | ⟨y1, -⟩ | ⟨y1, -⟩ | ⟨y1, -⟩
      · rw [tks3 y1] at he; exact hne (Option.some.inj he)
      · rw [tks1 y1] at he; cases he
      · rw [tks4 y1] at he; exact h.u24 y hy x hx y1 x1 (Option.some.inj he).symm
      · rw [tks2 y1] at he; exact hne (Option.some.inj he)
theorem find_mem {a : List Fl} (ha : chk a = 0) {f : Fl} (hf : f ∈ a) : (findF a f.1).1 = f.2 := by
  obtain ⟨k, hk⟩ := List.mem_iff_getElem?.1 hf
  rw [find_at ha hk rfl]
theorem Dif.putB {a b : List Fl} {D : List Ch} (h : Dif a b D) (ha : chk a = 0) : ∀ x ∈ D, x.1 ≠ 2 → (x.2.1, FdN.putB a x) ∈ b := by
  intro x hx hn
  unfold FdN.putB
  rcases h.el x hx with ⟨x1, -, x3, -⟩ | ⟨x1, -, x3, -⟩ | ⟨x1, -, -, z, x4, x5, -⟩ | ⟨x1, -⟩
  · rw [if_neg (by omega)]; exact x3
  · rw [if_neg (by omega)]; exact x3
  · rw [if_pos x1, find_mem ha x5]; exact x4
  · exact absurd x1 hn
theorem pts_iff {x : Ch} : pts x = true ↔ x.1 ≠ 2 := by unfold pts; simp
theorem Dif.out_mem {a b : List Fl} {D : List Ch} (h : Dif a b D) (ha : chk a = 0) (hb : chk b = 0) (z : Fl) : (z ∈ putsL a D ∨ z ∈ left a D) ↔ z ∈ b := by
  rw [puts_mem, left_mem]
  constructor
  · rintro (⟨x, hx, hp, rfl⟩ | ⟨hz, hn⟩)
    · exact h.putB ha x hx (pts_iff.1 hp)
    · by_cases hh : has b z.1
      · obtain ⟨f, hf, e⟩ := hh
        rcases h.b1 f hf with h1 | ⟨x, hx, hk, he⟩
        · rw [← one_file (chk_ok ha).2 h1 hz e]; exact hf
        · exfalso
          rcases h.el x hx with ⟨x1, -, -, -⟩ | ⟨x1, -, -, x4⟩ | ⟨x1, -, x3, -⟩ | ⟨x1, -⟩
          · exact hn x hx (by rw [tks3 x1, he, e])
          · exact x4 ⟨z, hz, by rw [he, e]⟩
          · exact x3 ⟨z, hz, by rw [he, e]⟩
          · exact hk x1
      · exfalso
        obtain ⟨x, hx, ⟨h1, h2⟩ | ⟨h1, h2⟩⟩ := h.a1 z hz hh
        · exact hn x hx (by rw [tks2 h1, h2])
        · exact hn x hx (by rw [tks4 h1, h2])
  · intro hz
    by_cases hh : ∃ x ∈ D, x.1 ≠ 2 ∧ x.2.1 = z.1
    · obtain ⟨x, hx, hk, e⟩ := hh
      refine .inl ⟨x, hx, pts_iff.2 hk, ?_⟩
      exact one_file (chk_ok hb).2 hz (h.putB ha x hx hk) e.symm
    · refine .inr ⟨(h.b1 z hz).resolve_right hh, fun x hx e => ?_⟩
      rcases h.el x hx with ⟨x1, -⟩ | ⟨x1, -⟩ | ⟨x1, -, -, y, -, -, x6⟩ | ⟨x1, -, -, -, x5⟩
      · rw [tks3 x1] at e; exact hh ⟨x, hx, by omega, Option.some.inj e⟩
      · rw [tks1 x1] at e; cases e
      · rw [tks4 x1] at e; exact x6 ⟨z, hz, (Option.some.inj e).symm⟩
      · rw [tks2 x1] at e; exact x5 ⟨z, hz, (Option.some.inj e).symm⟩
/-- What Apply makes of changes that are well, take and put no path twice, take what is there, and put what is not left. -/
theorem out_ok {a : List Fl} {l : List Ch} (ha : chk a = 0) (h1 : noTw l) (h2 : ∀ x ∈ l, pts x = true → ¬ has (left a l) x.2.1) (h3 : ∀ x ∈ l, pts x = true → pathB x.2.1 = true) (h4 : ∀ f ∈ putsL a l, f.2.length ≤ 16384) :
    chkL [] (outL a l) = 0 ∧ ∀ z, z ∈ outL a l ↔ z ∈ putsL a l ∨ z ∈ left a l := by
  rw [outL_eq]
  refine insF_fold _ _ (fun f hf => ?_) (puts_dst h1) (left_chk ha l)
  obtain ⟨x, hx, hp, rfl⟩ := puts_mem.1 hf
  exact ⟨h3 x hx hp, h4 _ hf, h2 x hx hp⟩
theorem Dif.apply {a b : List Fl} {D : List Ch} (h : Dif a b D) (ha : chk a = 0) (hb : chk b = 0) : aplE a D = 0 ∧ outL a D = b := by
  have hex : ∀ x ∈ D, pts x = true → ¬ has (left a D) x.2.1 := by
    rintro x hx hp ⟨f, hf, e⟩
    obtain ⟨hfa, hn⟩ := left_mem.1 hf
    rcases h.el x hx with ⟨x1, -⟩ | ⟨x1, -, -, x4⟩ | ⟨x1, -, x3, -⟩ | ⟨x1, -⟩
    · exact hn x hx (by rw [tks3 x1, e])
    · exact x4 ⟨f, hfa, e⟩
    · exact x3 ⟨f, hfa, e⟩
    · exact pts_iff.1 hp x1
  have hbm := chkL_mem (chk_ok hb).2
  have hpa : ∀ x ∈ D, pts x = true → pathB x.2.1 = true := fun x hx hp => (hbm _ (h.putB ha x hx (pts_iff.1 hp))).1
  have hby : ∀ f ∈ putsL a D, f.2.length ≤ 16384 := fun f hf => by
    obtain ⟨x, hx, hp, rfl⟩ := puts_mem.1 hf
    exact (hbm _ (h.putB ha x hx (pts_iff.1 hp))).2
  obtain ⟨h1, h2⟩ := out_ok ha h.noTw hex hpa hby
  have he : outL a D = b := srt_eq h1 (chk_ok hb).2 (fun f => (h2 f).trans (h.out_mem ha hb f))
  refine ⟨?_, he⟩
  have htk : ∀ x ∈ D, (tks x).all (fun p => hasP a p) = true := by
    intro x hx
    rcases h.el x hx with ⟨x1, -, -, y, x4, -⟩ | ⟨x1, -⟩ | ⟨x1, -, -, y, -, x5, -⟩ | ⟨x1, -, -, x4, -⟩
    · rw [tks3 x1]; exact (hasP_iff ha).2 ⟨_, x4, rfl⟩
    · rw [tks1 x1]; rfl
    · rw [tks4 x1]; exact (hasP_iff ha).2 ⟨_, x5, rfl⟩
    · rw [tks2 x1]; exact (hasP_iff ha).2 x4
  unfold aplE
  rw [if_neg (by rw [ha]; simp), if_neg (fun hn => hn h.well), if_neg (fun hn => hn h.noTw), if_neg (fun hn => hn htk), if_neg (fun hn => hn hex), if_neg (fun hn => hn hpa), if_neg (by rw [he, hb]; simp)]
/-- What an Apply without an error says. -/
theorem apl_ok {a : List Fl} {l : List Ch} (h : aplE a l = 0) : chk a = 0 ∧ (∀ x ∈ l, wel x = true) ∧ noTw l ∧ (∀ x ∈ l, (tks x).all (fun p => hasP a p) = true) ∧ (∀ x ∈ l, pts x = true → ¬ has (left a l) x.2.1) ∧ (∀ x ∈ l, pts x = true → pathB x.2.1 = true) ∧ chk (outL a l) = 0 := by
  unfold aplE at h
  by_cases h1 : chk a = 0
  · rw [if_neg (by rw [h1]; simp)] at h
    by_cases h2 : ∀ x ∈ l, wel x = true
    · rw [if_neg (fun hn => hn h2)] at h
      by_cases h3 : noTw l
      · rw [if_neg (fun hn => hn h3)] at h
        by_cases h4 : ∀ x ∈ l, (tks x).all (fun p => hasP a p) = true
        · rw [if_neg (fun hn => hn h4)] at h
          by_cases h5 : ∀ x ∈ l, pts x = true → ¬ has (left a l) x.2.1
          · rw [if_neg (fun hn => hn h5)] at h
            by_cases h6 : ∀ x ∈ l, pts x = true → pathB x.2.1 = true
            · rw [if_neg (fun hn => hn h6)] at h
              by_cases h7 : chk (outL a l) = 0
              · exact ⟨h1, h2, h3, h4, h5, h6, h7⟩
              · rw [if_pos h7] at h; cases h
            · rw [if_pos h6] at h; cases h
          · rw [if_pos h5] at h; cases h
        · rw [if_pos h4] at h; cases h
      · rw [if_pos h3] at h; cases h
    · rw [if_pos h2] at h; cases h
  · rw [if_pos h1] at h; cases h
theorem apl_mk {a : List Fl} {l : List Ch} (h1 : chk a = 0) (h2 : ∀ x ∈ l, wel x = true) (h3 : noTw l) (h4 : ∀ x ∈ l, (tks x).all (fun p => hasP a p) = true) (h5 : ∀ x ∈ l, pts x = true → ¬ has (left a l) x.2.1) (h6 : ∀ x ∈ l, pts x = true → pathB x.2.1 = true) (h7 : chk (outL a l) = 0) : aplE a l = 0 := by
  unfold aplE
  rw [if_neg (by rw [h1]; simp), if_neg (fun hn => hn h2), if_neg (fun hn => hn h3), if_neg (fun hn => hn h4), if_neg (fun hn => hn h5), if_neg (fun hn => hn h6), if_neg (by rw [h7]; simp)]
/-- The order of changes does not matter. -/
theorem apl_perm {a : List Fl} {l m : List Ch} (hp : l.Perm m) (h : aplE a l = 0) : aplE a m = 0 ∧ outL a m = outL a l := by
  obtain ⟨h1, h2, h3, h4, h5, h6, h7⟩ := apl_ok h
  have hm : ∀ x, x ∈ m ↔ x ∈ l := fun x => hp.mem_iff.symm
  have hleft : left a m = left a l := by
    unfold left
    congr 1
    funext f
    congr 1
    have : (some f.1 ∈ m.map tks) ↔ (some f.1 ∈ l.map tks) := (hp.map tks).mem_iff.symm
    simp only [this]
  have hpl : ∀ z, z ∈ putsL a m ↔ z ∈ putsL a l := fun z => by
    rw [puts_mem, puts_mem]
    exact ⟨fun ⟨x, hx, h⟩ => ⟨x, (hm x).1 hx, h⟩, fun ⟨x, hx, h⟩ => ⟨x, (hm x).2 hx, h⟩⟩
  have h3' : noTw m := hp.pairwise h3 (fun {x y} hxy => by rw [tw_comm]; exact hxy)
  have hlen : ∀ f ∈ putsL a l, f.2.length ≤ 16384 := fun f hf => (chkL_mem (chk_ok h7).2 f (by rw [outL_eq]; exact (insF_any _ _ f).2 (.inl hf))).2
  have h5' : ∀ x ∈ m, pts x = true → ¬ has (left a m) x.2.1 := fun x hx hx2 => by rw [hleft]; exact h5 x ((hm x).1 hx) hx2
  have h6' : ∀ x ∈ m, pts x = true → pathB x.2.1 = true := fun x hx => h6 x ((hm x).1 hx)
  obtain ⟨o1, o2⟩ := out_ok h1 h3 h5 h6 hlen
  obtain ⟨p1, p2⟩ := out_ok h1 h3' h5' h6' (fun f hf => hlen f ((hpl f).1 hf))
  have he : outL a m = outL a l := srt_eq p1 o1 (fun z => by rw [p2 z, o2 z, hpl z, hleft])
  exact ⟨apl_mk h1 (fun x hx => h2 x ((hm x).1 hx)) h3' (fun x hx => h4 x ((hm x).1 hx)) h5' h6' (by rw [he]; exact h7), he⟩
end FdN
end Go.Proofs.YtfobogcccbddbaaGreatDoor
