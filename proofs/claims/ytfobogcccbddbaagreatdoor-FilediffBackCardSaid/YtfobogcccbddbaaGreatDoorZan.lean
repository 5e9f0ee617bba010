/- Changes of files, plain: Apply step by step. No condition. -/
import Derived.Test.YtfobogcccbddbaaGreatDoorZam
import Derived.Test.YtfobogcccbddbaaGreatDoorZab
import Derived.Test.YtfobogcccbddbaaGreatDoorZak
namespace Go.Proofs.YtfobogcccbddbaaGreatDoor
set_option linter.unusedVariables false
set_option linter.unusedSimpArgs false
namespace FdN
open RevN LexN
theorem aE1 {a : List Fl} {l : List Ch} (h : chk a ≠ 0) : aplA a l = (1, []) := by
  have : aplE a l = 1 := by unfold aplE; rw [if_pos h]
  unfold aplA; rw [this]; rfl
theorem aE2 {a : List Fl} {l : List Ch} (h1 : chk a = 0) {x : Ch} (hx : x ∈ l) (h : wel x = false) : aplA a l = (1, []) := by
  have : aplE a l = 1 := by unfold aplE; rw [if_neg (by simp [h1]), if_pos (fun hn => by have := hn x hx; rw [h] at this; cases this)]
  unfold aplA; rw [this]; rfl
theorem aE3 {a : List Fl} {l : List Ch} (h1 : chk a = 0) (h2 : ∀ x ∈ l, wel x = true) (h : ¬ noTw l) : aplA a l = (10, []) := by
  have : aplE a l = 10 := by unfold aplE; rw [if_neg (by simp [h1]), if_neg (fun hn => hn h2), if_pos h]
  unfold aplA; rw [this]; rfl
theorem aE4 {a : List Fl} {l : List Ch} (h1 : chk a = 0) (h2 : ∀ x ∈ l, wel x = true) (h3 : noTw l) {x : Ch} (hx : x ∈ l) {p : List Nat} (ht : tks x = some p) (h : hasP a p = false) : aplA a l = (18, []) := by
  have : aplE a l = 18 := by
    unfold aplE
    rw [if_neg (by simp [h1]), if_neg (fun hn => hn h2), if_neg (fun hn => hn h3), if_pos (fun hn => by have := hn x hx; rw [ht] at this; simp [h] at this)]
  unfold aplA; rw [this]; rfl
theorem aE5 {a : List Fl} {l : List Ch} (h1 : chk a = 0) (h2 : ∀ x ∈ l, wel x = true) (h3 : noTw l) (h4 : ∀ x ∈ l, (tks x).all (fun p => hasP a p) = true) {x : Ch} (hx : x ∈ l) (hp : pts x = true) (h : has (left a l) x.2.1) : aplA a l = (19, []) := by
  have : aplE a l = 19 := by
    unfold aplE
    rw [if_neg (by simp [h1]), if_neg (fun hn => hn h2), if_neg (fun hn => hn h3), if_neg (fun hn => hn h4), if_pos (fun hn => hn x hx hp h)]
  unfold aplA; rw [this]; rfl
theorem aE6 {a : List Fl} {l : List Ch} (h1 : chk a = 0) (h2 : ∀ x ∈ l, wel x = true) (h3 : noTw l) (h4 : ∀ x ∈ l, (tks x).all (fun p => hasP a p) = true) (h5 : ∀ x ∈ l, pts x = true → ¬ has (left a l) x.2.1) {x : Ch} (hx : x ∈ l) (hp : pts x = true) (h : pathB x.2.1 = false) : aplA a l = (1, []) := by
  have : aplE a l = 1 := by
    unfold aplE
    rw [if_neg (by simp [h1]), if_neg (fun hn => hn h2), if_neg (fun hn => hn h3), if_neg (fun hn => hn h4), if_neg (fun hn => hn h5), if_pos (fun hn => by have := hn x hx hp; rw [h] at this; cases this)]
  unfold aplA; rw [this]; rfl
theorem aE7 {a : List Fl} {l : List Ch} (h1 : chk a = 0) (h2 : ∀ x ∈ l, wel x = true) (h3 : noTw l) (h4 : ∀ x ∈ l, (tks x).all (fun p => hasP a p) = true) (h5 : ∀ x ∈ l, pts x = true → ¬ has (left a l) x.2.1) (h6 : ∀ x ∈ l, pts x = true → pathB x.2.1 = true) (h : chk (outL a l) ≠ 0) : aplA a l = (1, []) := by
  have : aplE a l = 1 := by
    unfold aplE
    rw [if_neg (by simp [h1]), if_neg (fun hn => hn h2), if_neg (fun hn => hn h3), if_neg (fun hn => hn h4), if_neg (fun hn => hn h5), if_neg (fun hn => hn h6), if_pos h]
  unfold aplA; rw [this]; rfl
theorem aE0 {a : List Fl} {l : List Ch} (h1 : chk a = 0) (h2 : ∀ x ∈ l, wel x = true) (h3 : noTw l) (h4 : ∀ x ∈ l, (tks x).all (fun p => hasP a p) = true) (h5 : ∀ x ∈ l, pts x = true → ¬ has (left a l) x.2.1) (h6 : ∀ x ∈ l, pts x = true → pathB x.2.1 = true) (h : chk (outL a l) = 0) : aplA a l = (0, outL a l) := by
  have := apl_mk h1 h2 h3 h4 h5 h6 h
  unfold aplA; rw [this]; rfl
theorem tkP_of {x : Ch} {p : List Nat} (h : tks x = some p) : (tks x).getD [] = p := by rw [h]; rfl
theorem tw_eq (x y : Ch) : tw x y = (((tks x).isSome && ((tks y).isSome && decide ((tks x).getD [] = (tks y).getD []))) || (pts x && (pts y && decide (x.2.1 = y.2.1)))) := by
  unfold tw
  cases h1 : tks x <;> cases h2 : tks y <;> simp
/-- A prefix that grows. -/
theorem noTw_snoc {l : List Ch} {j : Nat} {x : Ch} (hx : l[j]? = some x) : noTw (l.take (j + 1)) ↔ noTw (l.take j) ∧ ∀ (i : Nat) (y : Ch), i < j → l[i]? = some y → tw x y = false := by
  rw [List.take_add_one, hx]
  unfold noTw
  rw [List.pairwise_append]
  constructor
  · rintro ⟨h1, -, h2⟩
    refine ⟨h1, fun i y hi hy => ?_⟩
    rw [tw_comm]
    exact h2 y (List.mem_of_getElem? (by rw [List.getElem?_take, if_pos hi]; exact hy)) x (by simp)
  · rintro ⟨h1, h2⟩
    refine ⟨h1, by simp, fun y hy z hz => ?_⟩
    have ez : z = x := by simpa using hz
    obtain ⟨i, hi⟩ := List.mem_iff_getElem?.1 hy
    have hij : i < j := by
      have := (List.getElem?_eq_some_iff.1 hi).1
      rw [List.length_take] at this
      omega
    rw [List.getElem?_take, if_pos hij] at hi
    rw [ez, tw_comm]
    exact h2 i y hij hi
theorem noTw_not {l : List Ch} {j i : Nat} {x y : Ch} (hx : l[j]? = some x) (hi : i < j) (hy : l[i]? = some y) (h : tw x y = true) : ¬ noTw l := by
  intro hn
  have h1 : noTw (l.take (j + 1)) := List.Pairwise.sublist (List.take_sublist _ _) hn
  have := ((noTw_snoc hx).1 h1).2 i y hi hy
  rw [h] at this; cases this
def tkL (l : List Ch) : List (List Nat) := l.filterMap tks
theorem tkL_snoc {l : List Ch} {j : Nat} {x : Ch} (hx : l[j]? = some x) : tkL (l.take (j + 1)) = tkL (l.take j) ++ (tks x).toList := by
  unfold tkL
  rw [List.take_add_one, hx, List.filterMap_append]
  cases h : tks x <;> simp [h]
theorem tkL_len (l : List Ch) : (tkL l).length ≤ l.length := List.length_filterMap_le _ _
theorem tkL_mem {l : List Ch} {p : List Nat} : p ∈ tkL l ↔ some p ∈ l.map tks := by
  unfold tkL
  rw [List.mem_filterMap, List.mem_map]
/-- Whether none of the first taken paths is this file's. -/
def lfB (T : List (List Nat)) (f : Fl) (k : Nat) : Bool := (T.take k).all fun p => !decide (p = f.1)
theorem lfB_snoc {T : List (List Nat)} {f : Fl} {k : Nat} {p : List Nat} (h : T[k]? = some p) : lfB T f (k + 1) = (lfB T f k && !decide (p = f.1)) := by
  unfold lfB
  rw [List.take_add_one, h, List.all_append]
  simp
theorem lfB_all {l : List Ch} {f : Fl} {k : Nat} (hk : (tkL l).length ≤ k) : lfB (tkL l) f k = !decide (some f.1 ∈ l.map tks) := by
  unfold lfB
  rw [List.take_of_length_le hk]
  by_cases h : some f.1 ∈ l.map tks
  · rw [decide_eq_true h]
    refine List.all_eq_false.2 ⟨f.1, tkL_mem.2 h, by simp⟩
  · rw [decide_eq_false h]
    refine List.all_eq_true.2 fun p hp => ?_
    have : p ≠ f.1 := fun e => h (by rw [← e]; exact tkL_mem.1 hp)
    simp [this]
theorem left_snoc {a : List Fl} {l : List Ch} {k : Nat} {f : Fl} (h : a[k]? = some f) : left (a.take (k + 1)) l = left (a.take k) l ++ (if (!decide (some f.1 ∈ l.map tks)) = true then [f] else []) := by
  unfold left
  rw [List.take_add_one, h, List.filter_append]
  congr 1
  show List.filter _ [f] = _
  rw [List.filter_cons]
  rfl
theorem left_all {a : List Fl} {l : List Ch} {k : Nat} (h : a.length ≤ k) : left (a.take k) l = left a l := by rw [List.take_of_length_le h]
theorem left_len (a : List Fl) (l : List Ch) : (left a l).length ≤ a.length := List.length_filter_le _ _
/-- The files when the first changes are made. -/
def outk (a : List Fl) (l : List Ch) (j : Nat) : List Fl := ((l.take j).filter pts).foldl (fun fs x => insF fs (x.2.1, putB a x)) (left a l)
theorem outk_zero (a : List Fl) (l : List Ch) : outk a l 0 = left a l := rfl
theorem outk_snoc {a : List Fl} {l : List Ch} {j : Nat} {x : Ch} (h : l[j]? = some x) : outk a l (j + 1) = if pts x = true then insF (outk a l j) (x.2.1, putB a x) else outk a l j := by
  unfold outk
  rw [List.take_add_one, h, List.filter_append, List.foldl_append]
  show List.foldl _ _ (List.filter pts [x]) = _
  rw [List.filter_cons]
  by_cases hp : pts x = true
  · rw [if_pos hp, if_pos hp]; rfl
  · rw [if_neg hp, if_neg hp]; rfl
theorem outk_all {a : List Fl} {l : List Ch} {j : Nat} (h : l.length ≤ j) : outk a l j = outL a l := by unfold outk outL; rw [List.take_of_length_le h]
theorem insF_len (fs : List Fl) (f : Fl) : (insF fs f).length = fs.length + 1 := by
  unfold insF
  have := pos_le fs f.1
  simp only [List.length_append, List.length_cons, List.length_take, List.length_drop]
  omega
theorem outk_len (a : List Fl) (l : List Ch) : ∀ j, (outk a l j).length ≤ a.length + j
  | 0 => left_len a l
  | j + 1 => by
    have ih := outk_len a l j
    cases h : l[j]? with
    | none =>
      have hj : l.length ≤ j := List.getElem?_eq_none_iff.1 h
      rw [outk_all (by omega), ← outk_all hj]
      omega
    | some x =>
      rw [outk_snoc h]
      split
      · rw [insF_len]; omega
      · omega
/-- A place before the one that is looked for. -/
theorem pos_ltJ : ∀ {fs : List Fl} {p : List Nat} {i : Nat} {f : Fl}, i < pos fs p → fs[i]? = some f → lss f.1 p = true
  | [], _, _, _, h, _ => by simp [pos] at h
  | z :: fs, p, 0, f, h, hf => by
    obtain rfl : z = f := by simpa using hf
    unfold pos at h
    split at h
    · rename_i hb; exact hb
    · omega
  | z :: fs, p, i + 1, f, h, hf => by
    unfold pos at h
    split at h
    · exact pos_ltJ (fs := fs) (i := i) (by omega) (by simpa using hf)
    · omega
theorem pos_atJ : ∀ {fs : List Fl} {p : List Nat} {f : Fl}, fs[pos fs p]? = some f → lss f.1 p = false
  | [], _, _, h => by simp at h
  | z :: fs, p, f, h => by
    unfold pos at h
    split at h
    · exact pos_atJ (fs := fs) (by simpa using h)
    · rename_i hb
      obtain rfl : z = f := by simpa using h
      simpa using hb
theorem insF_shift {fs : List Fl} {p : Nat} (hp : p < fs.length) (z k : Fl) : ((((fs ++ [z]).take (p + 1)) ++ ((fs ++ [z]).drop p).take (fs.length + 1 - (p + 1))).set p k) = fs.take p ++ k :: fs.drop p := by
  have e1 : (fs ++ [z]).take (p + 1) = fs.take (p + 1) := by rw [List.take_append_of_le_length (by omega)]
  have e2 : ((fs ++ [z]).drop p).take (fs.length + 1 - (p + 1)) = fs.drop p := by
    rw [List.drop_append_of_le_length (by omega), List.take_append_of_le_length (by rw [List.length_drop]; omega)]
    exact List.take_of_length_le (by rw [List.length_drop]; omega)
  rw [e1, e2, List.take_add_one, List.append_assoc]
  rw [List.set_append_right _ _ (by rw [List.length_take]; omega)]
  have : p - (fs.take p).length = 0 := by rw [List.length_take]; omega
  rw [this, List.getElem?_eq_getElem hp]
  rfl
theorem insF_end {fs : List Fl} (z k : Fl) : (fs ++ [z]).set fs.length k = fs.take fs.length ++ k :: fs.drop fs.length := by
  rw [List.take_length, List.drop_length, List.set_append_right _ _ (Nat.le_refl _), Nat.sub_self]
  rfl
end FdN
end Go.Proofs.YtfobogcccbddbaaGreatDoor

/- What Apply answers as the program finds it, plain: paths that are taken and put, the tables of files, the sorted files. No condition. -/
namespace Go.Proofs.YtfobogcccbddbaaGreatDoor
set_option linter.unusedVariables false
set_option linter.unusedSimpArgs false
namespace FdN
open RevN LexN
/-- The paths that changes put. -/
def ptL (l : List Ch) : List (List Nat) := (l.filter pts).map fun x => x.2.1
theorem ptL_mem {l : List Ch} {p : List Nat} : p ∈ ptL l ↔ ∃ x ∈ l, pts x = true ∧ x.2.1 = p := by
  unfold ptL
  simp only [List.mem_map, List.mem_filter]
  exact ⟨fun ⟨x, ⟨h1, h2⟩, h3⟩ => ⟨x, h1, h2, h3⟩, fun ⟨x, h1, h2, h3⟩ => ⟨x, ⟨h1, h2⟩, h3⟩⟩
theorem ptL_len (l : List Ch) : (ptL l).length ≤ l.length := by
  unfold ptL
  rw [List.length_map]
  exact List.length_filter_le _ _
theorem noTw_iff (l : List Ch) : noTw l ↔ (tkL l).Nodup ∧ (ptL l).Nodup := by
  unfold tkL ptL List.Nodup
  rw [List.pairwise_filterMap, List.pairwise_map, List.pairwise_filter, ← List.pairwise_and_iff]
  refine ⟨fun h => h.imp fun {x y} h => ?_, fun h => h.imp fun {x y} h => ?_⟩
  · unfold tw at h
    rw [Bool.or_eq_false_iff] at h
    refine ⟨fun p hp q hq e => ?_, fun hx hy e => ?_⟩
    · subst e
      rw [hp, hq] at h
      simp at h
    · rw [hx, hy, e] at h
      simp at h
  · unfold tw
    rw [Bool.or_eq_false_iff]
    constructor
    · cases hx : tks x with
      | none => rfl
      | some p =>
        simp only [Option.isSome_some, Bool.true_and, decide_eq_false_iff_not]
        intro e
        exact h.1 p hx p e.symm rfl
    · cases hx : pts x with
      | false => rfl
      | true =>
        cases hy : pts y with
        | false => rfl
        | true =>
          simp only [Bool.true_and, decide_eq_false_iff_not]
          exact h.2 hx hy
/-- What the first tests find. -/
inductive CkE (a : List Fl) (l : List Ch) : Nat → Prop
  | bad : chk a ≠ 0 → CkE a l 1
  | wrong (x : Ch) : chk a = 0 → x ∈ l → wel x = false → CkE a l 1
  | twice : chk a = 0 → (∀ x ∈ l, wel x = true) → ¬ noTw l → CkE a l 10
  | unknown (p : List Nat) : chk a = 0 → (∀ x ∈ l, wel x = true) → noTw l → p ∈ tkL l → hasP a p = false → CkE a l 18
  | there (p : List Nat) : chk a = 0 → (∀ x ∈ l, wel x = true) → noTw l → (∀ q ∈ tkL l, hasP a q = true) → p ∈ ptL l → has (left a l) p → CkE a l 19
  | ok : chk a = 0 → (∀ x ∈ l, wel x = true) → noTw l → (∀ q ∈ tkL l, hasP a q = true) → (∀ q ∈ ptL l, ¬ has (left a l) q) → CkE a l 0
theorem tkL_some {l : List Ch} {p : List Nat} : p ∈ tkL l ↔ ∃ x ∈ l, tks x = some p := by
  unfold tkL
  simp only [List.mem_filterMap]
theorem tk_all {a : List Fl} {l : List Ch} (h : ∀ q ∈ tkL l, hasP a q = true) : ∀ x ∈ l, (tks x).all (fun p => hasP a p) = true := fun x hx => by
  cases ht : tks x with
  | none => rfl
  | some p => exact h p (tkL_some.2 ⟨x, hx, ht⟩)
theorem CkE.err {a : List Fl} {l : List Ch} {e : Nat} (h : CkE a l e) (he : e ≠ 0) : aplA a l = (e, []) := by
  cases h with
  | bad h => exact aE1 h
  | wrong x h1 h2 h3 => exact aE2 h1 h2 h3
  | twice h1 h2 h3 => exact aE3 h1 h2 h3
  | unknown p h1 h2 h3 h4 h5 =>
    obtain ⟨x, hx, ht⟩ := tkL_some.1 h4
    exact aE4 h1 h2 h3 hx ht h5
  | there p h1 h2 h3 h4 h5 h6 =>
    obtain ⟨x, hx, hp, rfl⟩ := ptL_mem.1 h5
    exact aE5 h1 h2 h3 (tk_all h4) hx hp h6
  | ok => exact absurd rfl he
/-- Files by their paths. -/
abbrev FM := List Nat → Option (List Nat)
def fm0 (a : List Fl) : FM := fun p => if hasP a p = true then some (bytesAt a p) else none
def fmD (m : FM) (p : List Nat) : FM := fun q => if q = p then none else m q
def fmP (m : FM) (p y : List Nat) : FM := fun q => if q = p then some y else m q
theorem fm0_some {a : List Fl} (ha : chk a = 0) {p y : List Nat} : fm0 a p = some y ↔ (p, y) ∈ a := by
  unfold fm0
  by_cases h : hasP a p = true
  · rw [if_pos h]
    obtain ⟨f, hf, rfl⟩ := (hasP_iff ha).1 h
    rw [bytesAt_eq ha hf, Option.some_inj]
    constructor
    · rintro rfl; exact hf
    · intro h2
      have := one_file (chk_ok ha).2 hf h2 rfl
      rw [this]
  · rw [if_neg h]
    constructor
    · intro h2; cases h2
    · intro h2
      exact absurd ((hasP_iff ha).2 ⟨_, h2, rfl⟩) h
theorem fm0_is {a : List Fl} {p : List Nat} : (fm0 a p).isSome = hasP a p := by
  unfold fm0
  cases h : hasP a p <;> simp
theorem fm0_find {a : List Fl} (ha : chk a = 0) (p : List Nat) : (fm0 a p).getD [] = (findF a p).1 := by
  unfold fm0
  by_cases h : hasP a p = true
  · rw [if_pos h]
    obtain ⟨f, hf, rfl⟩ := (hasP_iff ha).1 h
    rw [bytesAt_eq ha hf]
    obtain ⟨k, hk⟩ := List.mem_iff_getElem?.1 hf
    rw [find_at ha hk rfl]
    rfl
  · rw [if_neg h]
    rw [find_not ha (fun k f hf e => h ((hasP_iff ha).2 ⟨f, List.mem_of_getElem? hf, e⟩))]
    rfl
/-- A table that is made of the files one after the other. -/
def fmA (a : List Fl) : FM := a.foldl (fun m f => fmP m f.1 f.2) (fun _ => none)
theorem fmA_snoc {a : List Fl} {k : Nat} {f : Fl} (h : a[k]? = some f) : fmA (a.take (k + 1)) = fmP (fmA (a.take k)) f.1 f.2 := by
  unfold fmA
  rw [List.take_add_one, h, List.foldl_append]
  rfl
theorem fmA_fold : ∀ (a : List Fl) (m : FM) (q : List Nat) (p : List Nat), chkL q a = 0 → (∀ f ∈ a, m f.1 = none) → ∀ y, a.foldl (fun m f => fmP m f.1 f.2) m p = some y ↔ ((p, y) ∈ a ∨ m p = some y)
  | [], m, q, p, _, _, y => by simp
  | f :: a, m, q, p, h, hm, y => by
    obtain ⟨ht, -⟩ := chkL_tail h
    have hgt := chkL_gt ht
    rw [List.foldl_cons, fmA_fold a _ f.1 p ht (fun g hg => by
      unfold fmP
      rw [if_neg (fun e => lss_ne (hgt g hg) e.symm)]
      exact hm g (List.mem_cons_of_mem _ hg)) y, List.mem_cons]
    unfold fmP
    by_cases e : p = f.1
    · subst e
      rw [if_pos rfl]
      have h0 := hm f List.mem_cons_self
      rw [h0]
      constructor
      · rintro (h1 | h1)
        · exact .inl (.inr h1)
        · simp only [Option.some.injEq] at h1
          subst h1
          exact .inl (.inl rfl)
      · rintro ((h1 | h1) | h1)
        · right; rw [← h1]
        · exact .inl h1
        · cases h1
    · rw [if_neg e]
      constructor
      · rintro (h1 | h1)
        · exact .inl (.inr h1)
        · exact .inr h1
      · rintro ((h1 | h1) | h1)
        · exact absurd (by rw [← h1]) e
        · exact .inl h1
        · exact .inr h1
theorem fmA_ok {a : List Fl} (ha : chk a = 0) : fmA a = fm0 a := by
  funext p
  apply Option.ext
  intro y
  rw [fm0_some ha]
  unfold fmA
  rw [fmA_fold a _ [] p (chk_ok ha).2 (fun _ _ => rfl) y]
  simp
/-- The table without the paths that are taken. -/
def fmT (m : FM) (ps : List (List Nat)) : FM := fun q => if q ∈ ps then none else m q
theorem fmT_snoc (m : FM) (ps : List (List Nat)) (p : List Nat) : fmD (fmT m ps) p = fmT m (ps ++ [p]) := by
  funext q
  unfold fmD fmT
  by_cases e : q = p
  · simp [e]
  · by_cases e2 : q ∈ ps <;> simp [e, e2]
theorem fmT_some {a : List Fl} (ha : chk a = 0) {l : List Ch} {p y : List Nat} : fmT (fm0 a) (tkL l) p = some y ↔ (p, y) ∈ left a l := by
  unfold fmT
  rw [left_mem]
  by_cases e : p ∈ tkL l
  · rw [if_pos e]
    constructor
    · intro h; cases h
    · rintro ⟨-, h⟩
      obtain ⟨x, hx, ht⟩ := tkL_some.1 e
      exact absurd ht (h x hx)
  · rw [if_neg e, fm0_some ha]
    exact ⟨fun h => ⟨h, fun x hx ht => e (tkL_some.2 ⟨x, hx, ht⟩)⟩, fun h => h.1⟩
theorem fmT_is {a : List Fl} (ha : chk a = 0) {l : List Ch} {p : List Nat} : (fmT (fm0 a) (tkL l) p).isSome = true ↔ has (left a l) p := by
  rw [Option.isSome_iff_exists]
  constructor
  · rintro ⟨y, h⟩
    exact ⟨_, (fmT_some ha).1 h, rfl⟩
  · rintro ⟨f, hf, rfl⟩
    exact ⟨f.2, (fmT_some ha).2 hf⟩
/-- The table with the files that the first changes put. -/
def fmW (a : List Fl) (m : FM) (l : List Ch) : FM := l.foldl (fun m x => if pts x = true then fmP m x.2.1 (putB a x) else m) m
theorem fmW_snoc {a : List Fl} {m : FM} {l : List Ch} {k : Nat} {x : Ch} (h : l[k]? = some x) : fmW a m (l.take (k + 1)) = if pts x = true then fmP (fmW a m (l.take k)) x.2.1 (putB a x) else fmW a m (l.take k) := by
  unfold fmW
  rw [List.take_add_one, h, List.foldl_append]
  rfl
theorem fmW_fold {a : List Fl} : ∀ (l : List Ch) (m : FM) (p y : List Nat), (ptL l).Nodup → (∀ q ∈ ptL l, m q = none) → (fmW a m l p = some y ↔ ((p, y) ∈ putsL a l ∨ m p = some y))
  | [], m, p, y, _, _ => by simp [fmW, putsL]
  | x :: l, m, p, y, hd, hm => by
    show fmW a (if pts x = true then fmP m x.2.1 (putB a x) else m) l p = some y ↔ _
    by_cases hp : pts x = true
    · have e1 : ptL (x :: l) = x.2.1 :: ptL l := by unfold ptL; rw [List.filter_cons, if_pos hp]; rfl
      have e2 : putsL a (x :: l) = (x.2.1, putB a x) :: putsL a l := by unfold putsL; rw [List.filter_cons, if_pos hp]; rfl
      rw [e1] at hd hm
      obtain ⟨hd1, hd2⟩ := List.nodup_cons.1 hd
      rw [if_pos hp, fmW_fold l _ p y hd2 (fun q hq => by
        unfold fmP
        rw [if_neg (fun (e : q = x.2.1) => hd1 (by rw [← e]; exact hq))]
        exact hm q (List.mem_cons_of_mem _ hq)), e2, List.mem_cons]
      unfold fmP
      by_cases e : p = x.2.1
      · subst e
        rw [if_pos rfl, hm _ List.mem_cons_self]
        constructor
        · rintro (h1 | h1)
          · exact .inl (.inr h1)
          · simp only [Option.some.injEq] at h1
            subst h1
            exact .inl (.inl rfl)
        · rintro ((h1 | h1) | h1)
          · simp only [Prod.mk.injEq] at h1
            exact .inr (by rw [h1.2])
          · exact .inl h1
          · cases h1
      · rw [if_neg e]
        constructor
        · rintro (h1 | h1)
          · exact .inl (.inr h1)
          · exact .inr h1
        · rintro ((h1 | h1) | h1)
          · simp only [Prod.mk.injEq] at h1
            exact absurd h1.1 e
          · exact .inl h1
          · exact .inr h1
    · have e1 : ptL (x :: l) = ptL l := by unfold ptL; rw [List.filter_cons, if_neg hp]
      have e2 : putsL a (x :: l) = putsL a l := by unfold putsL; rw [List.filter_cons, if_neg hp]
      rw [e1] at hd hm
      rw [if_neg hp, e2]
      exact fmW_fold l m p y hd hm
/-- The sorted files of a table. -/
structure Sfs (m : FM) (r : List Fl) : Prop where
  srt : r.Pairwise fun x y => lss x.1 y.1 = true
  mem : ∀ p y, (p, y) ∈ r ↔ m p = some y
theorem srt_chk : ∀ {r : List Fl} {p : List Nat}, r.Pairwise (fun x y => lss x.1 y.1 = true) → (∀ f ∈ r, lss p f.1 = true ∧ pathB f.1 = true ∧ f.2.length ≤ 16384) → chkL p r = 0
  | [], _, _, _ => rfl
  | f :: r, p, h, hf => by
    have h1 := List.pairwise_cons.1 h
    obtain ⟨q1, q2, q3⟩ := hf f List.mem_cons_self
    exact chkL_cons (fileE_zero q2 q1 q3) (srt_chk h1.2 (fun g hg => ⟨h1.1 g hg, (hf g (List.mem_cons_of_mem _ hg)).2⟩))
/-- Apply's answer, where the first tests find nothing. -/
theorem apl_prg {a : List Fl} {l : List Ch} (h : CkE a l 0) {r : List Fl} (hr : Sfs (fmW a (fmT (fm0 a) (tkL l)) l) r) : aplA a l = if chk r = 0 then (0, r) else (1, []) := by
  cases h with
  | ok h1 h2 h3 h4 h5 =>
    have htn := (noTw_iff l).1 h3
    have hnone : ∀ q ∈ ptL l, fmT (fm0 a) (tkL l) q = none := fun q hq => by
      cases hc : fmT (fm0 a) (tkL l) q with
      | none => rfl
      | some y => exact absurd ((fmT_is h1).1 (by rw [hc]; rfl)) (h5 q hq)
    have hmem : ∀ f, f ∈ r ↔ f ∈ putsL a l ∨ f ∈ left a l := fun f => by
      rw [show f = (f.1, f.2) from rfl, hr.mem, fmW_fold l _ f.1 f.2 htn.2 hnone, fmT_some h1]
    have h5' : ∀ x ∈ l, pts x = true → ¬ has (left a l) x.2.1 := fun x hx hp => h5 _ (ptL_mem.2 ⟨x, hx, hp, rfl⟩)
    by_cases hpa : ∀ x ∈ l, pts x = true → pathB x.2.1 = true
    · by_cases hby : ∀ f ∈ putsL a l, f.2.length ≤ 16384
      · obtain ⟨o1, o2⟩ := out_ok h1 h3 h5' hpa hby
        have hlm := chkL_mem (left_chk h1 l)
        have hrc : chkL [] r = 0 := srt_chk hr.srt (fun f hf => by
          have hh : pathB f.1 = true ∧ f.2.length ≤ 16384 := by
            rcases (hmem f).1 hf with hf | hf
            · obtain ⟨x, hx, hp, rfl⟩ := puts_mem.1 hf
              exact ⟨hpa x hx hp, hby _ hf⟩
            · exact hlm f hf
          exact ⟨lss_of_ne (path_ne hh.1), hh⟩)
        obtain rfl : outL a l = r := srt_eq o1 hrc (fun f => (o2 f).trans (hmem f).symm)
        by_cases hc : chk (outL a l) = 0
        · rw [if_pos hc]
          exact aE0 h1 h2 h3 (tk_all h4) h5' hpa hc
        · rw [if_neg hc]
          exact aE7 h1 h2 h3 (tk_all h4) h5' hpa hc
      · obtain ⟨f, hf⟩ := Classical.not_forall.1 hby
        obtain ⟨hfp, hfl⟩ := Classical.not_imp.1 hf
        have hne : chk r ≠ 0 := fun hc => hfl (chkL_mem (chk_ok hc).2 f ((hmem f).2 (.inl hfp))).2
        rw [if_neg hne]
        refine aE7 h1 h2 h3 (tk_all h4) h5' hpa (fun hc => hfl (chkL_mem (chk_ok hc).2 f ?_).2)
        rw [outL_eq]
        exact (insF_any _ _ _).2 (.inl hfp)
    · obtain ⟨x, hx⟩ := Classical.not_forall.1 hpa
      obtain ⟨hxl, hx⟩ := Classical.not_imp.1 hx
      obtain ⟨hxp, hx⟩ := Classical.not_imp.1 hx
      have hne : chk r ≠ 0 := fun hc => hx (chkL_mem (chk_ok hc).2 (x.2.1, putB a x) ((hmem _).2 (.inl (puts_mem.2 ⟨x, hxl, hxp, rfl⟩)))).1
      rw [if_neg hne]
      exact aE6 h1 h2 h3 (tk_all h4) h5' hxl hxp (by simpa using hx)
end FdN
end Go.Proofs.YtfobogcccbddbaaGreatDoor

/- A revision's files by their paths, as the program's tables. Condition: at most a thousand files, whose strings are not longer than a machine allows. -/
namespace Go.Proofs.YtfobogcccbddbaaGreatDoor
namespace By
open Go.RowKit WireN LexN RevN FdN
set_option linter.unusedVariables false
set_option linter.unusedSimpArgs false

theorem grown_kpm {a b c : World} {g : Nat} (hk : Kp a b) (h : b.grownBy c (some g)) (hg : a.heap.size ≤ g) : Kp a c :=
  Below.grown hk h hk.size (fun k e => by injection e with e; omega)
/-- Block b is a table of at most n stores that has these files. -/
def tmv (m : FM) : List Nat → Option Value := fun p => (m p).map fun y => .string (st y)
def TM (w : World) (b n : Nat) (m : FM) : Prop := ∃ sz, MV w b n sz (tmv m)
theorem TM.lt {w : World} {b n : Nat} {m : FM} (h : TM w b n m) : b < w.heap.size := by obtain ⟨_, h⟩ := h; exact h.lt
theorem TM.by {w w' : World} {b n : Nat} {m : FM} {row : Option Nat} (h : TM w b n m) (hg : w.grownBy w' row) (hne : some b ≠ row) : TM w' b n m := by obtain ⟨sz, h⟩ := h; exact ⟨sz, h.by hg hne⟩
theorem TM.keep {w w' : World} {b n : Nat} {m : FM} (h : TM w b n m) (hk : Kp w w') : TM w' b n m := by obtain ⟨sz, h⟩ := h; exact ⟨sz, h.keep hk⟩
theorem TM.made (w : World) : TM (w.alloc (.map #[] 0)) w.heap.size 0 (fun _ => none) := ⟨0, MV.made w⟩
theorem underSS : Tryz.prog.underlying 58 = some (.map 9 9) := Tryz.underlying58
theorem zeroStr (w : World) : (zeroValue 9).run Tryz.prog w = .ok (.string ⟨#[]⟩) w := Tryz.zeroValue9 w
theorem tmv_get (m : FM) (p : List Nat) : (tmv m p).getD (.string ⟨#[]⟩) = .string (st ((m p).getD [])) := by
  unfold tmv
  cases m p <;> rfl
theorem tmv_is (m : FM) (p : List Nat) : (tmv m p).isSome = (m p).isSome := by
  unfold tmv
  cases m p <;> rfl
theorem TM.get2 {w : World} {b n : Nat} {m : FM} (h : TM w b n m) {p : List Nat} (hp : Lt p) (hl : p.length ≤ maxLen) :
    (Instr.lookup 58 (.map (some b)) (.string (st p)) true).run Tryz.prog w = .ok (.tuple #[.string (st ((m p).getD [])), .bool (m p).isSome]) w := by
  obtain ⟨sz, h⟩ := h
  rw [h.get2 underSS (zeroStr w) hp hl, tmv_get, tmv_is]
theorem TM.get1 {w : World} {b n : Nat} {m : FM} (h : TM w b n m) {p : List Nat} (hp : Lt p) (hl : p.length ≤ maxLen) :
    (Instr.lookup 58 (.map (some b)) (.string (st p)) false).run Tryz.prog w = .ok (.string (st ((m p).getD []))) w := by
  obtain ⟨sz, h⟩ := h
  rw [h.get1 underSS (zeroStr w) hp hl, tmv_get]
theorem tmv_put (m : FM) (p y : List Nat) : mset (tmv m) p (.string (st y)) = tmv (fmP m p y) := by
  funext q
  unfold mset tmv fmP
  by_cases e : q = p <;> simp [e]
theorem tmv_del (m : FM) (p : List Nat) : mdel (tmv m) p = tmv (fmD m p) := by
  funext q
  unfold mdel tmv fmD
  by_cases e : q = p <;> simp [e]
theorem wpList_tmput {w : World} {ops : Array Oper} {rest : List Oper} {o : Oper} {a : Act} {Q : Exit → Act → World → Prop} (hg : o.guard = none) (m x v : Operand) (hop : o.op = Op.mapUpdate 58 m x v)
    {b n : Nat} {M : FM} (hm : a.eval m = .map (some b)) (h : TM w b n M) (hn : n ≤ 1000000) (k : List Nat) (hk : Lt k) (hl : k.length ≤ maxLen) (hx : a.eval x = .string (st k)) (y : List Nat) (hv : a.eval v = .string (st y))
    (hK : ∀ w', TM w' b (n + 1) (fmP M k y) → w.grownBy w' (some b) → wpList Tryz.prog ops Q rest (a.put o.dst undef) w') : wpList Tryz.prog ops Q (o :: rest) a w := by
  obtain ⟨sz, h⟩ := h
  refine wpList_mvput hg _ m x v hop underSS hm h hn k hk hl hx _ hv fun w' h1 h2 => hK w' ⟨_, by rw [← tmv_put]; exact h1⟩ h2
theorem wpList_tmdel {w : World} {ops : Array Oper} {rest : List Oper} {o : Oper} {a : Act} {Q : Exit → Act → World → Prop} (hg : o.guard = none) (m x : Operand) (hop : o.op = Op.call { callee := Callee.builtin Builtin.delete, args := #[m, x], argTypes := #[58, 9] })
    {b n : Nat} {M : FM} (hm : a.eval m = .map (some b)) (h : TM w b n M) (k : List Nat) (hk : Lt k) (hl : k.length ≤ maxLen) (hx : a.eval x = .string (st k))
    (hK : ∀ w', TM w' b n (fmD M k) → w.grownBy w' (some b) → wpList Tryz.prog ops Q rest (a.put o.dst (.tuple #[])) w') : wpList Tryz.prog ops Q (o :: rest) a w := by
  obtain ⟨sz, h⟩ := h
  refine wpList_mvdel hg _ m x hop underSS hm h k hk hl hx fun w' h1 h2 => hK w' ?_ h2
  obtain ⟨sz', h1⟩ := h1
  rw [tmv_del] at h1
  exact ⟨sz', h1⟩
set_option maxRecDepth 100000 in
set_option maxHeartbeats 4000000 in
/-- table -/
theorem table_any {w : World} {v : Value} {a : List Fl} (ha : Rw w v a) (hl : a.length ≤ 1000) :
    Calls Tryz.prog 25 #[.agg #[v]] w fun e w' => ∃ b, e = .returned (.map (some b)) ∧ w.heap.size ≤ b ∧ TM w' b a.length (fmA a) ∧ Kp w w' := by
  obtain ⟨Q, hQ⟩ : ∃ Q : Ending → World → Prop, Q = fun e w' => ∃ b, e = .returned (.map (some b)) ∧ w.heap.size ≤ b ∧ TM w' b a.length (fmA a) ∧ Kp w w' := ⟨_, rfl⟩
  rw [← hQ]
  obtain ⟨W, hW⟩ : ∃ W, W = (w.alloc (.cells #[v] 25)).alloc (.map #[] 0) := ⟨_, rfl⟩
  have hk0 : Kp w W := by rw [hW]; exact Kp.alloc (kp_alloc _ _) _
  have b0 : Blk W w.heap.size 25 #[v] := by rw [hW]; exact (Blk.new _ _ _).keep (kp_alloc _ _)
  have m0 : TM W (w.heap.size + 1) 0 (fun _ => none) := by
    have := TM.made (w.alloc (.cells #[v] 25))
    rw [hW]
    simpa using this
  obtain ⟨mb, hmb⟩ : ∃ b, b = w.heap.size + 1 := ⟨_, rfl⟩
  have FIN : Hid (∀ (w' : World), TM w' mb a.length (fmA a) → Kp w w' → Q (.returned (.map (some mb))) w') := Lib.hid (by
    intro w' h1 h2
    rw [hQ]
    exact ⟨mb, rfl, by omega, h1, h2⟩)
  obtain ⟨ao, cap, rfl, hcap, -, -⟩ := ha.open3
  obtain ⟨n, hn⟩ : ∃ n, n = a.length := ⟨_, rfl⟩
  rw [← hn] at hl hcap FIN b0 hW ha ⊢
  rw [← hmb] at m0
  have c0 := b0.cell 0 rfl
  have HA := Lib.hid ha; have HN := Lib.hid hn; have HM0 := Lib.hid m0; have HK0 := Lib.hid hk0; have HW := Lib.hid hW; have HMB := Lib.hid hmb
  have i1 : (n : Int) ≤ (cap : Int) := by omega
  have i2 : (n : Int) ≤ 1000 := by omega
  have hmm := @run_makeMap Tryz.prog
  rw [hW] at c0
  clear ha hk0 b0 m0 hcap hQ hn hW hl
  go_enter Tryz.func25, Tryz.ntmps25
  go_wp2_with fail
  rw [← HMB.out, ← HW.out]
  clear hmm c0 hmb
  go_loopw [10] (fun iv wy => ∃ (k : Nat), k ≤ n ∧ iv = .int .i64 k ∧ Kp w wy ∧ Hid (TM wy mb k (fmA (a.take k)))) (fun iv _ => n - (intOf iv).toNat)
  case atStart => exact ⟨0, Nat.zero_le _, rfl, HK0.out, HM0⟩
  case round =>
    obtain ⟨k, hk, rfl, hkp, HTM⟩ := hrel
    have HKP := Lib.hid hkp
    clear hkp
    rename World => wy
    by_cases hil : k < n
    · obtain ⟨f, hf⟩ : ∃ f, a[k]? = some f := ⟨_, List.getElem?_eq_getElem (by have := HN.out; omega)⟩
      have hmem := List.mem_of_getElem? hf
      obtain ⟨g, o, rfl, hcell⟩ := (HA.out.keep HKP.out).cell (by omega)
      obtain ⟨d0, d1⟩ := hcell k f hf
      have j1 : (k : Int) < (n : Int) := by omega
      obtain ⟨F1, hF1⟩ : ∃ S, S = st f.1 := ⟨_, rfl⟩
      obtain ⟨F2, hF2⟩ : ∃ S, S = st f.2 := ⟨_, rfl⟩
      rw [← hF1] at d0
      rw [← hF2] at d1
      have HT2 : Hid (TM (wy.alloc (.cells #[.string F1, .string F2] 53)) mb k (fmA (a.take k))) := Lib.hid (HTM.out.keep (kp_alloc _ _))
      have HFO : Hid ((Lt f.1 ∧ Lt f.2) ∧ (f.1.length ≤ maxLen ∧ f.2.length ≤ maxLen)) := Lib.hid ⟨HA.out.lt f hmem, HA.out.sm f hmem⟩
      have HST : Hid (fmA (a.take (k + 1)) = fmP (fmA (a.take k)) f.1 f.2) := Lib.hid (fmA_snoc hf)
      have HF1 := Lib.hid hF1; have HF2 := Lib.hid hF2
      clear hcell hf hmem hF1 hF2
      go_wp2_with (at_mapUpdate; refine wpList_tmput rfl (.tmp 14) (.tmp 16) (.tmp 18) rfl rfl HT2.out (by omega) f.1 HFO.out.1.1 HFO.out.2.1 (by rw [← HF1.out]; rfl) f.2 (by rw [← HF2.out]; rfl) ?_)
      intro w7 km7 g7
      have H7 : Hid (TM w7 mb (k + 1) (fmA (a.take (k + 1)))) := Lib.hid (by rw [HST.out]; exact km7)
      have K7 : Hid (Kp w w7) := Lib.hid (grown_kpm (HKP.out.trans (kp_alloc _ _)) g7 (by have := HMB.out; omega))
      clear km7 g7
      go_wp2_with fail
      go_roundw
      case rel => exact ⟨k + 1, by omega, vint (by omega), K7.out, H7⟩
      case measure => simp [intOf]; omega
    · have HF : Hid (TM wy mb n (fmA a)) := Lib.hid (by
        have h := HTM.out
        obtain rfl : k = n := by omega
        rwa [List.take_of_length_le (by have := HN.out; omega)] at h)
      go_wp2_with fail
      exact FIN.out _ HF.out HKP.out
end By
end Go.Proofs.YtfobogcccbddbaaGreatDoor
