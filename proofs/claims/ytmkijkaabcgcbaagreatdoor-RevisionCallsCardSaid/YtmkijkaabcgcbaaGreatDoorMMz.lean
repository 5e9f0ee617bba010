/- A revision that the maker draws is well-formed. No condition. -/
import Derived.Test.YtmkijkaabcgcbaaGreatDoorMkR
import Derived.Test.YtmkijkaabcgcbaaGreatDoorMRn
import Derived.Test.YtmkijkaabcgcbaaGreatDoorWDm
namespace Go.Proofs.YtmkijkaabcgcbaaGreatDoor
namespace RevN
open WireN LexN
/-- The insertion, by recursion. -/
def ins2 (f : Fl) : List Fl → List Fl
  | [] => [f]
  | x :: fs => if leq f.1 x.1 = true then f :: (x :: fs).filter (fun y => !decide (y.1 = f.1)) else x :: ins2 f fs
theorem insP_true (f : Fl) : ∀ (fs out : List Fl), fs.foldl (insS f) (true, out) = (true, out ++ fs.filter (fun y => !decide (y.1 = f.1)))
  | [], out => by simp
  | x :: fs, out => by
    rw [List.foldl_cons]
    have h : insS f (true, out) x = (true, out ++ (if x.1 = f.1 then [] else [x])) := by simp [insS]
    rw [h, insP_true f fs, List.filter_cons]
    by_cases hx : x.1 = f.1 <;> simp [hx]
theorem insP_false (f : Fl) : ∀ (fs out : List Fl), (if (fs.foldl (insS f) (false, out)).1 = true then (fs.foldl (insS f) (false, out)).2 else (fs.foldl (insS f) (false, out)).2 ++ [f]) = out ++ ins2 f fs
  | [], out => by simp [ins2]
  | x :: fs, out => by
    rw [List.foldl_cons]
    cases hl : leq f.1 x.1 with
    | true =>
      have h : insS f (false, out) x = (true, (out ++ [f]) ++ (if x.1 = f.1 then [] else [x])) := by simp [insS, hl]
      rw [h, insP_true]
      unfold ins2
      rw [if_pos hl, List.filter_cons]
      by_cases hx : x.1 = f.1 <;> simp [hx]
    | false =>
      have hx : x.1 ≠ f.1 := fun e => by rw [e] at hl; simp [leq] at hl
      have h : insS f (false, out) x = (false, out ++ [x]) := by simp [insS, hl, hx]
      rw [h, insP_false f fs]
      unfold ins2
      rw [if_neg (by rw [hl]; simp)]
      cases fs <;> simp [ins2]
theorem insL_eq (f : Fl) (fs : List Fl) : insL fs f = ins2 f fs := by
  have h := insP_false f fs []
  rw [List.nil_append] at h
  exact h
theorem fileE_zero {p : List Nat} {f : Fl} (h1 : pathB f.1 = true) (h2 : lss p f.1 = true) (h3 : f.2.length ≤ 16384) : fileE p f = 0 := by
  unfold fileE
  rw [if_neg (by rw [h1]; simp), if_neg (fun e => lss_ne h2 e.symm), if_neg (by rw [lss_asymm h2]; simp), if_neg (by omega)]
theorem chkL_cons {p : List Nat} {f : Fl} {fs : List Fl} (h1 : fileE p f = 0) (h2 : chkL f.1 fs = 0) : chkL p (f :: fs) = 0 := by
  unfold chkL
  rw [if_neg (by omega)]
  exact h2
theorem chkL_ins {f : Fl} (h1 : pathB f.1 = true) (h3 : f.2.length ≤ 16384) : ∀ (fs : List Fl) (p : List Nat), lss p f.1 = true → chkL p fs = 0 → chkL p (ins2 f fs) = 0
  | [], p, h2, h => chkL_cons (fileE_zero h1 h2 h3) rfl
  | x :: fs, p, h2, h => by
    obtain ⟨ht, hx⟩ := chkL_tail h
    have hgt := chkL_gt ht
    unfold ins2
    split
    · rename_i hl
      refine chkL_cons (fileE_zero h1 h2 h3) ?_
      rw [List.filter_cons]
      by_cases he : x.1 = f.1
      · rw [if_neg (by simp [he]), List.filter_eq_self.2 (fun y hy => by have h := lss_ne (hgt y hy); rw [he] at h; simp [Ne.symm h]), ← he]
        exact ht
      · have hlt : lss f.1 x.1 = true := by
          unfold leq at hl
          simpa [Ne.symm he] using hl
        rw [if_pos (by simp [he]), List.filter_eq_self.2 (fun y hy => by have h := lss_ne (lss_trans hlt (hgt y hy)); simp [Ne.symm h])]
        obtain ⟨q1, -, -, q4⟩ := fileE_ok hx
        exact chkL_cons (fileE_zero q1 hlt q4) ht
    · rename_i hl
      have hl2 : lss f.1 x.1 = false ∧ f.1 ≠ x.1 := by
        unfold leq at hl
        simpa using hl
      exact chkL_cons hx (chkL_ins h1 h3 fs x.1 (lss_total hl2.1 hl2.2) ht)
theorem chk_fold : ∀ (ops s : List Fl), (∀ f ∈ ops, pathB f.1 = true ∧ f.1 ≠ [] ∧ f.2.length ≤ 16384) → chkL [] s = 0 → chkL [] (ops.foldl insL s) = 0
  | [], s, _, h => h
  | f :: ops, s, ho, h => by
    rw [List.foldl_cons]
    obtain ⟨h1, h2, h3⟩ := ho f (List.mem_cons_self ..)
    refine chk_fold ops _ (fun g hg => ho g (List.mem_cons_of_mem _ hg)) ?_
    rw [insL_eq]
    exact chkL_ins h1 h3 s [] (lss_of_ne h2) h
end RevN
namespace By
open WireN LexN RevN
theorem Put.chk {k : Nat} {fs : List Fl} (h : Put k fs) (hk : k ≤ 64) : chk fs = 0 := by
  have hl := h.len
  obtain ⟨o, h1, h2, rfl⟩ := h
  unfold RevN.chk
  rw [if_neg (by omega)]
  refine chk_fold o [] (fun f hf => ?_) rfl
  obtain ⟨q1, q2, q3⟩ := h2 f hf
  have hp : ∀ q ∈ mkPaths, pathB q = true ∧ q ≠ [] := by decide +kernel
  exact ⟨(hp _ q1).1, (hp _ q1).2, by omega⟩
end By
end Go.Proofs.YtmkijkaabcgcbaaGreatDoor

/- No proper beginning of a revision's bytes reads as a revision. No condition. -/
namespace Go.Proofs.YtmkijkaabcgcbaaGreatDoor
namespace RevN
open WireN LexN
theorem nx_take {l : List Nat} {t i : Nat} (h : (nx (l.take t) (i : Nat)).2.2.2 = 0) : nx l (i : Nat) = nx (l.take t) (i : Nat) ∧ (nx (l.take t) (i : Nat)).2.2.1 ≤ t := by
  obtain ⟨h1, h2, h3, n, q, hr, hn, hq, hs, he⟩ := nx_inv h
  have h4 := rd_append hr (l.drop t)
  rw [List.take_append_drop] at h4
  have hl : (l.take t).length = min t l.length := List.length_take
  have g : ∀ j, j < t → (l.take t)[j]?.getD 0 = l[j]?.getD 0 := fun j hj => by rw [List.getElem?_take, if_pos hj]
  have d : ∀ a b : Nat, a + b ≤ t → ((l.take t).drop a).take b = (l.drop a).take b := fun a b hab => by
    rw [List.drop_take, List.take_take, Nat.min_eq_left (by omega)]
  have e1 : (l.take t).take (q + n) = l.take (q + n) := by rw [List.take_take, Nat.min_eq_left (by omega)]
  rw [g i (by omega)] at h2
  rw [g (i + 1) (by omega)] at h3 he
  rw [d (q + n) 4 (by omega), e1] at hs
  rw [d q n (by omega)] at he
  rw [he]
  exact ⟨nx_ok (by omega) h2 h3 h4 hn (by omega) hs, by show q + n + 4 ≤ t; omega⟩
theorem Chain.of_take {l : List Nat} {t : Nat} : ∀ {r : List (Nat × List Nat)} {p q : Nat}, Chain (l.take t) p r q → p ≤ t → Chain l p r q ∧ q ≤ t
  | [], p, q, h, hp => by
    have h : p = q := h
    subst h
    exact ⟨rfl, hp⟩
  | x :: r, p, q, h, hp => by
    obtain ⟨h1, h2, h3, h4⟩ := h
    obtain ⟨e, hle⟩ := nx_take h2
    obtain ⟨g1, g2⟩ := Chain.of_take h4 hle
    have hl : (l.take t).length = min t l.length := List.length_take
    refine ⟨⟨by omega, by rw [e]; exact h2, by rw [e]; exact h3, by rw [e]; exact g1⟩, g2⟩
theorem Chain.short {l : List Nat} : ∀ {r R : List (Nat × List Nat)} {p q : Nat}, Chain l p r q → Chain l p R l.length → q < l.length → ∃ x s, R = r ++ x :: s
  | [], [], p, q, h, h', hq => by
    have h : p = q := h
    have h' : p = l.length := h'
    omega
  | [], x :: s, p, q, h, h', hq => ⟨x, s, rfl⟩
  | x :: r, [], p, q, h, h', hq => by
    have h' : p = l.length := h'
    have := h.1
    omega
  | x :: r, y :: R, p, q, h, h', hq => by
    obtain ⟨h1, h2, h3, h4⟩ := h
    obtain ⟨k1, k2, k3, k4⟩ := h'
    obtain ⟨z, s, e⟩ := Chain.short h4 k4 hq
    exact ⟨z, s, by rw [e, h3, k3]; rfl⟩
theorem dec_begin {fs : List Fl} (h : chk fs = 0) {t : Nat} (ht : t < (enc fs).length) {r : List (Nat × List Nat)} {q E : Nat} (hc : Chain ((enc fs).take t) 0 r q) (_hs : Stops ((enc fs).take t) q E) : (dec r E).1 ≠ 0 := by
  obtain ⟨hn, hk⟩ := chk_ok h
  have hm : ∀ f ∈ fs, f.1.length ≤ 80 ∧ f.2.length ≤ 16384 := fun f hf => ⟨path_len (chkL_mem hk f hf).1, (chkL_mem hk f hf).2⟩
  obtain ⟨g1, g2⟩ := Chain.of_take hc (Nat.zero_le _)
  obtain ⟨x, s, e⟩ := Chain.short g1 (chain_enc hm hn) (by omega)
  unfold dec
  by_cases hE : E = 0
  · rw [if_neg (by omega)]
    by_cases hr : r.length = 0
    · rw [if_pos (.inl hr)]; simp
    · have hkind : (r[r.length - 1]?.getD (0, [])).1 = 1 := by
        have e2 : (frames fs)[r.length - 1]? = r[r.length - 1]? := by rw [e, List.getElem?_append_left (by omega)]
        have hlen : r.length + 1 ≤ fs.length + 1 := by
          have := congrArg List.length e
          simp [frames] at this
          omega
        rw [← e2, frames, List.getElem?_append_left (by simp; omega), List.getElem?_map, List.getElem?_eq_getElem (by omega)]
        rfl
      rw [if_pos (.inr (by rw [hkind]; omega))]; simp
  · rw [if_pos hE]; exact hE
end RevN
end Go.Proofs.YtmkijkaabcgcbaaGreatDoor

/- Moving a file behind all others and back, putting and removing: what they make of a revision. Plain mathematics. No condition. -/
namespace Go.Proofs.YtmkijkaabcgcbaaGreatDoor
namespace RevN
open WireN LexN
set_option linter.unusedVariables false
set_option linter.unusedSimpArgs false
/-- The path behind all that the maker draws: zz/new. -/
def zzN : List Nat := [122, 122, 47, 110, 101, 119]
theorem zz_path : pathB zzN = true := by decide +kernel
theorem zz_lt : Lt zzN := by unfold zzN; intro i; match i with | 0 => decide | 1 => decide | 2 => decide | 3 => decide | 4 => decide | 5 => decide | n + 6 => simp
theorem pos_split : ∀ (A C : List Fl) (p : List Nat), (∀ a ∈ A, lss a.1 p = true) → (∀ x, C.head? = some x → lss x.1 p = false) → pos (A ++ C) p = A.length
  | [], [], p, _, _ => rfl
  | [], c :: C, p, _, h => by
    have := h c rfl
    simp [pos, this]
  | a :: A, C, p, ha, h => by
    have h1 := ha a (List.mem_cons_self ..)
    have h2 := pos_split A C p (fun x hx => ha x (List.mem_cons_of_mem _ hx)) h
    simp [pos, h1, h2]
theorem at_split (A C : List Fl) : (A ++ C)[A.length]? = C.head? := by
  rw [List.getElem?_append_right (Nat.le_refl _), Nat.sub_self]
  cases C <;> rfl
theorem has_split {A C : List Fl} {p : List Nat} (ha : ∀ a ∈ A, lss a.1 p = true) (h : ∀ x, C.head? = some x → lss x.1 p = false) : hasP (A ++ C) p = match C.head? with | some f => decide (f.1 = p) | none => false := by
  unfold hasP
  rw [pos_split A C p ha h, at_split]
  cases C <;> rfl
theorem has_mid {A B : List Fl} {f : Fl} (ha : ∀ a ∈ A, lss a.1 f.1 = true) : hasP (A ++ f :: B) f.1 = true := by
  rw [has_split ha (fun x hx => by simp at hx; subst hx; exact lss_self _)]
  simp
theorem has_not {A C : List Fl} {p : List Nat} (ha : ∀ a ∈ A, lss a.1 p = true) (h : ∀ x, C.head? = some x → lss p x.1 = true) : hasP (A ++ C) p = false := by
  rw [has_split ha (fun x hx => lss_asymm (h x hx))]
  cases hc : C.head? with
  | none => rfl
  | some x => simp; exact fun e => lss_ne (h x hc) e.symm
theorem put_not {A C : List Fl} {p b : List Nat} (ha : ∀ a ∈ A, lss a.1 p = true) (h : ∀ x, C.head? = some x → lss p x.1 = true) : putL (A ++ C) (p, b) = A ++ (p, b) :: C := by
  unfold putL
  rw [has_not ha h, pos_split A C p ha (fun x hx => lss_asymm (h x hx))]
  simp
theorem rem_mid {A B : List Fl} {f : Fl} (ha : ∀ a ∈ A, lss a.1 f.1 = true) : remL (A ++ f :: B) f.1 = A ++ B := by
  unfold remL
  rw [pos_split A (f :: B) f.1 ha (fun x hx => by simp at hx; subst hx; exact lss_self _)]
  simp
theorem bytes_mid {A B : List Fl} {f : Fl} (ha : ∀ a ∈ A, lss a.1 f.1 = true) : bytesAt (A ++ f :: B) f.1 = f.2 := by
  unfold bytesAt
  rw [pos_split A (f :: B) f.1 ha (fun x hx => by simp at hx; subst hx; exact lss_self _), at_split]
  rfl
/-- What is true of the parts of a well-formed list around one of its files. -/
theorem chkL_split : ∀ {A B : List Fl} {f : Fl} {p : List Nat}, chkL p (A ++ f :: B) = 0 → (∀ a ∈ A, lss a.1 f.1 = true) ∧ (∀ b ∈ B, lss f.1 b.1 = true) ∧ chkL p (A ++ B) = 0 ∧ pathB f.1 = true ∧ f.2.length ≤ 16384 ∧ lss p f.1 = true
  | [], B, f, p, h => by
    obtain ⟨h1, h2⟩ := chkL_tail h
    obtain ⟨q1, q2, q3, q4⟩ := fileE_ok h2
    have hpf := lss_total q3 q2
    refine ⟨fun a ha => by simp at ha, chkL_gt h1, ?_, q1, q4, hpf⟩
    cases B with
    | nil => rfl
    | cons g B =>
      obtain ⟨h3, h4⟩ := chkL_tail h1
      obtain ⟨r1, r2, r3, r4⟩ := fileE_ok h4
      exact chkL_cons (fileE_zero r1 (lss_trans hpf (lss_total r3 r2)) r4) h3
  | a :: A, B, f, p, h => by
    obtain ⟨h1, h2⟩ := chkL_tail h
    obtain ⟨i1, i2, i3, i4, i5, i6⟩ := chkL_split h1
    obtain ⟨q1, q2, q3, q4⟩ := fileE_ok h2
    refine ⟨fun x hx => ?_, i2, chkL_cons h2 i3, i4, i5, lss_trans (lss_total q3 q2) i6⟩
    rcases List.mem_cons.1 hx with rfl | hx
    · exact i6
    · exact i1 x hx
theorem chkL_snoc : ∀ {A : List Fl} {p : List Nat} {x : Fl}, chkL p A = 0 → (∀ a ∈ A, lss a.1 x.1 = true) → lss p x.1 = true → pathB x.1 = true → x.2.length ≤ 16384 → chkL p (A ++ [x]) = 0
  | [], p, x, _, _, h, h1, h2 => chkL_cons (fileE_zero h1 h h2) rfl
  | a :: A, p, x, hc, ha, h, h1, h2 => by
    obtain ⟨q1, q2⟩ := chkL_tail hc
    exact chkL_cons q2 (chkL_snoc q1 (fun b hb => ha b (List.mem_cons_of_mem _ hb)) (ha a (List.mem_cons_self ..)) h1 h2)
/-- A well-formed list of few files, all ahead of zz/new. -/
structure Few (fs : List Fl) : Prop where
  ok : chkL [] fs = 0
  len : fs.length ≤ 20
  zz : ∀ f ∈ fs, lss f.1 zzN = true
theorem Few.chk {fs : List Fl} (h : Few fs) : chk fs = 0 := by
  unfold RevN.chk
  rw [if_neg (by have := h.len; omega)]
  exact h.ok
theorem Few.put_zz {fs : List Fl} (h : Few fs) (b : List Nat) : putL fs (zzN, b) = fs ++ [(zzN, b)] := by
  have := put_not (A := fs) (C := []) (p := zzN) (b := b) h.zz (fun x hx => by simp at hx)
  simpa using this
theorem Few.has_zz {fs : List Fl} (h : Few fs) : hasP fs zzN = false := by
  have := has_not (A := fs) (C := []) (p := zzN) h.zz (fun x hx => by simp at hx)
  simpa using this
theorem Few.putF_zz {fs : List Fl} (h : Few fs) {b : List Nat} (hb : b.length ≤ 16384) : putF fs zzN b = (0, fs ++ [(zzN, b)]) := by
  unfold putF
  rw [if_neg (by rw [h.chk]; simp), if_neg (by rw [zz_path]; simp), h.put_zz, if_neg (by have := h.len; simp; omega)]
theorem Few.chk_zz {fs : List Fl} (h : Few fs) {b : List Nat} (hb : b.length ≤ 16384) : RevN.chk (fs ++ [(zzN, b)]) = 0 := by
  unfold RevN.chk
  rw [if_neg (by have := h.len; simp; omega)]
  exact chkL_snoc h.ok h.zz (lss_of_ne (path_ne zz_path)) zz_path hb
theorem Few.remF_zz {fs : List Fl} (h : Few fs) {b : List Nat} (hb : b.length ≤ 16384) : remF (fs ++ [(zzN, b)]) zzN = (0, fs) := by
  have h1 := has_mid (A := fs) (B := []) (f := (zzN, b)) h.zz
  have h2 := rem_mid (A := fs) (B := []) (f := (zzN, b)) h.zz
  unfold remF
  rw [if_neg (by rw [h.chk_zz hb]; simp), if_neg (by rw [h1]; simp), h2]
  simp
theorem Few.rem {A B : List Fl} {f : Fl} (h : Few (A ++ f :: B)) : Few (A ++ B) := by
  obtain ⟨h1, h2, h3, -⟩ := chkL_split h.ok
  refine ⟨h3, by have := h.len; simp at this ⊢; omega, fun x hx => h.zz x ?_⟩
  rcases List.mem_append.1 hx with hx | hx <;> simp [hx]
theorem Few.remF_mid {A B : List Fl} {f : Fl} (h : Few (A ++ f :: B)) : remF (A ++ f :: B) f.1 = (0, A ++ B) := by
  obtain ⟨h1, h2, -⟩ := chkL_split h.ok
  unfold remF
  rw [if_neg (by rw [h.chk]; simp), if_neg (by rw [has_mid h1]; simp), rem_mid h1]
/-- Moving there. -/
theorem Few.mov {A B : List Fl} {f : Fl} (h : Few (A ++ f :: B)) : movF (A ++ f :: B) f.1 zzN = (0, A ++ B ++ [(zzN, f.2)]) := by
  obtain ⟨h1, h2, h3, h4, h5, h6⟩ := chkL_split h.ok
  unfold movF
  rw [if_neg (by rw [h.chk]; simp), if_neg (by rw [zz_path]; simp), if_neg (by rw [has_mid h1]; simp), if_neg (by rw [h.has_zz]; simp), rem_mid h1, bytes_mid h1]
  exact h.rem.putF_zz h5
/-- And back. -/
theorem Few.back {A B : List Fl} {f : Fl} (h : Few (A ++ f :: B)) : movF (A ++ B ++ [(zzN, f.2)]) zzN f.1 = (0, A ++ f :: B) := by
  obtain ⟨h1, h2, h3, h4, h5, h6⟩ := chkL_split h.ok
  have hr := h.rem
  have hzf := h.zz f (by simp)
  have e1 : hasP (A ++ B ++ [(zzN, f.2)]) f.1 = false := by
    rw [List.append_assoc]
    refine has_not h1 (fun x hx => ?_)
    cases B with
    | nil => simp at hx; subst hx; exact hzf
    | cons b B => simp at hx; subst hx; exact h2 _ (by simp)
  have e2 := has_mid (A := A ++ B) (B := []) (f := (zzN, f.2)) hr.zz
  have e3 := rem_mid (A := A ++ B) (B := []) (f := (zzN, f.2)) hr.zz
  have e4 := bytes_mid (A := A ++ B) (B := []) (f := (zzN, f.2)) hr.zz
  have e5 : putL (A ++ B) (f.1, f.2) = A ++ (f.1, f.2) :: B := put_not h1 (fun x hx => h2 x (List.mem_of_mem_head? hx))
  unfold movF
  rw [if_neg (by rw [hr.chk_zz h5]; simp), if_neg (by rw [h4]; simp), if_neg (by rw [e2]; simp), if_neg (by rw [e1]; simp), e3, e4, List.append_nil]
  unfold putF
  rw [if_neg (by rw [hr.chk]; simp), if_neg (by rw [h4]; simp), e5, if_neg (by have := h.len; simp at this ⊢; omega)]
/-- Removing a file where one is put behind all. -/
theorem Few.remF_both {A B : List Fl} {f : Fl} (h : Few (A ++ f :: B)) {b : List Nat} (hb : b.length ≤ 16384) : remF (A ++ f :: B ++ [(zzN, b)]) f.1 = (0, A ++ B ++ [(zzN, b)]) := by
  obtain ⟨h1, h2, h3, h4, h5, h6⟩ := chkL_split h.ok
  have e1 := has_mid (A := A) (B := B ++ [(zzN, b)]) (f := f) h1
  have e2 := rem_mid (A := A) (B := B ++ [(zzN, b)]) (f := f) h1
  have e3 : A ++ f :: B ++ [(zzN, b)] = A ++ f :: (B ++ [(zzN, b)]) := by simp
  have e4 := h.chk_zz hb
  unfold remF
  rw [if_neg (by rw [e4]; simp), e3, if_neg (by rw [e1]; simp), e2, List.append_assoc]
/-- What the maker puts has one of its paths. -/
theorem ins2_mem {f : Fl} : ∀ {fs : List Fl} {x : Fl}, x ∈ ins2 f fs → x = f ∨ x ∈ fs
  | [], x, h => by simp [ins2] at h; exact .inl h
  | y :: fs, x, h => by
    unfold ins2 at h
    split at h
    · rcases List.mem_cons.1 h with rfl | h
      · exact .inl rfl
      · exact .inr (List.mem_filter.1 h).1
    · rcases List.mem_cons.1 h with rfl | h
      · exact .inr (by simp)
      · rcases ins2_mem h with rfl | h
        · exact .inl rfl
        · exact .inr (by simp [h])
theorem fold_mem : ∀ (ops s : List Fl) (x : Fl), x ∈ ops.foldl insL s → x ∈ ops ∨ x ∈ s
  | [], s, x, h => .inr h
  | f :: ops, s, x, h => by
    rw [List.foldl_cons] at h
    rcases fold_mem ops _ x h with h | h
    · exact .inl (by simp [h])
    · rw [insL_eq] at h
      rcases ins2_mem h with rfl | h
      · exact .inl (by simp)
      · exact .inr h
end RevN
namespace By
open WireN LexN RevN
theorem Put.mem {k : Nat} {fs : List Fl} (h : Put k fs) : ∀ f ∈ fs, f.1 ∈ mkPaths ∧ Lt f.2 ∧ f.2.length ≤ 13500 := by
  obtain ⟨o, h1, h2, rfl⟩ := h
  intro f hf
  rcases fold_mem o [] f hf with hf | hf
  · exact h2 f hf
  · simp at hf
theorem Put.few {k : Nat} {fs : List Fl} (h : Put k fs) (hk : k ≤ 20) : Few fs := by
  refine ⟨(chk_ok (h.chk (by omega))).2, by have := h.len; omega, fun f hf => ?_⟩
  have hp : ∀ q ∈ mkPaths, lss q zzN = true := by decide +kernel
  exact hp _ (h.mem f hf).1
end By
end Go.Proofs.YtmkijkaabcgcbaaGreatDoor
