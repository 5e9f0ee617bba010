/- A revision that the maker draws is well-formed. No condition. -/
import Derived.Test.YtmkijkaabcgcbaaGreatDoorMkR
import Derived.Test.YtmkijkaabcgcbaaGreatDoorMRn
import Derived.Test.YtmkijkaabcgcbaaGreatDoorWDm
namespace Go.Proofs.YtmkijkaabcgcbaaGreatDoor
namespace RevN
open WireN LexN
/-- The insertion, by recursion. -/
def ins2 (f : Fl) : List Fl → List Fl
  | [] => [f]
  | x :: fs => if leq f.1 x.1 = true then f :: (x :: fs).filter (fun y => !decide (y.1 = f.1)) else x :: ins2 f fs
theorem insP_true (f : Fl) : ∀ (fs out : List Fl), fs.foldl (insS f) (true, out) = (true, out ++ fs.filter (fun y => !decide (y.1 = f.1)))
  | [], out => by simp
  | x :: fs, out => by
    rw [List.foldl_cons]
    have h : insS f (true, out) x = (true, out ++ (if x.1 = f.1 then [] else [x])) := by simp [insS]
    rw [h, insP_true f fs, List.filter_cons]
    by_cases hx : x.1 = f.1 <;> simp [hx]
theorem insP_false (f : Fl) : ∀ (fs out : List Fl), (if (fs.foldl (insS f) (false, out)).1 = true then (fs.foldl (insS f) (false, out)).2 else (fs.foldl (insS f) (false, out)).2 ++ [f]) = out ++ ins2 f fs
  | [], out => by simp [ins2]
  | x :: fs, out => by
    rw [List.foldl_cons]
    cases hl : leq f.1 x.1 with
    | true =>
      have h : insS f (false, out) x = (true, (out ++ [f]) ++ (if x.1 = f.1 then [] else [x])) := by simp [insS, hl]
      rw [h, insP_true]
      unfold ins2
      rw [if_pos hl, List.filter_cons]
      by_cases hx : x.1 = f.1 <;> simp [hx]
    | false =>
      have hx : x.1 ≠ f.1 := fun e => by rw [e] at hl; simp [leq] at hl
      have h : insS f (false, out) x = (false, out ++ [x]) := by simp [insS, hl, hx]
      rw [h, insP_false f fs]
      unfold ins2
      rw [if_neg (by rw [hl]; simp)]
      cases fs <;> simp [ins2]
theorem insL_eq (f : Fl) (fs : List Fl) : insL fs f = ins2 f fs := by
  have h := insP_false f fs []
  rw [List.nil_append] at h
  exact h
theorem fileE_zero {p : List Nat} {f : Fl} (h1 : pathB f.1 = true) (h2 : lss p f.1 = true) (h3 : f.2.length ≤ 16384) : fileE p f = 0 := by
  unfold fileE
  rw [if_neg (by rw [h1]; simp), if_neg (fun e => lss_ne h2 e.symm), if_neg (by rw [lss_asymm h2]; simp), if_neg (by omega)]
theorem chkL_cons {p : List Nat} {f : Fl} {fs : List Fl} (h1 : fileE p f = 0) (h2 : chkL f.1 fs = 0) : chkL p (f :: fs) = 0 := by
  unfold chkL
  rw [if_neg (by omega)]
  exact h2
theorem chkL_ins {f : Fl} (h1 : pathB f.1 = true) (h3 : f.2.length ≤ 16384) : ∀ (fs : List Fl) (p : List Nat), lss p f.1 = true → chkL p fs = 0 → chkL p (ins2 f fs) = 0
  | [], p, h2, h => chkL_cons (fileE_zero h1 h2 h3) rfl
  | x :: fs, p, h2, h => by
    obtain ⟨ht, hx⟩ := chkL_tail h
    have hgt := chkL_gt ht
    unfold ins2
    split
    · rename_i hl
      refine chkL_cons (fileE_zero h1 h2 h3) ?_
      rw [List.filter_cons]
      by_cases he : x.1 = f.1
      · rw [if_neg (by simp [he]), List.filter_eq_self.2 (fun y hy => by have h := lss_ne (hgt y hy); rw [he] at h; simp [Ne.symm h]), ← he]
        exact ht
      · have hlt : lss f.1 x.1 = true := by
          unfold leq at hl
          simpa [Ne.symm he] using hl
        rw [if_pos (by simp [he]), List.filter_eq_self.2 (fun y hy => by have h := lss_ne (lss_trans hlt (hgt y hy)); simp [Ne.symm h])]
        obtain ⟨q1, -, -, q4⟩ := fileE_ok hx
        exact chkL_cons (fileE_zero q1 hlt q4) ht
    · rename_i hl
      have hl2 : lss f.1 x.1 = false ∧ f.1 ≠ x.1 := by
        unfold leq at hl
        simpa using hl
      exact chkL_cons hx (chkL_ins h1 h3 fs x.1 (lss_total hl2.1 hl2.2) ht)
theorem chk_fold : ∀ (ops s : List Fl), (∀ f ∈ ops, pathB f.1 = true ∧ f.1 ≠ [] ∧ f.2.length ≤ 16384) → chkL [] s = 0 → chkL [] (ops.foldl insL s) = 0
  | [], s, _, h => h
  | f :: ops, s, ho, h => by
    rw [List.foldl_cons]
    obtain ⟨h1, h2, h3⟩ := ho f (List.mem_cons_self ..)
    refine chk_fold ops _ (fun g hg => ho g (List.mem_cons_of_mem _ hg)) ?_
    rw [insL_eq]
    exact chkL_ins h1 h3 s [] (lss_of_ne h2) h
end RevN
namespace By
open WireN LexN RevN
theorem Put.chk {k : Nat} {fs : List Fl} (h : Put k fs) (hk : k ≤ 64) : chk fs = 0 := by
  have hl := h.len
  obtain ⟨o, h1, h2, rfl⟩ := h
  unfold RevN.chk
  rw [if_neg (by omega)]
  refine chk_fold o [] (fun f hf => ?_) rfl
  obtain ⟨q1, q2, q3⟩ := h2 f hf
  have hp : ∀ q ∈ mkPaths, pathB q = true ∧ q ≠ [] := by decide +kernel
  exact ⟨(hp _ q1).1, (hp _ q1).2, by omega⟩
end By
end Go.Proofs.YtmkijkaabcgcbaaGreatDoor

/- No proper beginning of a revision's bytes reads as a revision. No condition. -/
namespace Go.Proofs.YtmkijkaabcgcbaaGreatDoor
namespace RevN
open WireN LexN
theorem nx_take {l : List Nat} {t i : Nat} (h : (nx (l.take t) (i : Nat)).2.2.2 = 0) : nx l (i : Nat) = nx (l.take t) (i : Nat) ∧ (nx (l.take t) (i : Nat)).2.2.1 ≤ t := by
  obtain ⟨h1, h2, h3, n, q, hr, hn, hq, hs, he⟩ := nx_inv h
  have h4 := rd_append hr (l.drop t)
  rw [List.take_append_drop] at h4
  have hl : (l.take t).length = min t l.length := List.length_take
  have g : ∀ j, j < t → (l.take t)[j]?.getD 0 = l[j]?.getD 0 := fun j hj => by rw [List.getElem?_take, if_pos hj]
  have d : ∀ a b : Nat, a + b ≤ t → ((l.take t).drop a).take b = (l.drop a).take b := fun a b hab => by
    rw [List.drop_take, List.take_take, Nat.min_eq_left (by omega)]
  have e1 : (l.take t).take (q + n) = l.take (q + n) := by rw [List.take_take, Nat.min_eq_left (by omega)]
  rw [g i (by omega)] at h2
  rw [g (i + 1) (by omega)] at h3 he
  rw [d (q + n) 4 (by omega), e1] at hs
  rw [d q n (by omega)] at he
  rw [he]
  exact ⟨nx_ok (by omega) h2 h3 h4 hn (by omega) hs, by show q + n + 4 ≤ t; omega⟩
theorem Chain.of_take {l : List Nat} {t : Nat} : ∀ {r : List (Nat × List Nat)} {p q : Nat}, Chain (l.take t) p r q → p ≤ t → Chain l p r q ∧ q ≤ t
  | [], p, q, h, hp => by
    have h : p = q := h
    subst h
    exact ⟨rfl, hp⟩
  | x :: r, p, q, h, hp => by
    obtain ⟨h1, h2, h3, h4⟩ := h
    obtain ⟨e, hle⟩ := nx_take h2
    obtain ⟨g1, g2⟩ := Chain.of_take h4 hle
    have hl : (l.take t).length = min t l.length := List.length_take
    refine ⟨⟨by omega, by rw [e]; exact h2, by rw [e]; exact h3, by rw [e]; exact g1⟩, g2⟩
theorem Chain.short {l : List Nat} : ∀ {r R : List (Nat × List Nat)} {p q : Nat}, Chain l p r q → Chain l p R l.length → q < l.length → ∃ x s, R = r ++ x :: s
  | [], [], p, q, h, h', hq => by
    have h : p = q := h
    have h' : p = l.length := h'
    omega
  | [], x :: s, p, q, h, h', hq => ⟨x, s, rfl⟩
  | x :: r, [], p, q, h, h', hq => by
    have h' : p = l.length := h'
    have := h.1
    omega
  | x :: r, y :: R, p, q, h, h', hq => by
    obtain ⟨h1, h2, h3, h4⟩ := h
    obtain ⟨k1, k2, k3, k4⟩ := h'
    obtain ⟨z, s, e⟩ := Chain.short h4 k4 hq
    exact ⟨z, s, by rw [e, h3, k3]; rfl⟩
theorem dec_begin {fs : List Fl} (h : chk fs = 0) {t : Nat} (ht : t < (enc fs).length) {r : List (Nat × List Nat)} {q E : Nat} (hc : Chain ((enc fs).take t) 0 r q) (_hs : Stops ((enc fs).take t) q E) : (dec r E).1 ≠ 0 := by
  obtain ⟨hn, hk⟩ := chk_ok h
  have hm : ∀ f ∈ fs, f.1.length ≤ 80 ∧ f.2.length ≤ 16384 := fun f hf => ⟨path_len (chkL_mem hk f hf).1, (chkL_mem hk f hf).2⟩
  obtain ⟨g1, g2⟩ := Chain.of_take hc (Nat.zero_le _)
  obtain ⟨x, s, e⟩ := Chain.short g1 (chain_enc hm hn) (by omega)
  unfold dec
  by_cases hE : E = 0
  · rw [if_neg (by omega)]
    by_cases hr : r.length = 0
    · rw [if_pos (.inl hr)]; simp
    · have hkind : (r[r.length - 1]?.getD (0, [])).1 = 1 := by
        have e2 : (frames fs)[r.length - 1]? = r[r.length - 1]? := by rw [e, List.getElem?_append_left (by omega)]
        have hlen : r.length + 1 ≤ fs.length + 1 := by
          have := congrArg List.length e
          simp [frames] at this
          omega
        rw [← e2, frames, List.getElem?_append_left (by simp; omega), List.getElem?_map, List.getElem?_eq_getElem (by omega)]
        rfl
      rw [if_pos (.inr (by rw [hkind]; omega))]; simp
  · rw [if_pos hE]; exact hE
end RevN
end Go.Proofs.YtmkijkaabcgcbaaGreatDoor
