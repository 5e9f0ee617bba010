/- Changes of files, plain: what Diff answers of files that were moved, if their bytes are their own. No condition. -/
import Derived.Test.YtfobogcccbddbaaGreatDoorZak
import Derived.Test.YtfobogcccbddbaaGreatDoorZah
import Derived.Test.YtfobogcccbddbaaGreatDoorZai
import Derived.Test.YtfobogcccbddbaaGreatDoorZam
namespace Go.Proofs.YtfobogcccbddbaaGreatDoor
set_option linter.unusedVariables false
set_option linter.unusedSimpArgs false
namespace FdN
open RevN LexN WireN By
theorem fndU_nil (y : List Nat) : ∀ (gs : List Fl) (us : List Bool) (i : Nat), fndU y gs us i = none → ∀ (l : Nat) q, us[l]? = some false → gs[l]? ≠ some (q, y)
  | [], _, _, _, l, q, _ => by simp
  | g :: gs, [], _, _, l, q, h => by simp at h
  | g :: gs, u :: us, i, h, l, q, h2 => by
    unfold fndU at h
    split at h
    · cases h
    · rename_i hm
      cases l with
      | zero =>
        obtain rfl : u = false := by simpa using h2
        intro e
        obtain rfl : g = (q, y) := by simpa using e
        exact hm ⟨rfl, rfl⟩
      | succ l => simpa using fndU_nil y gs us (i + 1) h l q (by simpa using h2)
def Mx (g : List Fl) (us : List Bool) (D : List Ch) : Prop := ∀ x ∈ D, x.1 = 1 → ∀ (i : Nat) q, us[i]? = some false → g[i]? ≠ some (q, x.2.2.2)
theorem Mx.step {a g : List Fl} {us : List Bool} {D : List Ch} (h : Mx g us D) (f : Fl) : Mx g (stepD a g (us, D) f).1 (stepD a g (us, D) f).2 := by
  unfold stepD
  by_cases hh : hasP a f.1 = true
  · rw [if_pos hh]
    intro x hx h1
    by_cases hq : bytesAt a f.1 = f.2
    · simp only [hq, if_true] at hx
      exact h x hx h1
    · simp only [hq, if_false] at hx
      rcases ins_mem.1 hx with rfl | hx
      · exact absurd (show ((3:Int) = 1) from h1) (by decide)
      · exact h x hx h1
  · rw [if_neg hh]
    cases hf : fndU f.2 g us 0 with
    | none =>
      simp only
      intro x hx h1
      rcases ins_mem.1 hx with rfl | hx
      · exact fndU_nil _ _ _ _ hf
      · exact h x hx h1
    | some k =>
      simp only
      intro x hx h1 i q hi
      rcases ins_mem.1 hx with rfl | hx
      · exact absurd (show ((4:Int) = 1) from h1) (by decide)
      · refine h x hx h1 i q ?_
        rw [List.getElem?_set] at hi
        by_cases e : k = i
        · rw [if_pos e] at hi
          split at hi <;> simp at hi
        · rwa [if_neg e] at hi
theorem Mx.fold {a g : List Fl} : ∀ (r : List Fl) (us : List Bool) (D : List Ch), Mx g us D → Mx g (r.foldl (stepD a g) (us, D)).1 (r.foldl (stepD a g) (us, D)).2
  | [], _, _, h => h
  | f :: r, us, D, h => by
    rw [List.foldl_cons]
    exact Mx.fold r _ _ (h.step f)
theorem srt_one : ∀ {l : List Ch}, Srt l → ∀ {x y : Ch}, x ∈ l → y ∈ l → x.2.1 = y.2.1 → x = y
  | [], _, _, _, h, _, _ => by simp at h
  | z :: l, h, x, y, hx, hy, e => by
    have h1 := List.pairwise_cons.1 h
    rcases List.mem_cons.1 hx with ex | hx'
    · rcases List.mem_cons.1 hy with ey | hy'
      · rw [ex, ey]
      · exact absurd (ex ▸ e) (lss_ne (h1.1 y hy'))
    · rcases List.mem_cons.1 hy with ey | hy'
      · exact absurd (ey ▸ e.symm) (lss_ne (h1.1 x hx'))
      · exact srt_one h1.2 hx' hy' e
/-- An added file never has the bytes of a removed one. -/
theorem dif_max {a b : List Fl} (ha : chk a = 0) (hb : chk b = 0) {x z : Ch} (hx : x ∈ difL a b) (hz : z ∈ difL a b) (h1 : x.1 = 1) (h2 : z.1 = 2) : (z.2.1, x.2.2.2) ∉ a := by
  have h := dif1_ok ha hb
  obtain ⟨-, hm⟩ := rem_fold ha hb h (gn a b).length (Nat.le_refl _)
  have hmx : Mx (gn a b) (dif1 a b).1 (dif1 a b).2 := Mx.fold b _ _ (fun x hx => by simp at hx)
  rcases (hm x).1 hx with hx | ⟨i, f, -, -, -, rfl⟩
  · rcases (hm z).1 hz with hz | ⟨i, f, -, h3, h4, rfl⟩
    · rcases h.el z hz with ⟨h3, -⟩ | ⟨h3, -⟩ | ⟨h3, -⟩ <;> omega
    · intro hin
      have hfa := (gn_mem hb).1 (List.mem_of_getElem? h3)
      have e := one_file (chk_ok ha).2 hfa.1 hin rfl
      exact hmx x hx h1 i f.1 h4 (by rw [h3, e])
  · cases h1
def newN : List Nat := [110, 101, 119, 47]
theorem new_path : ∀ q ∈ mkPaths, pathB (newN ++ q) = true ∧ ∀ r ∈ mkPaths, newN ++ q ≠ r := by decide +kernel
theorem new_lt : Lt newN := by unfold newN; intro i; match i with | 0 => decide | 1 => decide | 2 => decide | 3 => decide | n + 4 => simp
/-- What holds while files are moved: the files M of a were. -/
structure MvS (a M b : List Fl) : Prop where
  sub : ∀ m ∈ M, m ∈ a
  nd : M.Nodup
  own : ∀ m ∈ M, ∀ g ∈ a, g.2 = m.2 → g.1 = m.1
  chk : RevN.chk b = 0
  len : b.length ≤ a.length + M.length
  mem : ∀ f, f ∈ b ↔ (f ∈ a ∧ f ∉ M) ∨ ∃ m ∈ M, f = (newN ++ m.1, m.2)
theorem MvS.start {a : List Fl} (h : RevN.chk a = 0) : MvS a [] a := ⟨fun m h => by simp at h, List.nodup_nil, fun m h => by simp at h, h, by simp, fun f => by simp⟩
theorem MvS.most {a M b : List Fl} (h : MvS a M b) : M.length ≤ a.length := by
  have : ∀ (M a : List Fl), M.Nodup → (∀ m ∈ M, m ∈ a) → M.length ≤ a.length := by
    intro M
    induction M with
    | nil => intro a _ _; exact Nat.zero_le _
    | cons m M ih =>
      intro a hn hs
      have hn' := List.nodup_cons.1 hn
      have hm := hs m List.mem_cons_self
      have := ih (a.erase m) hn'.2 (fun z hz => (List.mem_erase_of_ne (fun e : z = m => hn'.1 (by rw [← e]; exact hz))).2 (hs z (List.mem_cons_of_mem _ hz)))
      rw [List.length_erase_of_mem hm] at this
      have := List.length_pos_of_mem hm
      simp only [List.length_cons]
      omega
  exact this M a h.nd h.sub
theorem MvS.step {a M b : List Fl} (h : MvS a M b) (ha : RevN.chk a = 0) (hp : ∀ f ∈ a, f.1 ∈ mkPaths) (hl : a.length ≤ 30) {m : Fl} (hm : m ∈ a) (hn : m ∉ M) (ho : ∀ g ∈ a, g.2 = m.2 → g.1 = m.1) :
    ∃ b', movF b m.1 (newN ++ m.1) = (0, b') ∧ MvS a (M ++ [m]) b' := by
  obtain ⟨hq, hne⟩ := new_path m.1 (hp m hm)
  have hmb : m ∈ b := (h.mem m).2 (.inl ⟨hm, hn⟩)
  have h1 : hasP b m.1 = true := (hasP_iff h.chk).2 ⟨m, hmb, rfl⟩
  have h2 : hasP b (newN ++ m.1) = false := (hasP_not h.chk).2 (by
    rintro ⟨f, hf, e⟩
    rcases (h.mem f).1 hf with ⟨hfa, -⟩ | ⟨z, hz, rfl⟩
    · exact hne f.1 (hp f hfa) e.symm
    · have e2 : z.1 = m.1 := List.append_cancel_left e
      have e3 : z = m := one_file (chk_ok ha).2 (h.sub z hz) hm e2
      exact hn (by rw [← e3]; exact hz))
  have hby : bytesAt b m.1 = m.2 := bytesAt_eq h.chk hmb
  have hrem : remL b m.1 = woL m.1 b := (rrem_eq h.chk h1).symm
  have hrm : ∀ f, f ∈ woL m.1 b ↔ f ∈ b ∧ f.1 ≠ m.1 := fun f => by
    unfold woL
    rw [List.mem_filter]
    simp
  have hrc : chkL [] (woL m.1 b) = 0 := by
    have hh : ∀ (l' : List Fl) (q r : List Nat) (P : Fl → Bool), chkL q l' = 0 → (r = q ∨ lss r q = true) → chkL r (l'.filter P) = 0 := by
      intro l'
      induction l' with
      | nil => intros; rfl
      | cons x l' ih =>
        intro q r P h hr
        obtain ⟨h1, h2⟩ := chkL_tail h
        have hqx : lss q x.1 = true := chkL_gt h x List.mem_cons_self
        obtain ⟨q1, -, -, q4⟩ := fileE_ok h2
        have hrx : lss r x.1 = true := by
          rcases hr with rfl | hr
          · exact hqx
          · exact lss_trans hr hqx
        rw [List.filter_cons]
        split
        · exact chkL_cons (fileE_zero q1 hrx q4) (ih x.1 x.1 P h1 (.inl rfl))
        · exact ih x.1 r P h1 (.inr hrx)
    exact hh b [] [] _ (chk_ok h.chk).2 (.inl rfl)
  have hrl : (woL m.1 b).length ≤ b.length := by unfold woL; exact List.length_filter_le _ _
  have hbl := h.len
  have hml := h.most
  have hrk : RevN.chk (woL m.1 b) = 0 := by
    unfold RevN.chk
    rw [if_neg (by omega)]
    exact hrc
  have hrn : hasP (woL m.1 b) (newN ++ m.1) = false := (hasP_not hrk).2 (by
    rintro ⟨f, hf, e⟩
    exact (hasP_not h.chk).1 h2 ⟨f, ((hrm f).1 hf).1, e⟩)
  have hput : putL (woL m.1 b) (newN ++ m.1, m.2) = insF (woL m.1 b) (newN ++ m.1, m.2) := by
    unfold putL insF
    rw [if_neg (by simp [hrn])]
    rfl
  have hil : (insF (woL m.1 b) (newN ++ m.1, m.2)).length = (woL m.1 b).length + 1 := by
    unfold insF
    have := pos_le (woL m.1 b) (newN ++ m.1)
    simp only [List.length_append, List.length_cons, List.length_take, List.length_drop]
    omega
  have hby2 : m.2.length ≤ 16384 := (chkL_mem (chk_ok ha).2 m hm).2
  have hic : chkL [] (insF (woL m.1 b) (newN ++ m.1, m.2)) = 0 := insF_chk (f := (newN ++ m.1, m.2)) hq hby2 (lss_of_ne (path_ne hq)) hrc ((hasP_not hrk).1 hrn)
  refine ⟨insF (woL m.1 b) (newN ++ m.1, m.2), ?_, ?_⟩
  · unfold movF
    rw [if_neg (by simp [h.chk]), if_neg (by simp [hq]), if_neg (by simp [h1]), if_neg (by simp [h2]), hrem, hby]
    unfold putF
    rw [if_neg (by simp [hrk]), if_neg (by simp [hq]), hput, if_neg (by omega)]
  · refine ⟨fun z hz => ?_, ?_, fun z hz => ?_, ?_, ?_, fun f => ?_⟩
    · rcases List.mem_append.1 hz with hz | hz
      · exact h.sub z hz
      · obtain rfl : z = m := by simpa using hz
        exact hm
    · refine List.nodup_append.2 ⟨h.nd, by simp, fun x hx y hy e => ?_⟩
      obtain rfl : y = m := by simpa using hy
      exact hn (e ▸ hx)
    · rcases List.mem_append.1 hz with hz | hz
      · exact h.own z hz
      · obtain rfl : z = m := by simpa using hz
        exact ho
    · unfold RevN.chk
      rw [if_neg (by omega)]
      exact hic
    · rw [hil, List.length_append, List.length_singleton]; omega
    · rw [insF_mem, hrm, h.mem f]
      constructor
      · rintro (rfl | ⟨⟨h3, h4⟩ | ⟨z, hz, rfl⟩, h5⟩)
        · exact .inr ⟨m, by simp, rfl⟩
        · refine .inl ⟨h3, fun hc => ?_⟩
          rcases List.mem_append.1 hc with hc | hc
          · exact h4 hc
          · obtain rfl : f = m := by simpa using hc
            exact h5 rfl
        · exact .inr ⟨z, List.mem_append_left _ hz, rfl⟩
      · rintro (⟨h3, h4⟩ | ⟨z, hz, rfl⟩)
        · refine .inr ⟨.inl ⟨h3, fun hc => h4 (List.mem_append_left _ hc)⟩, fun e => ?_⟩
          exact h4 (List.mem_append_right _ (by rw [one_file (chk_ok ha).2 h3 hm e]; simp))
        · rcases List.mem_append.1 hz with hz | hz
          · refine .inr ⟨.inr ⟨z, hz, rfl⟩, fun e => ?_⟩
            exact (new_path z.1 (hp z (h.sub z hz))).2 m.1 (hp m hm) e
          · obtain rfl : z = m := by simpa using hz
            exact .inl rfl
/-- The changes are the moves. -/
theorem MvS.dif {a M b : List Fl} (h : MvS a M b) (ha : RevN.chk a = 0) (hp : ∀ f ∈ a, f.1 ∈ mkPaths) :
    (difL a b).length = M.length ∧ ∀ x ∈ difL a b, x.1 = 4 ∧ x.2.1 = newN ++ x.2.2.1 := by
  have hd := dif_ok ha h.chk
  have hna : ∀ z ∈ a, ¬ has a (newN ++ z.1) := by
    rintro z hz ⟨f, hf, e⟩
    exact (new_path z.1 (hp z hz)).2 f.1 (hp f hf) e.symm
  have hnew : ∀ p y, (p, y) ∈ b → ¬ has a p → ∃ m ∈ M, p = newN ++ m.1 ∧ y = m.2 := by
    intro p y hy hn
    rcases (h.mem _).1 hy with ⟨h1, -⟩ | ⟨m, hm, e⟩
    · exact absurd ⟨_, h1, rfl⟩ hn
    · exact ⟨m, hm, congrArg Prod.fst e, congrArg Prod.snd e⟩
  have hgone : ∀ p, has a p → ¬ has b p → ∃ m ∈ M, p = m.1 := by
    rintro p ⟨f, hf, rfl⟩ hn
    by_cases hfm : f ∈ M
    · exact ⟨f, hfm, rfl⟩
    · exact absurd ⟨f, (h.mem f).2 (.inl ⟨hf, hfm⟩), rfl⟩ hn
  have hmb : ∀ m ∈ M, (newN ++ m.1, m.2) ∈ b := fun m hm => (h.mem _).2 (.inr ⟨m, hm, rfl⟩)
  have hmn : ∀ m ∈ M, ¬ has b m.1 := by
    rintro m hm ⟨f, hf, e⟩
    rcases (h.mem f).1 hf with ⟨h1, h2⟩ | ⟨z, hz, rfl⟩
    · exact h2 (one_file (chk_ok ha).2 h1 (h.sub m hm) e ▸ hm)
    · exact (new_path z.1 (hp z (h.sub z hz))).2 m.1 (hp m (h.sub m hm)) e
  -- a rename is a move
  have h4 : ∀ x ∈ difL a b, x.1 = 4 → ∃ m ∈ M, x.2.1 = newN ++ m.1 ∧ x.2.2.1 = m.1 := by
    intro x hx hx4
    rcases hd.el x hx with ⟨x1, -⟩ | ⟨x1, -⟩ | ⟨-, -, x3, y, x4, x5, -⟩ | ⟨x1, -⟩
    · omega
    · omega
    · obtain ⟨m, hm, e1, e2⟩ := hnew _ _ x4 x3
      exact ⟨m, hm, e1, h.own m hm (x.2.2.1, y) x5 e2⟩
    · omega
  have no3 : ∀ x ∈ difL a b, x.1 ≠ 3 := by
    intro x hx e
    rcases hd.el x hx with ⟨-, -, x2, y, x3, x4⟩ | ⟨x1, -⟩ | ⟨x1, -⟩ | ⟨x1, -⟩
    · rcases (h.mem _).1 x2 with ⟨h1, -⟩ | ⟨m, hm, e2⟩
      · exact x4 (Prod.ext_iff.1 (one_file (chk_ok ha).2 x3 h1 rfl)).2
      · exact hna m (h.sub m hm) ⟨_, x3, congrArg Prod.fst e2⟩
    · omega
    · omega
    · omega
  have no2 : ∀ z ∈ difL a b, z.1 ≠ 2 := by
    intro z hz e
    rcases hd.el z hz with ⟨x1, -⟩ | ⟨x1, -⟩ | ⟨x1, -⟩ | ⟨-, -, -, x4, x5⟩
    · omega
    · omega
    · omega
    · obtain ⟨m, hm, e1⟩ := hgone _ x4 x5
      rcases hd.b1 _ (hmb m hm) with h1 | ⟨x, hx, hk, he⟩
      · exact hna m (h.sub m hm) ⟨_, h1, rfl⟩
      · rcases hd.el x hx with ⟨x1, -⟩ | ⟨x1, -, x2, -⟩ | ⟨x1, -⟩ | ⟨x1, -⟩
        · exact no3 x hx x1
        · have e2 := Prod.ext_iff.1 (one_file (chk_ok h.chk).2 x2 (hmb m hm) he)
          have e3 : x.2.2.2 = m.2 := e2.2
          exact dif_max ha h.chk hx hz x1 e (by rw [e1, e3]; exact h.sub m hm)
        · obtain ⟨m', hm', e2, e3⟩ := h4 x hx x1
          rw [he] at e2
          have e4 : m.1 = m'.1 := List.append_cancel_left e2
          exact hd.u24 x hx z hz x1 e (by rw [e3, e1, e4])
        · exact hk x1
  have no1 : ∀ x ∈ difL a b, x.1 ≠ 1 := by
    intro x hx e
    rcases hd.el x hx with ⟨x1, -⟩ | ⟨-, -, x2, x3⟩ | ⟨x1, -⟩ | ⟨x1, -⟩
    · omega
    · obtain ⟨m, hm, e1, e2⟩ := hnew _ _ x2 x3
      obtain ⟨z, hz, ⟨h1, -⟩ | ⟨h1, h2⟩⟩ := hd.a1 m (h.sub m hm) (hmn m hm)
      · exact no2 z hz h1
      · obtain ⟨m', hm', e3, e4⟩ := h4 z hz h1
        have e5 : z.2.1 = x.2.1 := by rw [e3, e1, ← e4, h2]
        have := srt_one hd.srt hz hx e5
        rw [this] at h1
        omega
    · omega
    · omega
  have all4 : ∀ x ∈ difL a b, x.1 = 4 := by
    intro x hx
    rcases hd.el x hx with ⟨x1, -⟩ | ⟨x1, -⟩ | ⟨x1, -⟩ | ⟨x1, -⟩
    · exact absurd x1 (no3 x hx)
    · exact absurd x1 (no1 x hx)
    · exact x1
    · exact absurd x1 (no2 x hx)
  refine ⟨?_, fun x hx => ⟨all4 x hx, ?_⟩⟩
  · have n1 : ((difL a b).map fun x => x.2.2.1).Nodup := by
      refine List.pairwise_map.2 (List.Pairwise.imp_of_mem (fun {x y} hx hy hlt e => ?_) hd.srt)
      exact lss_ne hlt (by rw [hd.u4 x hx y hy (all4 x hx) (all4 y hy) e])
    have n2 : (M.map Prod.fst).Nodup := by
      refine List.pairwise_map.2 (List.Pairwise.imp_of_mem (fun {x y} hx hy hne e => ?_) h.nd)
      exact hne (one_file (chk_ok ha).2 (h.sub x hx) (h.sub y hy) e)
    have hpm := (List.perm_ext_iff_of_nodup n1 n2).2 (fun p => by
      rw [List.mem_map, List.mem_map]
      constructor
      · rintro ⟨x, hx, rfl⟩
        obtain ⟨m, hm, -, e⟩ := h4 x hx (all4 x hx)
        exact ⟨m, hm, e.symm⟩
      · rintro ⟨m, hm, rfl⟩
        obtain ⟨z, hz, ⟨h1, -⟩ | ⟨h1, h2⟩⟩ := hd.a1 m (h.sub m hm) (hmn m hm)
        · exact absurd h1 (no2 z hz)
        · exact ⟨z, hz, h2⟩)
    have := hpm.length_eq
    simpa using this
  · obtain ⟨m, hm, e1, e2⟩ := h4 x hx (all4 x hx)
    rw [e1, e2]
/-- Whether the bytes of a file are those of another one. -/
def twc (a : List Fl) (f : Fl) (k : Nat) : Bool := (a.take k).any fun g => !decide (g.1 = f.1) && decide (g.2 = f.2)
theorem twc_snoc {a : List Fl} {f g : Fl} {k : Nat} (h : a[k]? = some g) : twc a f (k + 1) = (twc a f k || (!decide (g.1 = f.1) && decide (g.2 = f.2))) := by
  unfold twc
  rw [List.take_add_one, h, List.any_append]
  simp
theorem twc_not {a : List Fl} {f : Fl} {k : Nat} (hk : a.length ≤ k) (h : twc a f k = false) : ∀ g ∈ a, g.2 = f.2 → g.1 = f.1 := by
  intro g hg e
  unfold twc at h
  rw [List.take_of_length_le hk] at h
  have := List.any_eq_false.1 h g hg
  simpa [e] using this
end FdN
end Go.Proofs.YtfobogcccbddbaaGreatDoor

/- The law on moved files: it returns true, and leaves what was there. Conditions: the program's functions answer as they should; the slice reads as the integers that are named; a package variable of the library holds some integer. -/
namespace Go.Proofs.YtfobogcccbddbaaGreatDoor
namespace By
open Go.RowKit Go.Shelf WireN LexN RevN FdN
set_option linter.unusedVariables false
set_option linter.unusedSimpArgs false

theorem Rw.beside3 {w w' : World} {v : Value} {fs : List Fl} {g : Nat} (h : Rw w v fs) (hg : Gr g w w') (hne : fs ≠ [] → ∀ b, v.ownBlock = some b → b ≠ g) : Rw w' v fs := by
  obtain ⟨⟨ao, cap, rfl, h1, h2, h3, h4⟩, h5, h6⟩ := h
  refine ⟨⟨ao, cap, rfl, h1, h2, ?_, h4⟩, h5, h6⟩
  rcases h3 with rfl | ⟨b, off, rfl, h3⟩
  · exact .inl rfl
  · by_cases hf : fs = []
    · exact .inl hf
    · exact .inr ⟨b, off, rfl, fun j f hj => ⟨cell_gr hg (h3 j f hj).1 (hne hf b rfl), cell_gr hg (h3 j f hj).2 (hne hf b rfl)⟩⟩
theorem Rw.old3 {w : World} {v : Value} {fs : List Fl} (h : Rw w v fs) (hf : fs ≠ []) : ∀ b, v.ownBlock = some b → b < w.heap.size := by
  obtain ⟨⟨ao, cap, rfl, h1, h2, h3, h4⟩, h5, h6⟩ := h
  intro b hb
  rcases h3 with rfl | ⟨b', off, rfl, h3⟩
  · exact absurd rfl hf
  · obtain ⟨f, fs', rfl⟩ := List.exists_cons_of_ne_nil hf
    have h := World.block_lt_of_cell? w _ (h3 0 f rfl).1
    have e : b' = b := Option.some.inj hb
    rw [← e]; exact h
theorem st_appr (a b : List Nat) : st a ++ st b = st (a ++ b) := by
  apply ByteArray.ext
  apply Array.ext'
  simp [st]
theorem new_add {p : List Nat} (h : p.length ≤ 1000000) (w : World) : (Op.stringOp .add ⟨#[110, 101, 119, 47]⟩ (st p)).run Tryz.prog w = .ok (.string (st (newN ++ p))) w := by
  have e : (⟨#[110, 101, 119, 47]⟩ : ByteArray) = st newN := by decide +kernel
  rw [e, run_string_add_sum w _ _ (by rw [st_size, st_size]; show 4 + _ ≤ _; omega), st_appr]
theorem path_short : ∀ q ∈ mkPaths, q.length ≤ 100 := by decide +kernel
theorem path_lt : ∀ q ∈ mkPaths, Lt q := fun q hq => lt_dec ((show ∀ q ∈ mkPaths, q.all (fun x => decide (x < 256)) = true by decide +kernel) q hq)
theorem fl_ne {a : List Fl} (ha : chk a = 0) {i j : Nat} {f g : Fl} (hf : a[i]? = some f) (hg : a[j]? = some g) (h : i < j) : f ≠ g := by
  intro e
  have hd := dstn (chk_ok ha).2
  obtain ⟨h1, h2⟩ := List.getElem?_eq_some_iff.1 hf
  obtain ⟨h3, h4⟩ := List.getElem?_eq_some_iff.1 hg
  exact (List.pairwise_iff_getElem.1 hd) i j h1 h3 h (by rw [h2, h4, e])
/-- What holds while files are moved. -/
structure RnI (w0 W : World) (g n lo pa pb : Nat) (va vb : Value) (fa fb : List Fl) : Prop where
  ba : Blk W pa 25 #[va]
  bb : Blk W pb 25 #[vb]
  ra : Rw W va fa
  rb : Rw W vb fb
  oa : ∀ b, va.ownBlock = some b → lo ≤ b
  ob : ∀ b, vb.ownBlock = some b → lo ≤ b
  na : fa ≠ [] → ∀ b, va.ownBlock = some b → b ≠ pb
  tq : Tq w0 W g n
  ge : w0.heap.size ≤ g
  gl : g < lo
  l1 : lo ≤ pa
  l2 : pa < pb
  l3 : pb < W.heap.size
theorem RnI.draw {w0 W W' : World} {g n m lo pa pb : Nat} {va vb : Value} {fa fb : List Fl} (h : RnI w0 W g n lo pa pb va vb fa fb) (hg : Gr g W W') (ht : Tq w0 W' g m) : RnI w0 W' g m lo pa pb va vb fa fb := by
  have h1 := h.gl; have h2 := hg.size; have h3 := h.l1; have h4 := h.l2; have h5 := h.l3
  exact ⟨h.ba.gr hg (by omega), h.bb.gr hg (by omega), h.ra.gr hg (fun b hb => by have := h.oa b hb; omega), h.rb.gr hg (fun b hb => by have := h.ob b hb; omega), h.oa, h.ob, h.na, ht, h.ge, h1, h3, h4, by omega⟩
theorem RnI.keep {w0 W W' : World} {g n lo pa pb : Nat} {va vb : Value} {fa fb : List Fl} (h : RnI w0 W g n lo pa pb va vb fa fb) (hk : Kp W W') : RnI w0 W' g n lo pa pb va vb fa fb := h.draw (hk.gr g) (h.tq.keep hk)
theorem RnI.less {w0 W : World} {g n m lo pa pb : Nat} {va vb : Value} {fa fb : List Fl} (h : RnI w0 W g n lo pa pb va vb fa fb) (hm : m ≤ n) : RnI w0 W g m lo pa pb va vb fa fb := ⟨h.ba, h.bb, h.ra, h.rb, h.oa, h.ob, h.na, h.tq.less hm, h.ge, h.gl, h.l1, h.l2, h.l3⟩
theorem RnI.put {w0 W W' : World} {g n lo pa pb : Nat} {va vb vc : Value} {fa fb fc : List Fl} (h : RnI w0 W g n lo pa pb va vb fa fb) (hk : Kp W W') (hc : Rw W' vc fc) (ho : ∀ b, vc.ownBlock = some b → W.heap.size ≤ b) : RnI w0 (W'.setCell ⟨pb, 0, none⟩ vc) g n lo pa pb va vc fa fc := by
  have h1 := h.gl; have h2 := hk.size; have h3 := h.l1; have h4 := h.l2; have h5 := h.l3; have h6 := h.ge
  have hb := h.keep hk
  have o : Only pb W' (W'.setCell ⟨pb, 0, none⟩ vc) := (Only.refl _ W').set 0 _
  exact ⟨hb.ba.other o (by omega), hb.bb.set 0 _, hb.ra.beside3 (Only.gr o) h.na, hc.only o (fun b hb => by have := ho b hb; omega), h.oa, fun b hb => by have := ho b hb; omega, h.na, hb.tq.only o (by omega) (by omega), h.ge, h1, h3, h4, by simp; omega⟩
set_option maxRecDepth 100000 in
set_option maxHeartbeats 16000000 in
theorem fdRenames_any (HDC : DiffC) (HAC : ApplyC) (HIC : InvertC) {zs : List Int} {v : Value} {w : World} (hz : SlI w v zs) (hm : MX w) :
    Calls Tryz.prog 7 #[v] w fun e w' => e = .returned (.bool true) ∧ Kp w w' := by
  have hz' := hz
  obtain ⟨⟨ao, cap, rfl, hc, hmx, hat⟩, hlt, hsm⟩ := hz
  obtain ⟨len0, hlen⟩ : ∃ len, len = zs.length := ⟨_, rfl⟩
  rw [← hlen] at hz' ⊢
  obtain ⟨w1, hw1⟩ : ∃ w1, w1 = w.alloc (Obj.cells #[.slice ao len0 cap, .int .i64 0] 30) := ⟨_, rfl⟩
  have htp : Tp w w1 w.heap.size 0 := by
    rw [hw1]
    exact ⟨⟨ao, len0, cap, zs, hz', Blk.new _ _ _⟩, Kp.alloc (Kp.refl _) _, Nat.le_refl _⟩
  have HRV := Lib.hid (Revision_o (n := 8) ⟨0, by omega, htp⟩)
  have HW1 := Lib.hid hw1; have HM := Lib.hid hm
  have HZ1 : Hid (w1.heap.size = w.heap.size + 1) := Lib.hid (by rw [hw1]; simp)
  have HDI := Lib.hid HDC; have HAW := Lib.hid (fun (W : World) (h : MX W) => awake15_any HDC HAC HIC h)
  obtain ⟨g, hg⟩ : ∃ g, g = w.heap.size := ⟨_, rfl⟩
  rw [← hg] at HRV
  have HG := Lib.hid hg
  clear hz' hc hmx hat hlt hsm hlen hw1 htp hm HDC HAC HIC hg
  go_enter Tryz.func7, Tryz.ntmps7
  go_wp2_with fail
  rw [← HW1.out, ← HG.out]
  refine HRV.out.mono ?_
  rintro e w2 ⟨⟨va, fa, rfl, hra, hpt, hnw⟩, hq, hg2⟩
  obtain ⟨aa, n, ca, hva⟩ := hra.form
  subst hva
  have hca := hpt.chk (by omega)
  have hmem := hpt.mem
  have hfl : fa.length ≤ 7 := hpt.len
  obtain ⟨W3, hW3⟩ : ∃ W, W = w2.alloc (.cells #[.slice aa n ca] 25) := ⟨_, rfl⟩
  obtain ⟨W4, hW4⟩ : ∃ W, W = W3.alloc (.cells #[.slice aa n ca] 25) := ⟨_, rfl⟩
  have k3 : Kp w2 W3 := by rw [hW3]; exact kp_alloc _ _
  have k4 : Kp W3 W4 := by rw [hW4]; exact kp_alloc _ _
  have z3 : W3.heap.size = w2.heap.size + 1 := by rw [hW3]; simp
  have z4 : W4.heap.size = w2.heap.size + 1 + 1 := by rw [hW4]; simp [z3]
  obtain ⟨pa, hpa⟩ : ∃ b, b = w2.heap.size := ⟨_, rfl⟩
  obtain ⟨pb, hpb⟩ : ∃ b, b = w2.heap.size + 1 := ⟨_, rfl⟩
  have hba : Blk W4 pa 25 #[.slice aa n ca] := by
    have h : Blk W3 pa 25 #[.slice aa n ca] := by rw [hW3, hpa]; exact Blk.new _ _ _
    exact h.keep k4
  have hbb : Blk W4 pb 25 #[.slice aa n ca] := by rw [hW4, hpb, ← z3]; exact Blk.new _ _ _
  have hnn : n = fa.length := by
    obtain ⟨_, _, e, -, -, -⟩ := hra.open3
    simp only [Value.slice.injEq] at e
    exact e.2.1
  have hcn : n ≤ ca := by
    obtain ⟨_, _, e, h, -, -⟩ := hra.open3
    simp only [Value.slice.injEq] at e
    omega
  have HN := Lib.hid hnn
  have hl1 : w1.heap.size ≤ w2.heap.size := hg2.size
  have HI0 : Hid (RnI w W4 g 8 w1.heap.size pa pb (.slice aa n ca) (.slice aa n ca) fa fa) := Lib.hid (by
    have hz1 := HZ1.out; have hgg := HG.out
    have hk := k3.trans k4
    exact ⟨hba, hbb, hra.keep hk, hra.keep hk, hnw, hnw, fun hf b hb => by have := hra.old3 hf b hb; omega, hq.keep hk, by omega, by omega, by omega, by omega, by omega⟩)
  have HCK := Lib.hid hca; have HMM := Lib.hid hmem; have HF7 := Lib.hid hfl
  have HPA := Lib.hid hpa; have HPB := Lib.hid hpb
  have HL1 := Lib.hid hl1
  have i1 : (n : Int) ≤ (7 : Int) := by omega
  have i2 : (n : Int) ≤ (ca : Int) := by omega
  have x0 := hba.cell 0 rfl
  rw [hW4, hW3, hpa] at x0
  have HW4 : Hid (W4 = (w2.alloc (.cells #[.slice aa n ca] 25)).alloc (.cells #[.slice aa n ca] 25)) := Lib.hid (by rw [hW4, hW3])
  have HM2 : Hid (∀ W, Kp w W → MX W) := Lib.hid (fun W h => HM.out.keep h)
  obtain ⟨lo, hlo⟩ : ∃ b, b = w1.heap.size := ⟨_, rfl⟩
  rw [← hlo] at HI0
  clear hra hpt hnw hq hg2 hca hmem hfl hW3 hW4 k3 k4 z3 z4 hpa hpb hba hbb hnn hcn hl1 hlo
  go_wp2_with fail
  rw [← HW4.out, ← HPB.out, ← HPA.out]
  clear x0
  go_loopw [6, 27] (fun c i wr => ∃ (k : Nat) (M fb : List Fl) (xa : Option Addr) (xl xc m : Nat), i = .int .i64 (k : Nat) ∧ c = .int .i64 (m : Nat) ∧ k ≤ n ∧ m = M.length ∧ (∀ z ∈ M, z ∈ fa.take k) ∧ MvS fa M fb ∧ RnI w wr g (8 - k) lo pa pb (.slice aa n ca) (.slice xa xl xc) fa fb) (fun _ i _ => n - (intOf i).toNat)
  case atStart => exact ⟨0, [], fa, _, _, _, 0, rfl, rfl, Nat.zero_le _, rfl, fun z hz => by simp at hz, MvS.start HCK.out, HI0.out⟩
  case round =>
    obtain ⟨k, M, fb, xa, xl, xc, m, rfl, rfl, hk, hmm, hsub, hmv, hI⟩ := hrel
    rename World => wy
    have HMM2 := Lib.hid hmm; have HSUB := Lib.hid hsub; have HMV := Lib.hid hmv; have HI := Lib.hid hI
    have hml : m ≤ 7 := by have h1 := hmv.most; have h2 := HF7.out; omega
    clear hmm hsub hmv
    by_cases hkn : k < n
    · obtain ⟨f, hf⟩ : ∃ f, fa[k]? = some f := ⟨_, List.getElem?_eq_getElem (by have := HN.out; omega)⟩
      have hfm := List.mem_of_getElem? hf
      have HFP : Hid (f.1 ∈ mkPaths) := Lib.hid (HMM.out f hfm).1
      obtain ⟨b, off, haa, hcell⟩ := hI.ra.cell (by omega)
      subst haa
      obtain ⟨c0, c1⟩ := hcell k f hf
      obtain ⟨T1, hT1⟩ : ∃ S, S = st f.1 := ⟨_, rfl⟩
      obtain ⟨T2, hT2⟩ : ∃ S, S = st f.2 := ⟨_, rfl⟩
      rw [← hT1] at c0
      rw [← hT2] at c1
      obtain ⟨Wf, hWf⟩ : ∃ W, W = wy.alloc (.cells #[.string T1, .string T2] 53) := ⟨_, rfl⟩
      have kf : Kp wy Wf := by rw [hWf]; exact kp_alloc _ _
      obtain ⟨pf, hpf⟩ : ∃ b, b = wy.heap.size := ⟨_, rfl⟩
      have BF0 : Hid (Blk Wf pf 53 #[.string T1, .string T2]) := Lib.hid (by rw [hWf, hpf]; exact Blk.new _ _ _)
      have HIF := Lib.hid (hI.keep kf)
      have j0 : (k : Int) < (n : Int) := by omega
      have x0 := hI.ba.cell 0 rfl
      have x1 := HIF.out.ba.cell 0 rfl
      rw [hWf] at x1
      have HWf := Lib.hid hWf; have HPF := Lib.hid hpf; have HF := Lib.hid hf; have HT1 := Lib.hid hT1; have HT2 := Lib.hid hT2
      clear hfm hcell hf hT1 hT2 hWf kf hpf hI hk
      go_wp2_with fail
      rw [← HWf.out, ← HPF.out]
      clear x0 x1 c0 c1
      go_loopw [9, 34] (fun t i wr => ∃ (j : Nat), i = .int .i64 (j : Nat) ∧ t = .bool (twc fa f j) ∧ j ≤ n ∧ Kp Wf wr) (fun _ i _ => n - (intOf i).toNat)
      case atStart => exact ⟨0, rfl, rfl, Nat.zero_le _, Kp.refl _⟩
      case round =>
        obtain ⟨j, rfl, rfl, hj, hkj⟩ := hrel
        rename World => wj
        have HKJ := Lib.hid hkj
        obtain ⟨t, ht⟩ : ∃ t, t = twc fa f j := ⟨_, rfl⟩
        rw [← ht]
        have HT := Lib.hid ht
        clear ht
        by_cases hjn : j < n
        · obtain ⟨f2, hf2⟩ : ∃ f2, fa[j]? = some f2 := ⟨_, List.getElem?_eq_getElem (by have := HN.out; omega)⟩
          obtain ⟨b', off', haa', hcell⟩ := (HIF.out.ra.keep hkj).cell (by omega)
          obtain ⟨rfl, rfl⟩ : b' = b ∧ off' = off := by
            have := Option.some.inj haa'
            injection this with h1 h2
            exact ⟨h1.symm, h2.symm⟩
          obtain ⟨c0, c1⟩ := hcell j f2 hf2
          have hm2 := List.mem_of_getElem? hf2
          have e1 := st_inj' (HIF.out.ra.lt f2 hm2).1 (HIF.out.ra.lt f (List.mem_of_getElem? HF.out)).1
          have e2 := st_inj' (HIF.out.ra.lt f2 hm2).2 (HIF.out.ra.lt f (List.mem_of_getElem? HF.out)).2
          obtain ⟨U1, hU1⟩ : ∃ S, S = st f2.1 := ⟨_, rfl⟩
          obtain ⟨U2, hU2⟩ : ∃ S, S = st f2.2 := ⟨_, rfl⟩
          rw [← hU1] at c0 e1
          rw [← hU2] at c1 e2
          rw [← HT1.out] at e1
          rw [← HT2.out] at e2
          have hstep := twc_snoc (f := f) hf2
          rw [← HT.out] at hstep
          obtain ⟨q1, hq1⟩ : ∃ q, q = decide (f2.1 = f.1) := ⟨_, rfl⟩
          obtain ⟨q2, hq2⟩ : ∃ q, q = decide (f2.2 = f.2) := ⟨_, rfl⟩
          rw [← hq1] at e1 hstep
          rw [← hq2] at e2 hstep
          have HST := Lib.hid hstep
          obtain ⟨Wg, hWg⟩ : ∃ W, W = wj.alloc (.cells #[.string U1, .string U2] 53) := ⟨_, rfl⟩
          have kg : Kp wj Wg := by rw [hWg]; exact kp_alloc _ _
          have HKG := Lib.hid (hkj.trans kg)
          obtain ⟨pg, hpg⟩ : ∃ b, b = wj.heap.size := ⟨_, rfl⟩
          have bg : Blk Wg pg 53 #[.string U1, .string U2] := by rw [hWg, hpg]; exact Blk.new _ _ _
          have bf := BF0.out.keep HKG.out
          have x0 := bg.cell 0 rfl; have x1 := bg.cell 1 rfl
          have y0 := bf.cell 0 rfl; have y1 := bf.cell 1 rfl
          rw [hWg] at x0 x1 y0 y1
          rw [hpg] at x0 x1
          have HWg := Lib.hid hWg
          have j1 : (j : Int) < (n : Int) := by omega
          clear hm2 hf2 hcell hU1 hU2 hstep hq1 hq2 hWg kg hpg bg bf hkj haa'
          cases t with
          | true =>
            have HF2 : Hid (true = twc fa f (j + 1)) := Lib.hid (by rw [HST.out]; rfl)
            clear e1 e2
            go_wp2_with fail
            rw [← HWg.out]
            go_roundw
            case rel => exact ⟨j + 1, by go_num, by rw [← HF2.out], by omega, HKG.out⟩
            case measure => (first | (simp [intOf]; omega) | simp [intOf])
          | false =>
            have HF2 : Hid ((!q1 && q2) = twc fa f (j + 1)) := Lib.hid (by rw [HST.out]; rfl)
            cases q1 with
            | true =>
              go_wp2_with fail
              rw [← HWg.out]
              go_roundw
              case rel => exact ⟨j + 1, by go_num, by rw [← HF2.out]; rfl, by omega, HKG.out⟩
              case measure => (first | (simp [intOf]; omega) | simp [intOf])
            | false =>
              go_wp2_with fail
              rw [← HWg.out]
              go_roundw
              case rel => exact ⟨j + 1, by go_num, by rw [← HF2.out]; rfl, by omega, HKG.out⟩
              case measure => (first | (simp [intOf]; omega) | simp [intOf])
        · have j1 : (n : Int) ≤ (j : Int) := by omega
          have j1' : decide (j < n) = false := decide_eq_false hjn
          have HJN : Hid (fa.length ≤ j) := Lib.hid (by have := HN.out; omega)
          have HIJ := Lib.hid (HIF.out.keep hkj)
          clear hkj hj hjn
          cases t with
          | true =>
            go_wp2_with fail
            go_roundw
            case rel => exact ⟨k + 1, M, fb, _, _, _, m, by go_num, rfl, by omega, HMM2.out, fun z hz => by rw [List.take_add_one]; exact List.mem_append_left _ (HSUB.out z hz), HMV.out, HIJ.out.less (by omega)⟩
            case measure => (first | (simp [intOf]; omega) | simp [intOf])
          | false =>
            have HOWN : Hid (∀ z ∈ fa, z.2 = f.2 → z.1 = f.1) := Lib.hid (twc_not HJN.out HT.out.symm)
            have HCH := Lib.hid (Chance_q (n := 8 - (k + 1)) (HIJ.out.less (m := 8 - (k + 1) + 1) (by omega)).tq 1 2 (by omega) (by omega))
            go_wp2_with fail
            refine HCH.out.mono ?_
            rintro e w6 ⟨⟨c, rfl⟩, hq6, hg6⟩
            have HI6 := Lib.hid (HIJ.out.draw hg6 hq6)
            have HB6 : Hid (Blk w6 pf 53 #[.string T1, .string T2]) := Lib.hid ((BF0.out.keep HKJ.out).gr hg6 (by have h1 := HPF.out; have h2 := HI.out.l3; have h3 := HI.out.l2; have h4 := HI.out.l1; have h5 := HI.out.gl; omega))
            clear hq6 hg6
            cases c with
            | true =>
              go_wp2_with fail
              go_roundw
              case rel => exact ⟨k + 1, M, fb, _, _, _, m, by go_num, rfl, by omega, HMM2.out, fun z hz => by rw [List.take_add_one]; exact List.mem_append_left _ (HSUB.out z hz), HMV.out, HI6.out⟩
              case measure => (first | (simp [intOf]; omega) | simp [intOf])
            | false =>
              have hfm := List.mem_of_getElem? HF.out
              have hnM : f ∉ M := fun hc => by
                obtain ⟨i, hi⟩ := List.mem_iff_getElem?.1 (HSUB.out f hc)
                have hik : i < k := by
                  have := (List.getElem?_eq_some_iff.1 hi).1
                  rw [List.length_take] at this
                  omega
                rw [List.getElem?_take, if_pos hik] at hi
                exact fl_ne HCK.out hi HF.out hik rfl
              obtain ⟨fc, hmo, hmv2⟩ := HMV.out.step HCK.out (fun z hz => (HMM.out z hz).1) (by have := HF7.out; omega) hfm hnM HOWN.out
              have hps := path_short f.1 HFP.out
              have hplt := path_lt f.1 HFP.out
              obtain ⟨S3, hS3⟩ : ∃ S, S = st (newN ++ f.1) := ⟨_, rfl⟩
              have hadd : ∀ w, (Op.stringOp .add ⟨#[110, 101, 119, 47]⟩ T1).run Tryz.prog w = .ok (.string S3) w := fun w => by rw [HT1.out, hS3]; exact new_add (by omega) w
              have HMC := Lib.hid (rMove_any (q := newN ++ f.1) HI6.out.rb hplt (Lt.append new_lt hplt))
              rw [hmo, ← HT1.out, ← hS3] at HMC
              have HMV2 := Lib.hid hmv2
              have x0 := HI6.out.bb.cell 0 rfl
              have y0 := HB6.out.cell 0 rfl; have y1 := HB6.out.cell 1 rfl
              clear hfm hnM hmo hmv2 hps hplt hS3
              go_wp2_with fail
              refine HMC.out.mono ?_
              rintro e w7 ⟨v7, rfl, hr7, hn7, hk7⟩
              obtain ⟨a7, l7, c7, hv7⟩ := hr7.form
              subst hv7
              obtain ⟨W8, hW8⟩ : ∃ W, W = w7.alloc (.cells #[.slice a7 l7 c7] 25) := ⟨_, rfl⟩
              have k8 : Kp w7 W8 := by rw [hW8]; exact kp_alloc _ _
              have hi8 := HI6.out.put (hk7.trans k8) (hr7.keep k8) hn7
              obtain ⟨p8, hp8⟩ : ∃ b, b = w7.heap.size := ⟨_, rfl⟩
              have b8 : Blk W8 p8 25 #[.slice a7 l7 c7] := by rw [hW8, hp8]; exact Blk.new _ _ _
              have bb8 := (HI6.out.bb.keep (hk7.trans k8))
              have x1 := b8.cell 0 rfl
              have x2 := bb8.free 0
              have x3 := bb8.cell 0 rfl
              rw [hW8] at x1 x2 x3
              rw [hp8] at x1
              have HI8 := Lib.hid hi8; have HW8 := Lib.hid hW8
              clear x0 y0 y1 hr7 hn7 hk7 hW8 k8 hi8 hp8 b8 bb8
              go_wp2_with fail
              rw [← HW8.out]
              go_roundw
              case rel => exact ⟨k + 1, M ++ [f], fc, _, _, _, m + 1, by go_num, by go_num, by omega, by rw [List.length_append, ← HMM2.out]; rfl, fun z hz => by
                rw [List.take_add_one, HF.out]
                rcases List.mem_append.1 hz with hz | hz
                · exact List.mem_append_left _ (HSUB.out z hz)
                · exact List.mem_append_right _ (by simpa using hz), HMV2.out, HI8.out⟩
              case measure => (first | (simp [intOf]; omega) | simp [intOf])
    · have j1 : (n : Int) ≤ (k : Int) := by omega
      have j1' : decide (k < n) = false := decide_eq_false hkn
      obtain ⟨D, hD⟩ : ∃ D, D = difL fa fb := ⟨_, rfl⟩
      obtain ⟨hdl, hdx⟩ := HMV.out.dif HCK.out (fun z hz => (HMM.out z hz).1)
      have hold : ∀ x ∈ difL fa fb, x.2.2.1.length ≤ 100 := fun x hx => by
        rcases (dif_ok HCK.out HMV.out.chk).el x hx with ⟨h1, -⟩ | ⟨h1, -⟩ | ⟨-, -, -, y, -, h5, -⟩ | ⟨h1, -⟩
        · have := (hdx x hx).1; omega
        · have := (hdx x hx).1; omega
        · exact path_short _ (HMM.out _ h5).1
        · have := (hdx x hx).1; omega
      rw [← hD] at hdl hdx hold
      have HOL := Lib.hid hold
      have hmd : m = D.length := by rw [hdl, HMM2.out]
      have HDF := Lib.hid (HDI.out wy _ _ fa fb (HM2.out wy hI.tq.base) hI.ra hI.rb)
      rw [difE_ok HCK.out HMV.out.chk, difA_ok HCK.out HMV.out.chk, ← hD] at HDF
      have HDX := Lib.hid hdx; have HMD := Lib.hid hmd
      have HKY : Hid (Kp w wy) := Lib.hid hI.tq.base
      have x0 := hI.ba.cell 0 rfl; have x1 := hI.bb.cell 0 rfl
      clear hI hD hdl hdx hold hmd hk hkn HSUB HMM2
      go_wp2_with fail
      refine HDF.out.mono ?_
      rintro e w7 ⟨u7, rfl, hu7, -, hk7⟩
      obtain ⟨a7, c7, hv7, hc7, hm7, -⟩ := hu7.open3
      simp only at hu7 hv7 hc7
      rw [← HMD.out] at hv7 hc7
      subst hv7
      have HU7 := Lib.hid hu7; have K7 := Lib.hid (HKY.out.trans hk7)
      have i3 : (m : Int) ≤ (c7 : Int) := by omega
      have i4 : (m : Int) ≤ (7 : Int) := by omega
      have q0 : ((m : Int) != (m : Int)) = false := by simp
      clear hu7 hk7 hc7 hm7 x0 x1
      go_wp2_with fail
      go_loopw [91] (fun i wr => ∃ (j : Nat), i = .int .i64 (j : Nat) ∧ j ≤ m ∧ Kp w7 wr) (fun i _ => m - (intOf i).toNat)
      case atStart => exact ⟨0, rfl, Nat.zero_le _, Kp.refl _⟩
      case round =>
        obtain ⟨j, rfl, hj, hkj⟩ := hrel
        rename World => wj
        have HKJ := Lib.hid hkj
        by_cases hjm : j < m
        · obtain ⟨x, hx⟩ : ∃ x, D[j]? = some x := ⟨_, List.getElem?_eq_getElem (by have := HMD.out; omega)⟩
          obtain ⟨b, off, haa, hcell⟩ := (HU7.out.keep hkj).cell (by omega)
          subst haa
          obtain ⟨d0, d1, d2, d3⟩ := hcell j x hx
          have hxm := List.mem_of_getElem? hx
          obtain ⟨e4, e5⟩ := HDX.out x hxm
          have hok := HU7.out.ok x hxm
          rw [e4] at d0
          rw [e5] at d1
          obtain ⟨S1, hS1⟩ : ∃ S, S = st (newN ++ x.2.2.1) := ⟨_, rfl⟩
          have hlen := HOL.out x hxm
          obtain ⟨S2, hS2⟩ : ∃ S, S = st x.2.2.1 := ⟨_, rfl⟩
          obtain ⟨S4, hS4⟩ : ∃ S, S = st x.2.2.2 := ⟨_, rfl⟩
          have hadd : ∀ w, (Op.stringOp .add ⟨#[110, 101, 119, 47]⟩ S2).run Tryz.prog w = .ok (.string S1) w := fun w => by rw [hS2, hS1]; exact new_add (by omega) w
          rw [← hS1] at d1
          rw [← hS2] at d2
          rw [← hS4] at d3
          have q1 : (S1.toList == S1.toList) = true := beq_self_eq_true _
          obtain ⟨Wx, hWx⟩ : ∃ W, W = wj.alloc (.cells #[.int .i64 4, .string S1, .string S2, .string S4] 50) := ⟨_, rfl⟩
          have kx : Kp wj Wx := by rw [hWx]; exact kp_alloc _ _
          have HKX := Lib.hid (hkj.trans kx)
          have bx : Blk Wx wj.heap.size 50 #[.int .i64 4, .string S1, .string S2, .string S4] := by rw [hWx]; exact Blk.new _ _ _
          have x0 := bx.cell 0 rfl; have x1 := bx.cell 1 rfl; have x2 := bx.cell 2 rfl
          rw [hWx] at x0 x1 x2
          have HWx := Lib.hid hWx
          have j2 : (j : Int) < (m : Int) := by omega
          clear hcell hx hxm e4 e5 hok hS1 hlen hS2 hS4 hWx kx bx hkj hj
          go_wp2_with fail
          rw [← HWx.out]
          go_roundw
          case rel => exact ⟨j + 1, by go_num, by omega, HKX.out⟩
          case measure => (first | (simp [intOf]; omega) | simp [intOf])
        · have j2 : (m : Int) ≤ (j : Int) := by omega
          have j2' : decide (j < m) = false := decide_eq_false hjm
          have HA := Lib.hid (HAW.out wj (HM2.out wj (K7.out.trans hkj)))
          clear hkj hj hjm
          go_wp2_with fail
          refine HA.out.mono ?_
          rintro e w9 ⟨rfl, hk9⟩
          have K9 := Lib.hid ((K7.out.trans HKJ.out).trans hk9)
          clear hk9
          go_wp2_with fail
          go_ret
          exact ⟨rfl, K9.out⟩
theorem fdRenames_row (HDC : DiffC) (HAC : ApplyC) (HIC : InvertC) {w : World} (hm : MX w) {v : Value} {zs : List Int} (hs : SlI w v zs) : Calls Tryz.prog 7 #[v] w fun e w' => e = .returned (.bool true) ∧ Kp w w' := fdRenames_any HDC HAC HIC hs hm
end By
end Go.Proofs.YtfobogcccbddbaaGreatDoor
