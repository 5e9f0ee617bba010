/- The files that changed, and the files that a table lacks, as the program finds them. Conditions: both revisions are well-formed; the table has the files of the other one. -/
import Derived.Test.YtfobogcccbddbaaGreatDoorZan
import Derived.Test.YtfobogcccbddbaaGreatDoorZaa
import Derived.Test.YtfobogcccbddbaaGreatDoorZab
namespace Go.Proofs.YtfobogcccbddbaaGreatDoor
namespace FdN
open RevN
theorem chg_snoc {a b : List Fl} {k : Nat} {f : Fl} (h : b[k]? = some f) : chg a (b.take (k + 1)) = chg a (b.take k) ++ (if hasP a f.1 = true ∧ bytesAt a f.1 ≠ f.2 then [(3, f.1, [], f.2)] else []) := by
  unfold chg
  rw [List.take_add_one, h, List.filterMap_append]
  by_cases e : hasP a f.1 = true ∧ bytesAt a f.1 ≠ f.2
  · rw [if_pos e]; simp [e.1, e.2]
  · rw [if_neg e]
    simp only [Option.toList_some, List.filterMap_cons, if_neg e, List.filterMap_nil]
theorem chg_len (a b : List Fl) : (chg a b).length ≤ b.length := List.length_filterMap_le _ _
theorem gn_snoc {a b : List Fl} {k : Nat} {f : Fl} (h : a[k]? = some f) : gn (a.take (k + 1)) b = gn (a.take k) b ++ (if hasP b f.1 = true then [] else [f]) := by
  unfold gn
  rw [List.take_add_one, h, List.filter_append]
  cases e : hasP b f.1 <;> simp [e]
theorem gn_len (a b : List Fl) : (gn a b).length ≤ a.length := List.length_filter_le _ _
theorem sm2 {fs : List Fl} (h : chk fs = 0) {f : Fl} (hf : f ∈ fs) : f.1.length ≤ 140737488355328 ∧ f.2.length ≤ 140737488355328 := by
  obtain ⟨h1, h2⟩ := chkL_mem (chk_ok h).2 f hf
  have := path_len h1
  omega
end FdN
namespace By
open Go.RowKit WireN LexN RevN FdN
set_option linter.unusedVariables false
set_option linter.unusedSimpArgs false

theorem chok2 {k : Int} {p o y : List Nat} (hk : -9223372036854775808 ≤ k ∧ k ≤ 9223372036854775807) (h1 : Lt p) (h2 : Lt o) (h3 : Lt y) (h4 : p.length ≤ 140737488355328) (h5 : o.length ≤ 140737488355328) (h6 : y.length ≤ 140737488355328) : ChOk (k, p, o, y) := ⟨hk, ⟨h1, h2, h3⟩, h4, h5, h6⟩
set_option maxRecDepth 100000 in
set_option maxHeartbeats 8000000 in
/-- changed -/
theorem changed_any {w : World} {v : Value} {a b : List Fl} {mb nn : Nat} (hb : Rw w v b) (hca : chk a = 0) (hcb : chk b = 0) (hla : ∀ f ∈ a, Lt f.2) (hm : TM w mb nn (fm0 a)) :
    Calls Tryz.prog 26 #[.agg #[v], .map (some mb)] w fun e w' => ∃ u, e = .returned u ∧ OwC w w' u (chg a b) := by
  obtain ⟨Q, hQ⟩ : ∃ Q : Ending → World → Prop, Q = fun e w' => ∃ u, e = .returned u ∧ OwC w w' u (chg a b) := ⟨_, rfl⟩
  rw [← hQ]
  have FIN : Hid (∀ (w' : World) (u : Value), OwC w w' u (chg a b) → Q (.returned u) w') := Lib.hid (by
    intro w' u h1
    rw [hQ]
    exact ⟨u, rfl, h1⟩)
  obtain ⟨W, hW⟩ : ∃ W, W = w.alloc (.cells #[v] 25) := ⟨_, rfl⟩
  have hk0 : Kp w W := by rw [hW]; exact kp_alloc _ _
  have b0 : Blk W w.heap.size 25 #[v] := by rw [hW]; exact Blk.new _ _ _
  obtain ⟨ao, cap, rfl, hcap, -, -⟩ := hb.open3
  obtain ⟨n, hn⟩ : ∃ n, n = b.length := ⟨_, rfl⟩
  rw [← hn] at hcap b0 hW hb ⊢
  have c0 := b0.cell 0 rfl
  have HB := Lib.hid hb; have HN := Lib.hid hn; have HM := Lib.hid hm; have HK0 := Lib.hid hk0; have HW := Lib.hid hW
  have HCA := Lib.hid hca; have HCB := Lib.hid hcb; have HLA := Lib.hid hla
  have i1 : (n : Int) ≤ (cap : Int) := by omega
  have i2 : (n : Int) ≤ 64 := by have := (chk_ok hcb).1; omega
  have HO0 : Hid (OwC w W (.slice none 0 0) []) := Lib.hid ((OwC.start w).keep hk0)
  rw [hW] at c0
  clear hb hk0 b0 hcap hQ hn hW hca hcb hla hm
  go_enter Tryz.func26, Tryz.ntmps26
  go_wp2_with fail
  rw [← HW.out]
  clear c0
  go_loopw [4, 12] (fun gv iv wy => ∃ (k : Nat) (u : Value), k ≤ n ∧ iv = .int .i64 k ∧ gv = u ∧ OwC w wy u (chg a (b.take k))) (fun _ iv _ => n - (intOf iv).toNat)
  case atStart => exact ⟨0, _, Nat.zero_le _, rfl, rfl, HO0.out⟩
  case round =>
    obtain ⟨k, u, hk, rfl, rfl, ho⟩ := hrel
    have HO := Lib.hid ho
    obtain ⟨⟨u1, u2, u3, rfl⟩, -⟩ := row_form ho.owns
    clear ho
    rename World => wy
    by_cases hil : k < n
    · obtain ⟨f, hf⟩ : ∃ f, b[k]? = some f := ⟨_, List.getElem?_eq_getElem (by have := HN.out; omega)⟩
      have hmem := List.mem_of_getElem? hf
      obtain ⟨g, o, rfl, hcell⟩ := (HB.out.keep HO.out.kp).cell (by omega)
      obtain ⟨d0, d1⟩ := hcell k f hf
      have j1 : (k : Int) < (n : Int) := by omega
      have HFO : Hid ((Lt f.1 ∧ Lt f.2) ∧ (f.1.length ≤ maxLen ∧ f.2.length ≤ maxLen)) := Lib.hid ⟨HB.out.lt f hmem, HB.out.sm f hmem⟩
      have HCO : Hid (ChOk (3, f.1, [], f.2)) := Lib.hid (chok2 (by decide) HFO.out.1.1 Lt.nil HFO.out.1.2 (sm2 HCB.out hmem).1 (by simp) (sm2 HCB.out hmem).2)
      obtain ⟨F1, hF1⟩ : ∃ S, S = st f.1 := ⟨_, rfl⟩
      obtain ⟨F2, hF2⟩ : ∃ S, S = st f.2 := ⟨_, rfl⟩
      obtain ⟨Z, hZ⟩ : ∃ S, S = st ((fm0 a f.1).getD []) := ⟨_, rfl⟩
      rw [← hF1] at d0
      rw [← hF2] at d1
      obtain ⟨W3, hW3⟩ : ∃ W, W = wy.alloc (.cells #[.string F1, .string F2] 53) := ⟨_, rfl⟩
      have hk3 : Kp wy W3 := by rw [hW3]; exact kp_alloc _ _
      have q0 := (HM.out.keep (HO.out.kp.trans hk3)).get2 HFO.out.1.1 HFO.out.2.1
      rw [fm0_is, ← hF1, ← hZ, hW3] at q0
      have HST := Lib.hid (chg_snoc (a := a) hf)
      have HLN : Hid ((chg a (b.take k)).length ≤ 1000000) := Lib.hid (by have := chg_len a (b.take k); have := List.length_take_le k b; have := HN.out; omega)
      have HF1 := Lib.hid hF1; have HF2 := Lib.hid hF2
      have HK3 := Lib.hid hk3; have HW3 := Lib.hid hW3
      by_cases hh : hasP a f.1 = true
      · obtain ⟨f0, hf0, he0⟩ := (hasP_iff HCA.out).1 hh
        have hz2 : (fm0 a f.1).getD [] = bytesAt a f.1 := by unfold fm0; rw [if_pos hh]; rfl
        have q5 : (Z.toList == F2.toList) = decide (bytesAt a f.1 = f.2) := by
          rw [hZ, hF2, hz2]
          exact st_inj' (by rw [← he0, bytesAt_eq HCA.out hf0]; exact HLA.out f0 hf0) HFO.out.1.2
        rw [hh] at q0
        by_cases hq : bytesAt a f.1 = f.2
        · rw [decide_eq_true hq] at q5
          have HX : Hid (OwC w W3 (.slice u1 u2 u3) (chg a (b.take (k + 1)))) := Lib.hid (by
            rw [HST.out, if_neg (fun h => h.2 hq), List.append_nil]
            exact HO.out.keep HK3.out)
          clear hcell hf hmem hF1 hF2 hZ hz2 hf0 he0 hq hh hk3 hW3
          go_wp2_with fail
          rw [← HW3.out]
          go_roundw
          case rel => exact ⟨k + 1, _, by omega, vint (by omega), rfl, HX.out⟩
          case measure => simp [intOf]; omega
        · rw [decide_eq_false hq] at q5
          obtain ⟨W4, hW4⟩ : ∃ W, W = W3.alloc (.cells #[.int .i64 3, .string F1, .string ⟨#[]⟩, .string F2] 50) := ⟨_, rfl⟩
          have HNB : Hid (Blk W4 (wy.heap.size + 1) 50 #[.int .i64 3, .string (st f.1), .string (st []), .string (st f.2)]) := Lib.hid (by
            have := Blk.new W3 50 #[.int .i64 3, .string F1, .string ⟨#[]⟩, .string F2]
            rw [← hW4] at this
            rw [← hF1, ← hF2]
            have e : W3.heap.size = wy.heap.size + 1 := by rw [hW3]; simp
            rw [← e]
            exact this)
          have HO4 : Hid (OwC w W4 (.slice u1 u2 u3) (chg a (b.take k))) := Lib.hid (by rw [hW4]; exact (HO.out.keep HK3.out).keep (kp_alloc _ _))
          rw [hW3] at hW4
          rw [hW4] at HNB HO4
          clear hcell hf hmem hF1 hF2 hZ hz2 hf0 he0 hk3 hW3 hW4
          go_wp2_with (at_builtin; refine wpList_ch (w := w) rfl (.tmp 30) (.tmp 36) rfl _ rfl HO4.out HLN.out (3, f.1, [], f.2) HCO.out (wy.heap.size + 1) rfl HNB.out ?_)
          intro v5 w5 ho5 hg5 hv5
          clear hg5 hv5
          have HX : Hid (OwC w w5 v5 (chg a (b.take (k + 1)))) := Lib.hid (by
            rw [HST.out, if_pos ⟨hh, hq⟩]
            exact ho5)
          clear ho5 hq hh
          go_wp2_with fail
          go_roundw
          case rel => exact ⟨k + 1, _, by omega, vint (by omega), rfl, HX.out⟩
          case measure => simp [intOf]; omega
      · have hh' : hasP a f.1 = false := by simpa using hh
        rw [hh'] at q0
        have HX : Hid (OwC w W3 (.slice u1 u2 u3) (chg a (b.take (k + 1)))) := Lib.hid (by
          rw [HST.out, if_neg (fun h => hh h.1), List.append_nil]
          exact HO.out.keep HK3.out)
        clear hcell hf hmem hF1 hF2 hZ hh hh' hk3 hW3
        go_wp2_with fail
        rw [← HW3.out]
        go_roundw
        case rel => exact ⟨k + 1, _, by omega, vint (by omega), rfl, HX.out⟩
        case measure => simp [intOf]; omega
    · have HF : Hid (OwC w wy (.slice u1 u2 u3) (chg a b)) := Lib.hid (by
        have h := HO.out
        obtain rfl : k = n := by omega
        rwa [List.take_of_length_le (by have := HN.out; omega)] at h)
      go_wp2_with fail
      exact FIN.out _ _ HF.out
set_option maxRecDepth 100000 in
set_option maxHeartbeats 8000000 in
/-- without -/
theorem withoutF_any {w : World} {v : Value} {a b : List Fl} {mb nn : Nat} (ha : Rw w v a) (hl : a.length ≤ 1000) (hm : TM w mb nn (fm0 b)) :
    Calls Tryz.prog 28 #[.agg #[v], .map (some mb)] w fun e w' => ∃ u, e = .returned u ∧ OwF w w' u (gn a b) := by
  obtain ⟨Q, hQ⟩ : ∃ Q : Ending → World → Prop, Q = fun e w' => ∃ u, e = .returned u ∧ OwF w w' u (gn a b) := ⟨_, rfl⟩
  rw [← hQ]
  have FIN : Hid (∀ (w' : World) (u : Value), OwF w w' u (gn a b) → Q (.returned u) w') := Lib.hid (by
    intro w' u h1
    rw [hQ]
    exact ⟨u, rfl, h1⟩)
  obtain ⟨W, hW⟩ : ∃ W, W = w.alloc (.cells #[v] 25) := ⟨_, rfl⟩
  have hk0 : Kp w W := by rw [hW]; exact kp_alloc _ _
  have b0 : Blk W w.heap.size 25 #[v] := by rw [hW]; exact Blk.new _ _ _
  obtain ⟨ao, cap, rfl, hcap, -, -⟩ := ha.open3
  obtain ⟨n, hn⟩ : ∃ n, n = a.length := ⟨_, rfl⟩
  rw [← hn] at hcap b0 hW ha hl ⊢
  have c0 := b0.cell 0 rfl
  have HA := Lib.hid ha; have HN := Lib.hid hn; have HM := Lib.hid hm; have HK0 := Lib.hid hk0; have HW := Lib.hid hW
  have i1 : (n : Int) ≤ (cap : Int) := by omega
  have i2 : (n : Int) ≤ 1000 := by omega
  have HO0 : Hid (OwF w W (.slice none 0 0) []) := Lib.hid ((OwF.start w).keep hk0)
  rw [hW] at c0
  clear ha hk0 b0 hcap hQ hn hW hm hl
  go_enter Tryz.func28, Tryz.ntmps28
  go_wp2_with fail
  rw [← HW.out]
  clear c0
  go_loopw [4, 12] (fun gv iv wy => ∃ (k : Nat) (u : Value), k ≤ n ∧ iv = .int .i64 k ∧ gv = u ∧ OwF w wy u (gn (a.take k) b)) (fun _ iv _ => n - (intOf iv).toNat)
  case atStart => exact ⟨0, _, Nat.zero_le _, rfl, rfl, HO0.out⟩
  case round =>
    obtain ⟨k, u, hk, rfl, rfl, ho⟩ := hrel
    have HO := Lib.hid ho
    obtain ⟨⟨u1, u2, u3, rfl⟩, -⟩ := row_form ho.owns
    clear ho
    rename World => wy
    by_cases hil : k < n
    · obtain ⟨f, hf⟩ : ∃ f, a[k]? = some f := ⟨_, List.getElem?_eq_getElem (by have := HN.out; omega)⟩
      have hmem := List.mem_of_getElem? hf
      obtain ⟨g, o, rfl, hcell⟩ := (HA.out.keep HO.out.kp).cell (by omega)
      obtain ⟨d0, d1⟩ := hcell k f hf
      have j1 : (k : Int) < (n : Int) := by omega
      have HFO : Hid ((Lt f.1 ∧ Lt f.2) ∧ (f.1.length ≤ maxLen ∧ f.2.length ≤ maxLen)) := Lib.hid ⟨HA.out.lt f hmem, HA.out.sm f hmem⟩
      obtain ⟨F1, hF1⟩ : ∃ S, S = st f.1 := ⟨_, rfl⟩
      obtain ⟨F2, hF2⟩ : ∃ S, S = st f.2 := ⟨_, rfl⟩
      obtain ⟨Z, hZ⟩ : ∃ S, S = st ((fm0 b f.1).getD []) := ⟨_, rfl⟩
      rw [← hF1] at d0
      rw [← hF2] at d1
      obtain ⟨W3, hW3⟩ : ∃ W, W = wy.alloc (.cells #[.string F1, .string F2] 53) := ⟨_, rfl⟩
      have hk3 : Kp wy W3 := by rw [hW3]; exact kp_alloc _ _
      have q0 := (HM.out.keep (HO.out.kp.trans hk3)).get2 HFO.out.1.1 HFO.out.2.1
      rw [fm0_is, ← hF1, ← hZ, hW3] at q0
      have HST := Lib.hid (gn_snoc (b := b) hf)
      have HLN : Hid ((gn (a.take k) b).length ≤ 1000000) := Lib.hid (by have := gn_len (a.take k) b; have := List.length_take_le k a; have := HN.out; omega)
      have HF1 := Lib.hid hF1; have HF2 := Lib.hid hF2
      have HK3 := Lib.hid hk3; have HW3 := Lib.hid hW3
      by_cases hh : hasP b f.1 = true
      · rw [hh] at q0
        have HX : Hid (OwF w W3 (.slice u1 u2 u3) (gn (a.take (k + 1)) b)) := Lib.hid (by
          rw [HST.out, if_pos hh, List.append_nil]
          exact HO.out.keep HK3.out)
        clear hcell hf hmem hF1 hF2 hZ hh hk3 hW3
        go_wp2_with fail
        rw [← HW3.out]
        go_roundw
        case rel => exact ⟨k + 1, _, by omega, vint (by omega), rfl, HX.out⟩
        case measure => simp [intOf]; omega
      · have hh' : hasP b f.1 = false := by simpa using hh
        rw [hh'] at q0
        obtain ⟨W4, hW4⟩ : ∃ W, W = W3.alloc (.cells #[.string F1, .string F2] 53) := ⟨_, rfl⟩
        have HNB : Hid (Blk W4 (wy.heap.size + 1) 53 #[.string (st f.1), .string (st f.2)]) := Lib.hid (by
          have := Blk.new W3 53 #[.string F1, .string F2]
          rw [← hW4] at this
          rw [← hF1, ← hF2]
          have e : W3.heap.size = wy.heap.size + 1 := by rw [hW3]; simp
          rw [← e]
          exact this)
        have HO4 : Hid (OwF w W4 (.slice u1 u2 u3) (gn (a.take k) b)) := Lib.hid (by rw [hW4]; exact (HO.out.keep HK3.out).keep (kp_alloc _ _))
        rw [hW3] at hW4
        rw [hW4] at HNB HO4
        clear hcell hf hmem hF1 hF2 hZ hk3 hW3 hW4
        go_wp2_with (at_builtin; refine wpList_fl (w := w) rfl (.tmp 25) (.tmp 27) rfl _ rfl HO4.out HLN.out f HFO.out (wy.heap.size + 1) rfl HNB.out ?_)
        intro v5 w5 ho5 hg5 hv5
        clear hg5 hv5
        have HX : Hid (OwF w w5 v5 (gn (a.take (k + 1)) b)) := Lib.hid (by
          rw [HST.out, if_neg hh]
          exact ho5)
        clear ho5 hh hh'
        go_wp2_with fail
        go_roundw
        case rel => exact ⟨k + 1, _, by omega, vint (by omega), rfl, HX.out⟩
        case measure => simp [intOf]; omega
    · have HF : Hid (OwF w wy (.slice u1 u2 u3) (gn a b)) := Lib.hid (by
        have h := HO.out
        obtain rfl : k = n := by omega
        rwa [List.take_of_length_le (by have := HN.out; omega)] at h)
      go_wp2_with fail
      exact FIN.out _ _ HF.out
end By
end Go.Proofs.YtfobogcccbddbaaGreatDoor

/- Stores of texts, plain: the number of a text, the errors of a store, and what is put in, merged and kept. -/
namespace Go.Proofs.YtfobogcccbddbaaGreatDoor
namespace CtN
abbrev Tx := List Nat
/-- The number of a text; the length where it is none. -/
def fnd (x : Tx) : List Tx → Nat
  | [] => 0
  | y :: l => if y = x then 0 else fnd x l + 1
theorem fnd_le (x : Tx) : ∀ l : List Tx, fnd x l ≤ l.length
  | [] => Nat.le_refl _
  | y :: l => by
    have := fnd_le x l
    unfold fnd
    split
    · simp
    · simp; omega
theorem fnd_lt {x : Tx} : ∀ {l : List Tx}, x ∈ l → fnd x l < l.length
  | [], h => by simp at h
  | y :: l, h => by
    unfold fnd
    split
    · simp
    · next hn =>
      have hm : x ∈ l := by
        rcases List.mem_cons.1 h with e | hm
        · exact absurd e.symm hn
        · exact hm
      have := fnd_lt hm
      simp; omega
theorem fnd_at {x : Tx} : ∀ {l : List Tx}, x ∈ l → l[fnd x l]? = some x
  | [], h => by simp at h
  | y :: l, h => by
    unfold fnd
    split
    · next he => subst he; rfl
    · next hn =>
      have hm : x ∈ l := by
        rcases List.mem_cons.1 h with e | hm
        · exact absurd e.symm hn
        · exact hm
      simpa using fnd_at hm
theorem fnd_not {x : Tx} : ∀ {l : List Tx}, x ∉ l → fnd x l = l.length
  | [], _ => rfl
  | y :: l, h => by
    have h1 : y ≠ x := fun e => h (by rw [e]; exact List.mem_cons_self)
    have h2 : x ∉ l := fun e => h (List.mem_cons_of_mem _ e)
    unfold fnd
    rw [if_neg h1, fnd_not h2]
    rfl
theorem fnd_snoc {x : Tx} : ∀ {l : List Tx}, x ∉ l → fnd x (l ++ [x]) = l.length
  | [], _ => by simp [fnd]
  | y :: l, h => by
    have h1 : y ≠ x := fun e => h (by rw [e]; exact List.mem_cons_self)
    have h2 : x ∉ l := fun e => h (List.mem_cons_of_mem _ e)
    show fnd x (y :: (l ++ [x])) = _
    unfold fnd
    rw [if_neg h1, fnd_snoc h2]
    rfl
/-- The number is the first place where the text stands: what a loop from the front finds. -/
theorem fnd_first {x : Tx} : ∀ {l : List Tx} {k : Nat}, l[k]? = some x → (∀ j, j < k → l[j]? ≠ some x) → fnd x l = k
  | [], k, h, _ => by simp at h
  | y :: l, 0, h, _ => by
    obtain rfl : y = x := by simpa using h
    simp [fnd]
  | y :: l, k + 1, h, hn => by
    have h1 : y ≠ x := fun e => hn 0 (by omega) (by simp [e])
    unfold fnd
    rw [if_neg h1, fnd_first (k := k) (by simpa using h) (fun j hj => by have := hn (j + 1) (by omega); simpa using this)]
theorem not_mem_of {x : Tx} {l : List Tx} (h : ∀ j, j < l.length → l[j]? ≠ some x) : x ∉ l := fun hm => by
  obtain ⟨j, hj, e⟩ := List.getElem_of_mem hm
  exact h j hj (by rw [List.getElem?_eq_getElem hj, e])
/-- In a store whose texts differ, a text stands in one place. -/
theorem fnd_nodup {l : List Tx} (hd : l.Nodup) {k : Nat} {x : Tx} (h : l[k]? = some x) : fnd x l = k := by
  refine fnd_first h fun j hj e => ?_
  obtain ⟨hk, ek⟩ := List.getElem?_eq_some_iff.1 h
  obtain ⟨hj2, ej⟩ := List.getElem?_eq_some_iff.1 e
  have := (List.nodup_iff_pairwise_ne.1 hd)
  exact (List.pairwise_iff_getElem.1 this j k hj2 hk hj) (by rw [ek, ej])
/-- The error of a store. -/
def err (l : List Tx) : Nat := if 4096 < l.length then 2 else if l.Nodup then 0 else 10
theorem err_ok {l : List Tx} : err l = 0 ↔ l.length ≤ 4096 ∧ l.Nodup := by
  unfold err
  by_cases h : 4096 < l.length
  · rw [if_pos h]; constructor
    · intro e; omega
    · rintro ⟨h1, _⟩; omega
  · rw [if_neg h]
    by_cases h2 : l.Nodup
    · rw [if_pos h2]; exact ⟨fun _ => ⟨by omega, h2⟩, fun _ => rfl⟩
    · rw [if_neg h2]; exact ⟨fun e => by omega, fun e => absurd e.2 h2⟩
/-- A text is put in. -/
def add (l : List Tx) (x : Tx) : List Tx := if x ∈ l then l else l ++ [x]
theorem add_in {l : List Tx} {x : Tx} (h : x ∈ l) : add l x = l := if_pos h
theorem add_new {l : List Tx} {x : Tx} (h : x ∉ l) : add l x = l ++ [x] := if_neg h
theorem add_mem (l : List Tx) (x : Tx) : x ∈ add l x := by
  unfold add; split
  · assumption
  · simp
theorem add_sub {l : List Tx} {x y : Tx} (h : y ∈ l) : y ∈ add l x := by
  unfold add; split
  · exact h
  · exact List.mem_append_left _ h
theorem add_len (l : List Tx) (x : Tx) : l.length ≤ (add l x).length ∧ (add l x).length ≤ l.length + 1 := by
  unfold add; split <;> simp
theorem add_nodup {l : List Tx} {x : Tx} (h : l.Nodup) : (add l x).Nodup := by
  unfold add; split
  · exact h
  · next hn =>
    rw [List.nodup_append]
    refine ⟨h, by simp, fun a ha b hb e => ?_⟩
    obtain rfl : b = x := by simpa using hb
    exact hn (e ▸ ha)
theorem add_take (l : List Tx) (x : Tx) : (add l x).take l.length = l := by
  unfold add; split
  · exact List.take_length
  · simp
theorem add_at {l : List Tx} {x : Tx} {j : Nat} {y : Tx} (h : l[j]? = some y) : (add l x)[j]? = some y := by
  unfold add; split
  · exact h
  · rw [List.getElem?_append_left (List.getElem?_eq_some_iff.1 h).1]; exact h
/-- The texts of the second are put into the first; the numbers of the second. -/
def mrg : List Tx → List Tx → List Tx × List Nat
  | a, [] => (a, [])
  | a, x :: b => ((mrg (add a x) b).1, fnd x (add a x) :: (mrg (add a x) b).2)
theorem mrg_snoc : ∀ (b a : List Tx) (x : Tx), mrg a (b ++ [x]) = (add (mrg a b).1 x, (mrg a b).2 ++ [fnd x (add (mrg a b).1 x)])
  | [], a, x => rfl
  | y :: b, a, x => by
    show ((mrg (add a y) (b ++ [x])).1, fnd y (add a y) :: (mrg (add a y) (b ++ [x])).2) = _
    rw [mrg_snoc b (add a y) x]
    rfl
theorem mrg_len : ∀ (b a : List Tx), (mrg a b).2.length = b.length ∧ a.length ≤ (mrg a b).1.length ∧ (mrg a b).1.length ≤ a.length + b.length
  | [], a => ⟨rfl, Nat.le_refl _, Nat.le_refl _⟩
  | x :: b, a => by
    have h := mrg_len b (add a x)
    have h2 := add_len a x
    refine ⟨?_, ?_, ?_⟩
    · show (mrg (add a x) b).2.length + 1 = b.length + 1
      rw [h.1]
    · exact Nat.le_trans h2.1 h.2.1
    · show (mrg (add a x) b).1.length ≤ a.length + (b.length + 1)
      have := h.2.2
      omega
theorem mrg_nodup : ∀ (b a : List Tx), a.Nodup → (mrg a b).1.Nodup
  | [], _, h => h
  | x :: b, a, h => mrg_nodup b (add a x) (add_nodup h)
theorem mrg_at : ∀ (b a : List Tx) {j : Nat} {y : Tx}, a[j]? = some y → (mrg a b).1[j]? = some y
  | [], _, _, _, h => h
  | x :: b, a, _, _, h => mrg_at b (add a x) (add_at h)
theorem mrg_take (b a : List Tx) : (mrg a b).1.take a.length = a := by
  refine List.ext_getElem? fun j => ?_
  rw [List.getElem?_take]
  split
  · next hj =>
    rw [List.getElem?_eq_getElem hj]
    exact mrg_at b a (List.getElem?_eq_getElem hj)
  · next hj => exact (List.getElem?_eq_none (by omega)).symm
/-- A number of the second leads to its text. -/
theorem mrg_get : ∀ (b a : List Tx) {i k : Nat}, (mrg a b).2[i]? = some k → ∃ y, b[i]? = some y ∧ (mrg a b).1[k]? = some y
  | [], _, _, _, h => by simp [mrg] at h
  | x :: b, a, 0, k, h => by
    obtain rfl : fnd x (add a x) = k := by simpa [mrg] using h
    exact ⟨x, rfl, mrg_at b (add a x) (fnd_at (add_mem a x))⟩
  | x :: b, a, i + 1, k, h => by
    obtain ⟨y, h1, h2⟩ := mrg_get b (add a x) (i := i) (k := k) (by simpa [mrg] using h)
    exact ⟨y, by simpa using h1, h2⟩
/-- Texts whose numbers are used, with the new numbers: from the index i on, c texts are kept so far. -/
def kps (u : List Int) : List Tx → Nat → Nat → List Tx × List Int
  | [], _, _ => ([], [])
  | t :: s, i, c => if (i : Int) ∈ u then (t :: (kps u s (i + 1) (c + 1)).1, (c : Int) :: (kps u s (i + 1) (c + 1)).2) else ((kps u s (i + 1) c).1, -1 :: (kps u s (i + 1) c).2)
/-- The error of Keep behind Check. -/
def kerr (n : Nat) (u : List Int) : Nat := if ∀ x ∈ u, 0 ≤ x ∧ x < n then 0 else 20
theorem kps_len (u : List Int) : ∀ (s : List Tx) (i c : Nat), (kps u s i c).2.length = s.length ∧ (kps u s i c).1.length ≤ s.length
  | [], _, _ => ⟨rfl, Nat.le_refl _⟩
  | t :: s, i, c => by
    have h1 := kps_len u s (i + 1) (c + 1)
    have h2 := kps_len u s (i + 1) c
    unfold kps
    split
    · simp only [List.length_cons]; omega
    · simp only [List.length_cons]; omega
theorem kps_snoc (u : List Int) (t : Tx) : ∀ (s : List Tx) (i c : Nat), kps u (s ++ [t]) i c =
    if ((i + s.length : Nat) : Int) ∈ u then ((kps u s i c).1 ++ [t], (kps u s i c).2 ++ [((c + (kps u s i c).1.length : Nat) : Int)]) else ((kps u s i c).1, (kps u s i c).2 ++ [-1])
  | [], i, c => by
    show kps u [t] i c = _
    simp only [kps, List.length_nil, Nat.add_zero, List.nil_append]
  | x :: s, i, c => by
    have h1 := kps_snoc u t s (i + 1) (c + 1)
    have h2 := kps_snoc u t s (i + 1) c
    have e : i + (x :: s).length = i + 1 + s.length := by simp; omega
    rw [e]
    show kps u (x :: (s ++ [t])) i c = _
    unfold kps
    by_cases hm : (i : Int) ∈ u
    · rw [if_pos hm, if_pos hm, h1]
      by_cases hk : ((i + 1 + s.length : Nat) : Int) ∈ u
      · rw [if_pos hk, if_pos hk]
        simp only [List.cons_append, List.length_cons]
        rw [show c + 1 + (kps u s (i + 1) (c + 1)).1.length = c + ((kps u s (i + 1) (c + 1)).1.length + 1) by omega]
      · rw [if_neg hk, if_neg hk]
        rfl
    · rw [if_neg hm, if_neg hm, h2]
      by_cases hk : ((i + 1 + s.length : Nat) : Int) ∈ u
      · rw [if_pos hk, if_pos hk]; rfl
      · rw [if_neg hk, if_neg hk]; rfl
/-- What a new number says. -/
theorem kps_get (u : List Int) : ∀ (s : List Tx) (i c j : Nat) (x : Int), (kps u s i c).2[j]? = some x →
    (((i + j : Nat) : Int) ∈ u ∧ ∃ k : Nat, x = ((c + k : Nat) : Int) ∧ ∃ t, s[j]? = some t ∧ (kps u s i c).1[k]? = some t) ∨ (((i + j : Nat) : Int) ∉ u ∧ x = -1)
  | [], _, _, _, _, h => by simp [kps] at h
  | t :: s, i, c, 0, x, h => by
    unfold kps at h ⊢
    by_cases hm : (i : Int) ∈ u
    · rw [if_pos hm] at h ⊢
      obtain rfl : (c : Int) = x := by simpa using h
      exact .inl ⟨hm, 0, rfl, t, rfl, rfl⟩
    · rw [if_neg hm] at h ⊢
      obtain rfl : (-1 : Int) = x := by simpa using h
      exact .inr ⟨hm, rfl⟩
  | t :: s, i, c, j + 1, x, h => by
    have e : i + (j + 1) = i + 1 + j := by omega
    rw [e]
    unfold kps at h ⊢
    by_cases hm : (i : Int) ∈ u
    · rw [if_pos hm] at h ⊢
      rcases kps_get u s (i + 1) (c + 1) j x (by simpa using h) with ⟨h1, k, h2, y, h3, h4⟩ | h1
      · refine .inl ⟨h1, k + 1, by rw [h2, show c + 1 + k = c + (k + 1) by omega], y, by simpa using h3, by simpa using h4⟩
      · exact .inr h1
    · rw [if_neg hm] at h ⊢
      rcases kps_get u s (i + 1) c j x (by simpa using h) with ⟨h1, k, h2, y, h3, h4⟩ | h1
      · exact .inl ⟨h1, k, h2, y, by simpa using h3, h4⟩
      · exact .inr h1
end CtN
end Go.Proofs.YtfobogcccbddbaaGreatDoor

/- Texts in memory: slices that read as texts, and rows of texts of one's own. No condition. -/
namespace Go.Proofs.YtfobogcccbddbaaGreatDoor
namespace By
open Go.RowKit WireN CtN
set_option linter.unusedVariables false
set_option linter.unusedSimpArgs false

theorem row_frc {W : World} {base : Nat} {e : TypeId} {size : Nat} {v : Value} {n : Nat} {cs : List Value} (h : W.ownsRow base e size v n cs) : (∃ ao l c, v = .slice ao l c) ∧ ∀ g, v.ownBlock = some g → base ≤ g ∧ g < W.heap.size := by
  refine ⟨?_, fun g hg => h.lt g hg⟩
  rcases h.2 with ⟨rfl, _⟩ | ⟨g', cap', cur, rfl, _⟩
  · exact ⟨_, _, _, rfl⟩
  · exact ⟨_, _, _, rfl⟩
theorem st_injc {xs ys : List Nat} (hx : Lt xs) (hy : Lt ys) : st xs = st ys ↔ xs = ys := by
  constructor
  · intro h
    rw [← bs_st hx, ← bs_st hy, h]
  · intro h; rw [h]
theorem st_eqc {xs ys : List Nat} (hx : Lt xs) (hy : Lt ys) : ((st xs).toList == (st ys).toList) = decide (xs = ys) := by
  rw [Bool.eq_iff_iff, beq_iff_eq, decide_eq_true_eq]
  constructor
  · intro h
    rw [ByteArray.toList_eq, ByteArray.toList_eq] at h
    have h2 : st xs = st ys := by
      cases hx' : st xs; cases hy' : st ys
      rw [hx', hy'] at h
      simp only [ByteArray.mk.injEq]
      exact Array.toList_inj.1 h
    exact (st_injc hx hy).1 h2
  · intro h; rw [h]
/-- A text whose bytes are bytes, and that is not too long. -/
def TxOk (x : Tx) : Prop := Lt x ∧ x.length ≤ 140737488355328
/-- A slice value that reads as these texts. -/
def AtT (w : World) (ao : Option Addr) (ts : List Tx) : Prop :=
  ts = [] ∨ ∃ b off, ao = some ⟨b, off, none⟩ ∧ ∀ (j : Nat) (x : Tx), ts[j]? = some x → w.cell? ⟨b, off + j, none⟩ = some (.string (st x))
structure Tw (w : World) (v : Value) (ts : List Tx) : Prop where
  ex : ∃ ao cap, v = .slice ao ts.length cap ∧ ts.length ≤ cap ∧ cap ≤ maxLen ∧ AtT w ao ts ∧ (ao = none → cap = 0)
  ok : ∀ x ∈ ts, TxOk x
theorem AtT.keep {w w' : World} {ao : Option Addr} {ts : List Tx} (h : AtT w ao ts) (hk : Kp w w') : AtT w' ao ts := by
  rcases h with rfl | ⟨b, off, rfl, h⟩
  · exact .inl rfl
  · exact .inr ⟨b, off, rfl, fun j x hx => cell_kept (h j x hx) hk⟩
theorem Tw.keep {w w' : World} {v : Value} {ts : List Tx} (h : Tw w v ts) (hk : Kp w w') : Tw w' v ts := by
  obtain ⟨⟨ao, cap, h1, h2, h3, h4, h5⟩, hl⟩ := h
  exact ⟨⟨ao, cap, h1, h2, h3, h4.keep hk, h5⟩, hl⟩
theorem Tw.nil (w : World) : Tw w (.slice none 0 0) [] := ⟨⟨none, 0, rfl, Nat.le_refl _, Nat.zero_le _, .inl rfl, fun _ => rfl⟩, fun f h => by simp at h⟩
theorem Tw.open3 {w : World} {v : Value} {ts : List Tx} (h : Tw w v ts) : ∃ ao cap, v = .slice ao ts.length cap ∧ ts.length ≤ cap ∧ cap ≤ maxLen ∧ (ao = none → cap = 0) := by
  obtain ⟨⟨ao, cap, h1, h2, h3, h4, h5⟩, hl⟩ := h
  exact ⟨ao, cap, h1, h2, h3, h5⟩
/-- Memory that only one block, not this one, has changed in. -/
theorem Tw.by {w w' : World} {v : Value} {ts : List Tx} {row : Option Nat} (h : Tw w v ts) (hg : w.grownBy w' row) (hne : ∀ b, v.ownBlock = some b → row ≠ some b) : Tw w' v ts := by
  obtain ⟨⟨ao, cap, rfl, h2, h3, h4, h5⟩, hl⟩ := h
  refine ⟨⟨ao, cap, rfl, h2, h3, ?_, h5⟩, hl⟩
  rcases h4 with h4 | ⟨b, off, rfl, hc⟩
  · exact .inl h4
  · have hb : row ≠ some b := hne b rfl
    refine .inr ⟨b, off, rfl, fun j x hx => ?_⟩
    have h0 := hc j x hx
    have hlt := World.block_lt_of_cell? w _ h0
    have hh := hg.block b hlt (fun e => hb e.symm)
    unfold World.cell? at h0 ⊢
    rw [hh]
    exact h0
/-- The cells of the texts. -/
theorem Tw.cell {w : World} {ao : Option Addr} {n cap : Nat} {ts : List Tx} (h : Tw w (.slice ao n cap) ts) (hn : 0 < n) :
    ∃ b off, ao = some ⟨b, off, none⟩ ∧ ∀ (j : Nat) (x : Tx), ts[j]? = some x → w.cell? ⟨b, off + j, none⟩ = some (.string (st x)) := by
  obtain ⟨⟨ao', cap', h1, h2, h3, h4, h5⟩, hl⟩ := h
  simp only [Value.slice.injEq] at h1
  obtain ⟨rfl, rfl, rfl⟩ := h1
  rcases h4 with rfl | h4
  · simp at hn
  · exact h4
theorem Tw.len {w : World} {ao : Option Addr} {n cap : Nat} {ts : List Tx} (h : Tw w (.slice ao n cap) ts) : n = ts.length := by
  obtain ⟨⟨ao', cap', h1, _⟩, _⟩ := h
  simp only [Value.slice.injEq] at h1
  exact h1.2.1
/-- The first texts of a slice. -/
theorem Tw.take {w : World} {ao : Option Addr} {n cap : Nat} {ts : List Tx} (h : Tw w (.slice ao n cap) ts) (k : Nat) (hk : k ≤ n) : Tw w (.slice ao k cap) (ts.take k) := by
  have hl := h.len
  obtain ⟨⟨ao', cap', h1, h2, h3, h4, h5⟩, ho⟩ := h
  simp only [Value.slice.injEq] at h1
  obtain ⟨rfl, -, rfl⟩ := h1
  have hlen : (ts.take k).length = k := by rw [List.length_take]; omega
  refine ⟨⟨ao, cap, by rw [hlen], by omega, h3, ?_, h5⟩, fun x hx => ho x (List.mem_of_mem_take hx)⟩
  rcases h4 with rfl | ⟨b, off, rfl, hc⟩
  · exact .inl (by simp)
  · refine .inr ⟨b, off, rfl, fun j x hx => hc j x ?_⟩
    rw [List.getElem?_take] at hx
    split at hx
    · exact hx
    · simp at hx
theorem Tw.blk {w : World} {g : Nat} {t : TypeId} {ts : List Tx} (h : Blk w g t (ts.map fun x => Value.string (st x)).toArray) (ho : ∀ x ∈ ts, TxOk x) (hm : ts.length ≤ maxLen) : Tw w (.slice (some ⟨g, 0, none⟩) ts.length ts.length) ts := by
  refine ⟨⟨_, _, rfl, Nat.le_refl _, hm, .inr ⟨g, 0, rfl, fun j x hx => ?_⟩, fun e => nomatch e⟩, ho⟩
  rw [Nat.zero_add]
  exact h.cell j (by simpa using ⟨x, hx, rfl⟩)
/-- The cells of texts in a row of one's own. -/
def tcel (ts : List Tx) : List Value := ts.map fun x => .string (st x)
theorem tcel_len (ts : List Tx) : (tcel ts).length = ts.length := by simp [tcel]
theorem tcel_at {ts : List Tx} {j : Nat} {x : Tx} (h : ts[j]? = some x) : (tcel ts)[j]? = some (.string (st x)) := by simp [tcel, h]
theorem tcel_snoc (ts : List Tx) (x : Tx) : tcel (ts ++ [x]) = tcel ts ++ [.string (st x)] := by simp [tcel]
theorem tcel_app (ts us : List Tx) : tcel (ts ++ us) = tcel ts ++ tcel us := by simp [tcel]
structure OwT (w wr : World) (v : Value) (ts : List Tx) : Prop where
  owns : wr.ownsRow w.heap.size 9 1 v ts.length (tcel ts)
  ok : ∀ x ∈ ts, TxOk x
  kp : Kp w wr
theorem OwT.start (w : World) : OwT w w (.slice none 0 0) [] := ⟨World.ownsRow_nil _ _ _ _, fun f h => by simp at h, Kp.refl _⟩
theorem OwT.base {w0 w wr : World} {v : Value} {ts : List Tx} (h : OwT w wr v ts) (hk : Kp w0 w) : OwT w0 wr v ts := by
  refine ⟨?_, h.ok, Kp.trans hk h.kp⟩
  refine ⟨h.owns.1, ?_⟩
  rcases h.owns.2 with h2 | ⟨g, cap, cur, e1, e2, e3⟩
  · exact .inl h2
  · exact .inr ⟨g, cap, cur, e1, Nat.le_trans hk.size e2, e3⟩
theorem OwT.keep {w wr w1 : World} {v : Value} {ts : List Tx} (h : OwT w wr v ts) (hk : Kp wr w1) : OwT w w1 v ts := by
  refine ⟨?_, h.ok, Kp.trans h.kp hk⟩
  refine World.ownsRow.kept (row := none) h.owns ⟨hk.os, hk.tape, hk.output, hk.size, fun i hi _ => hk.block i hi⟩ ?_
  rcases h.owns.2 with ⟨rfl, _⟩ | ⟨g', cap', cur, rfl, hb', _⟩
  · exact .inl rfl
  · right; intro e; simp [Value.ownBlock] at e
theorem OwT.tw {w wr : World} {v : Value} {ts : List Tx} (h : OwT w wr v ts) : Tw wr v ts := by
  refine ⟨?_, h.ok⟩
  rcases h.owns.2 with ⟨rfl, h0⟩ | ⟨g, cap, cur, rfl, hb, hg, hnc, hcm, hsz, htake⟩
  · exact ⟨none, 0, by rw [h0], by omega, by unfold maxLen; omega, .inl (List.length_eq_zero_iff.1 h0), fun _ => rfl⟩
  · refine ⟨some ⟨g, 0, none⟩, cap, rfl, hnc, hcm, .inr ⟨g, 0, rfl, fun j f hf => ?_⟩, fun h => nomatch h⟩
    have hj : j < ts.length := (List.getElem?_eq_some_iff.1 hf).1
    have h1 := tcel_at hf
    have hcl := tcel_len ts
    rw [Nat.zero_add, cell_of_row wr g j cur _ (0, 0) hg]
    rw [← htake, List.getElem?_take, if_pos (by omega)] at h1
    simpa using h1
/-- The row lies in the call's own memory, and only another block has changed. -/
theorem OwT.by {w wr w1 : World} {v : Value} {ts : List Tx} {row : Option Nat} (h : OwT w wr v ts) (hg : wr.grownBy w1 row) (hr : ∀ r, row = some r → w.heap.size ≤ r) (hne : ∀ b, v.ownBlock = some b → row ≠ some b) : OwT w w1 v ts := by
  refine ⟨?_, h.ok, Below.grown h.kp hg h.kp.size hr⟩
  refine World.ownsRow.kept (row := row) h.owns hg ?_
  rcases h.owns.2 with ⟨rfl, _⟩ | ⟨g', cap', cur, rfl, hb', _⟩
  · exact .inl rfl
  · right; intro e; exact hne g' rfl e.symm
theorem OwT.newer {w wr : World} {v : Value} {ts : List Tx} (h : OwT w wr v ts) : ∀ b, v.ownBlock = some b → w.heap.size ≤ b := fun b hb => ((row_frc h.owns).2 b hb).1
theorem infoTx : (Tryz.prog.info? 9).map (fun i => (i.zero, i.size, i.bytes)) = some (some (.string ⟨#[]⟩), 1, 16) := by kernel_rfl
/-- append of a text to a row of one's own. -/
theorem wpList_tx {w wx : World} {ops : Array Oper} {rest : List Oper} {o : Oper} {a : Act} {Q : Exit → Act → World → Prop} (hgd : o.guard = none) (s x : Operand)
    (ho : o.op = .call { callee := .builtin .append, args := #[s, x], argTypes := #[74, 74] })
    (v : Value) {ts : List Tx} (hs : a.eval s = v) (hown : OwT w wx v ts) (hsm : ts.length ≤ 1000000) (k : Tx) (hf : TxOk k) (g : Nat) (hx : a.eval x = .slice (some ⟨g, 0, none⟩) 1 1)
    (hc : Blk wx g 9 #[.string (st k)])
    (h : ∀ v' w', OwT w w' v' (ts ++ [k]) → wx.grownBy w' v.ownBlock → (v'.ownBlock = v.ownBlock ∨ v'.ownBlock = some wx.heap.size) → wpList Tryz.prog ops Q rest (a.put o.dst v') w') : wpList Tryz.prog ops Q (o :: rest) a wx := by
  obtain ⟨i, hi, hz, hsize, hby⟩ := info_parts infoTx
  refine wpList_append_own_at (P := Tryz.prog) wx hgd s x _ ho w.heap.size _ i _ 1 16 Tryz.underlying74 hi hz hsize hby rfl (by omega) v ts.length (tcel ts) hs hown.owns ⟨g, 0, none⟩ 1 1 [.string (st k)] hx rfl ?_ ?_ (by unfold maxLen; omega) (by omega) hown.kp.size ?_
  · intro j u hu
    rw [Addr.add_lit]
    refine hc.cell (0 + j) ?_
    rw [Nat.zero_add]
    simpa using hu
  · intro u hu
    simp at hu
    subst hu
    rfl
  · intro v' w' h1 h2 h3 h4
    refine h v' w' ⟨?_, ?_, Below.grown hown.kp h2 hown.kp.size (fun k hk => ((row_frc hown.owns).2 k hk).1)⟩ h2 h4
    · rw [List.length_append, tcel_snoc]; exact h1
    · intro y hy
      rcases List.mem_append.1 hy with hy | hy
      · exact hown.ok y hy
      · obtain rfl : y = k := by simpa using hy
        exact hf
/-- append of all texts of a slice to a row of one's own. -/
theorem wpList_txs {w wx : World} {ops : Array Oper} {rest : List Oper} {o : Oper} {a : Act} {Q : Exit → Act → World → Prop} (hgd : o.guard = none) (s x : Operand)
    (ho : o.op = .call { callee := .builtin .append, args := #[s, x], argTypes := #[74, 74] })
    (v : Value) {ts : List Tx} (hs : a.eval s = v) (hown : OwT w wx v ts) (hsm : ts.length ≤ 1000000) {us : List Tx} (hu1 : us.length ≤ 1000000) (hu0 : 0 < us.length) (g off cap : Nat) (hx : a.eval x = .slice (some ⟨g, off, none⟩) us.length cap)
    (hT : Tw wx (.slice (some ⟨g, off, none⟩) us.length cap) us)
    (h : ∀ v' w', OwT w w' v' (ts ++ us) → wx.grownBy w' v.ownBlock → (v'.ownBlock = v.ownBlock ∨ v'.ownBlock = some wx.heap.size) → wpList Tryz.prog ops Q rest (a.put o.dst v') w') : wpList Tryz.prog ops Q (o :: rest) a wx := by
  obtain ⟨i, hi, hz, hsize, hby⟩ := info_parts infoTx
  obtain ⟨b, off', e, hcell⟩ := hT.cell hu0
  injection e with e
  injection e with e1 e2
  subst e1 e2
  have hcu : (tcel us).length = us.length := tcel_len us
  refine wpList_append_own_at (P := Tryz.prog) wx hgd s x _ ho w.heap.size _ i _ 1 16 Tryz.underlying74 hi hz hsize hby rfl (by omega) v ts.length (tcel ts) hs hown.owns ⟨g, off, none⟩ us.length cap (tcel us) hx (by rw [hcu]; omega) ?_ ?_ (by unfold maxLen; omega) (by omega) hown.kp.size ?_
  · intro j u hu
    rw [Addr.add_lit]
    simp only [tcel, List.getElem?_map, Option.map_eq_some_iff] at hu
    obtain ⟨y, hy, rfl⟩ := hu
    exact hcell j y hy
  · intro u hu
    simp only [tcel, List.mem_map] at hu
    obtain ⟨y, _, rfl⟩ := hu
    rfl
  · intro v' w' h1 h2 h3 h4
    refine h v' w' ⟨?_, ?_, Below.grown hown.kp h2 hown.kp.size (fun k hk => ((row_frc hown.owns).2 k hk).1)⟩ h2 h4
    · rw [List.length_append, tcel_app]; exact h1
    · intro y hy
      rcases List.mem_append.1 hy with hy | hy
      · exact hown.ok y hy
      · exact hT.ok y hy
end By
end Go.Proofs.YtfobogcccbddbaaGreatDoor

/- slices.Contains over texts; the test of a change, and slices.ContainsFunc with it. Condition: rows are not longer than a million. -/
namespace Go.Proofs.YtfobogcccbddbaaGreatDoor
namespace By
open Go.RowKit WireN LexN RevN FdN CtN
set_option linter.unusedVariables false
set_option linter.unusedSimpArgs false

set_option maxRecDepth 100000 in
set_option maxHeartbeats 2000000 in
theorem Index_tw {w : World} {v : Value} {ts : List Tx} {x : Tx} (h : Tw w v ts) (hx : Lt x) (hl : ts.length ≤ 1000000) :
    Calls Tryz.prog 80 #[v, .string (st x)] w fun e w' => (∃ r : Int, e = .returned (.int .i64 r) ∧ decide (0 ≤ r) = decide (x ∈ ts)) ∧ Kp w w' := by
  obtain ⟨Q, hQ⟩ : ∃ Q : Ending → World → Prop, Q = fun e w' => (∃ r : Int, e = .returned (.int .i64 r) ∧ decide (0 ≤ r) = decide (x ∈ ts)) ∧ Kp w w' := ⟨_, rfl⟩
  rw [← hQ]
  have FIN : Hid (∀ (w' : World) (r : Int), decide (0 ≤ r) = decide (x ∈ ts) → Kp w w' → Q (.returned (.int .i64 r)) w') := Lib.hid (by
    intro w' r h1 h2
    rw [hQ]
    exact ⟨⟨r, rfl, h1⟩, h2⟩)
  obtain ⟨ao, cap, rfl, hcap, -, -⟩ := h.open3
  obtain ⟨n, hn⟩ : ∃ n, n = ts.length := ⟨_, rfl⟩
  rw [← hn] at hcap h hl ⊢
  obtain ⟨S, hS⟩ : ∃ S, S = st x := ⟨_, rfl⟩
  rw [← hS]
  have HT := Lib.hid h; have HN := Lib.hid hn; have HS := Lib.hid hS; have HX := Lib.hid hx
  have i1 : (n : Int) ≤ (cap : Int) := by omega
  have i2 : (n : Int) ≤ 1000000 := by omega
  clear h hcap hQ hn hS hx hl
  go_enter Tryz.func80, Tryz.ntmps80
  go_wp2_with fail
  go_loopw [8] (fun iv wy => ∃ (k : Nat), k ≤ n ∧ iv = .int .i64 k ∧ Kp w wy ∧ Hid (x ∉ ts.take k)) (fun iv _ => n - (intOf iv).toNat)
  case atStart => exact ⟨0, Nat.zero_le _, rfl, Kp.refl _, Lib.hid (by simp)⟩
  case round =>
    obtain ⟨k, hk, rfl, hkp, HNO⟩ := hrel
    have HKP := Lib.hid hkp
    clear hkp
    rename World => wy
    by_cases hil : k < n
    · obtain ⟨y, hy⟩ : ∃ y, ts[k]? = some y := ⟨_, List.getElem?_eq_getElem (by have := HN.out; omega)⟩
      obtain ⟨g, o, rfl, hcell⟩ := (HT.out.keep HKP.out).cell (by omega)
      have d0 := hcell k y hy
      have hyo := HT.out.ok y (List.mem_of_getElem? hy)
      have j1 : (k : Int) < (n : Int) := by omega
      obtain ⟨R, hR⟩ : ∃ R, R = st y := ⟨_, rfl⟩
      have q5 : (S.toList == R.toList) = decide (x = y) := by rw [HS.out, hR]; exact st_eqc HX.out hyo.1
      rw [← hR] at d0
      have HY := Lib.hid hy
      clear hcell hy hyo hR
      by_cases e : x = y
      · rw [decide_eq_true e] at q5
        have HE : Hid (decide ((0 : Int) ≤ (k : Int)) = decide (x ∈ ts)) := Lib.hid (by
          rw [decide_eq_true (by omega), decide_eq_true (by rw [e]; exact List.mem_of_getElem? HY.out)])
        clear e
        go_wp2_with fail
        exact FIN.out _ _ HE.out HKP.out
      · rw [decide_eq_false e] at q5
        have HNX : Hid (x ∉ ts.take (k + 1)) := Lib.hid (by
          rw [List.take_add_one, HY.out, List.mem_append]
          rintro (h | h)
          · exact HNO.out h
          · exact e (by simpa using h))
        clear e
        go_wp2_with fail
        go_roundw
        case rel => exact ⟨k + 1, by omega, vint (by omega), HKP.out, HNX⟩
        case measure => simp [intOf]; omega
    · have HE : Hid (decide ((0 : Int) ≤ -1) = decide (x ∈ ts)) := Lib.hid (by
        have h := HNO.out
        obtain rfl : k = n := by omega
        rw [List.take_of_length_le (by have := HN.out; omega)] at h
        rw [decide_eq_false h]
        decide)
      go_wp2_with fail
      exact FIN.out _ _ HE.out HKP.out
set_option maxRecDepth 100000 in
theorem Contains_tw {w : World} {v : Value} {ts : List Tx} {x : Tx} (h : Tw w v ts) (hx : Lt x) (hl : ts.length ≤ 1000000) :
    Calls Tryz.prog 60 #[v, .string (st x)] w fun e w' => e = .returned (.bool (decide (x ∈ ts))) ∧ Kp w w' := by
  have HI := Lib.hid (Index_tw h hx hl)
  obtain ⟨S, hS⟩ : ∃ S, S = st x := ⟨_, rfl⟩
  obtain ⟨c, hc⟩ : ∃ c, c = decide (x ∈ ts) := ⟨_, rfl⟩
  rw [← hS, ← hc] at HI ⊢
  clear hS hc h hx hl
  go_enter Tryz.func60, Tryz.ntmps60
  go_wp2_with fail
  refine HI.out.mono ?_
  rintro e w1 ⟨⟨r, rfl, hr⟩, hk⟩
  have HK := Lib.hid hk
  clear hk
  cases c with
  | true =>
    rw [decide_eq_true_eq] at hr
    have q : decide (0 ≤ r) = true := decide_eq_true hr
    go_wp2_with fail
    go_ret
    exact ⟨rfl, HK.out⟩
  | false =>
    rw [decide_eq_false_iff_not] at hr
    have q : decide (0 ≤ r) = false := decide_eq_false hr
    clear hr
    go_wp2_with fail
    go_ret
    exact ⟨rfl, HK.out⟩
end By
end Go.Proofs.YtfobogcccbddbaaGreatDoor
