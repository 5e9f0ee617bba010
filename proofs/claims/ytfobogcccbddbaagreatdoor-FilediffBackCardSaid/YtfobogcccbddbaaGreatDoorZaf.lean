/- The program's check of a file behind another one, and of a revision. Conditions: the slice reads as the files that are named; a package variable of the library holds some integer. -/
import Derived.Test.YtfobogcccbddbaaGreatDoorZba
import Derived.Test.YtfobogcccbddbaaGreatDoorZbb
import Derived.Test.YtfobogcccbddbaaGreatDoorRvQ
import Derived.Deep.RegionHeld3
namespace Go.Proofs.YtfobogcccbddbaaGreatDoor
namespace By
open Go.RowKit WireN LexN RevN
set_option linter.unusedVariables false
set_option linter.unusedSimpArgs false

set_option maxRecDepth 100000 in
set_option maxHeartbeats 1000000 in
theorem checkFile_any {f : Fl} {p : List Nat} (h1 : Lt f.1) (hp : Lt p) {w : World} (hm : MX w) :
    Calls Tryz.prog 58 #[.agg #[.string (st f.1), .string (st f.2)], .string (st p)] w fun e w' => e = .returned (.int .i64 (fileE p f : Nat)) ∧ Kp w w' := by
  have HK0 := Lib.hid (kp_alloc w (.cells #[.string (st f.1), .string (st f.2)] 53))
  have HB0 := Lib.hid (Blk.new w 53 #[.string (st f.1), .string (st f.2)])
  have HC := Lib.hid (PathA h1 (hm.keep HK0.out))
  have hq := st_inj' h1 hp
  have hls := less_st h1 hp
  obtain ⟨n, hn⟩ : ∃ n, n = f.2.length := ⟨_, rfl⟩
  have qs : ∀ w, (Builtin.len_ #[9] 3 #[.string (st f.2)]).run Tryz.prog w = .ok (goInt n) w := fun w => by rw [hn]; exact len w
  have hE : fileE p f = if pathB f.1 = false then 6 else if decide (f.1 = p) = true then 10 else if lss f.1 p = true then 6 else if 16384 < n then 2 else 0 := by
    rw [hn]
    simp only [decide_eq_true_eq]
    rfl
  obtain ⟨E, hEE⟩ : ∃ E, E = fileE p f := ⟨_, rfl⟩
  rw [← hEE] at hE ⊢
  obtain ⟨b, hb⟩ : ∃ b, b = pathB f.1 := ⟨_, rfl⟩
  obtain ⟨c, hc⟩ : ∃ c, c = lss f.1 p := ⟨_, rfl⟩
  obtain ⟨d, hd⟩ : ∃ d, d = decide (f.1 = p) := ⟨_, rfl⟩
  rw [← hb] at HC hE
  rw [← hc] at hls hE
  rw [← hd] at hq hE
  obtain ⟨S, hS⟩ : ∃ S, S = st f.1 := ⟨_, rfl⟩
  obtain ⟨B, hB⟩ : ∃ B, B = st f.2 := ⟨_, rfl⟩
  obtain ⟨P, hP⟩ : ∃ P, P = st p := ⟨_, rfl⟩
  rw [← hS, ← hB] at HK0 HB0 HC
  rw [← hS, ← hP] at hq hls
  rw [← hB] at qs
  rw [← hS, ← hB, ← hP]
  have HE := Lib.hid hE
  clear h1 hp hm hn hEE hE hb hc hd hS hB hP
  go_enter Tryz.func58, Tryz.ntmps58
  go_wp2_with fail
  refine HC.out.mono ?_
  rintro e w2 ⟨rfl, hk⟩
  have HK2 := Lib.hid (Kp.trans HK0.out hk)
  have hb2 := HB0.out.keep hk
  have c0 := hb2.cell 0 rfl; have c1 := hb2.cell 1 rfl
  clear hk hb2
  have E1 := HE.out
  cases b with
  | false =>
    obtain rfl : E = 6 := by simpa using E1
    clear E1
    go_wp2_with fail
    go_ret
    exact ⟨rfl, HK2.out⟩
  | true =>
    cases d with
    | true =>
      obtain rfl : E = 10 := by simpa using E1
      clear E1
      go_wp2_with fail
      go_ret
      exact ⟨rfl, HK2.out⟩
    | false =>
      cases c with
      | true =>
        obtain rfl : E = 6 := by simpa using E1
        clear E1
        go_wp2_with fail
        go_ret
        exact ⟨rfl, HK2.out⟩
      | false =>
        by_cases h : 16384 < n
        · obtain rfl : E = 2 := by simpa [h] using E1
          have i1 : (16384 : Int) < (n : Int) := by omega
          clear E1 h
          go_wp2_with fail
          go_ret
          exact ⟨rfl, HK2.out⟩
        · obtain rfl : E = 0 := by simpa [h] using E1
          have i1 : (n : Int) ≤ (16384 : Int) := by omega
          clear E1 h
          go_wp2_with fail
          go_ret
          exact ⟨rfl, HK2.out⟩

theorem lt_bef {fs : List Fl} (h : ∀ f ∈ fs, Lt f.1 ∧ Lt f.2) (k : Nat) : Lt (bef fs k) := by
  unfold bef
  split
  · exact Lt.nil
  · by_cases hk : k - 1 < fs.length
    · rw [List.getElem?_eq_getElem hk]
      exact (h _ (List.getElem_mem hk)).1
    · rw [List.getElem?_eq_none (by omega)]
      exact Lt.nil
set_option maxRecDepth 100000 in
set_option maxHeartbeats 1000000 in
theorem Check_any {u : Value} {fs : List Fl} {w : World} (hr : Rw w u fs) (hm : MX w) :
    Calls Tryz.prog 24 #[.agg #[u]] w fun e w' => e = .returned (.int .i64 (chk fs : Nat)) ∧ Kp w w' := by
  obtain ⟨ao, cap, rfl, hcap, hmx, hno⟩ := hr.open3
  obtain ⟨n, hn⟩ : ∃ n, n = fs.length := ⟨_, rfl⟩
  have HK0 := Lib.hid (kp_alloc w (.cells #[.slice ao fs.length cap] 25))
  rw [← hn] at hr HK0 hcap ⊢
  have HM := Lib.hid hm; have HR := Lib.hid hr; have HN := Lib.hid hn
  have HC : Hid (chk fs = if 64 < n then 2 else chkL [] fs) := Lib.hid (by rw [hn]; rfl)
  have hcp : (n : Int) ≤ (cap : Int) := by omega
  clear hr hm hn hmx hno hcap
  by_cases h : 64 < n
  · have i1 : (64 : Int) < (n : Int) := by omega
    have HE : Hid (chk fs = 2) := Lib.hid (by rw [HC.out, if_pos h])
    obtain ⟨E, hE⟩ : ∃ E, E = chk fs := ⟨_, rfl⟩
    rw [← hE] at HE ⊢
    obtain rfl := HE.out
    clear h hE HE
    go_enter Tryz.func24, Tryz.ntmps24
    go_wp2_with fail
    go_ret
    exact ⟨rfl, HK0.out⟩
  have i1 : (n : Int) ≤ (64 : Int) := by omega
  have HE : Hid (chk fs = chkL [] fs) := Lib.hid (by rw [HC.out, if_neg h])
  obtain ⟨E, hE⟩ : ∃ E, E = chk fs := ⟨_, rfl⟩
  rw [← hE] at HE ⊢
  obtain ⟨W0, hW0⟩ : ∃ W0, W0 = w.alloc (.cells #[.slice ao n cap] 25) := ⟨_, rfl⟩
  have HW0 := Lib.hid hW0
  rw [← hW0] at HK0
  clear h hE HC hW0
  go_enter Tryz.func24, Tryz.ntmps24
  go_wp2_with fail
  rw [← HW0.out]
  go_loopw [3, 14] (fun b v wr => ∃ k : Nat, v = .int .i64 k ∧ k ≤ n ∧ b = .string (st (bef fs k)) ∧ E = chkL (bef fs k) (fs.drop k) ∧ Kp w wr) (fun _ v _ => n - (intOf v).toNat)
  case atStart => exact ⟨0, rfl, Nat.zero_le _, rfl, HE.out, HK0.out⟩
  case round =>
    obtain ⟨k, rfl, hk, rfl, hE, hkp⟩ := hrel
    rename World => wx
    have HKP := Lib.hid hkp; have HEE := Lib.hid hE
    clear hkp hE
    by_cases hkn : k < n
    · obtain ⟨f, hf⟩ : ∃ f, fs[k]? = some f := ⟨_, List.getElem?_eq_getElem (by have := HN.out; omega)⟩
      obtain ⟨b, off, rfl, hcell⟩ := (HR.out.keep HKP.out).cell (by omega)
      obtain ⟨c0, c1⟩ := hcell k f hf
      have hlt := HR.out.lt f (List.mem_of_getElem? hf)
      have HST : Hid (E = if fileE (bef fs k) f ≠ 0 then fileE (bef fs k) f else chkL (bef fs (k + 1)) (fs.drop (k + 1))) := Lib.hid (by rw [HEE.out, chkL_step hf, bef_succ hf])
      have HBS : Hid (f.1 = bef fs (k + 1)) := Lib.hid (bef_succ hf).symm
      have HCF := Lib.hid (fun (W : World) (hk : Kp wx W) => checkFile_any (f := f) (p := bef fs k) (w := W) hlt.1 (lt_bef HR.out.lt k) (HM.out.keep (Kp.trans HKP.out hk)))
      obtain ⟨X, hX⟩ : ∃ X, X = fileE (bef fs k) f := ⟨_, rfl⟩
      rw [← hX] at HST HCF
      obtain ⟨P, hP⟩ : ∃ P, P = st (bef fs k) := ⟨_, rfl⟩
      obtain ⟨S, hS⟩ : ∃ S, S = st f.1 := ⟨_, rfl⟩
      obtain ⟨B, hB⟩ : ∃ B, B = st f.2 := ⟨_, rfl⟩
      rw [← hP, ← hS, ← hB] at HCF
      rw [← hS] at c0
      rw [← hB] at c1
      rw [← hP]
      have HS := Lib.hid hS
      have HKA := Lib.hid (kp_alloc wx (.cells #[.string S, .string B] 53))
      have HBA := Lib.hid (Blk.new wx 53 #[.string S, .string B])
      clear hcell hf hlt hX hP hS hB
      go_wp2_with fail
      refine (HCF.out _ HKA.out).mono ?_
      rintro e w2 ⟨rfl, hk2⟩
      have HK2 := Lib.hid (Kp.trans HKA.out hk2)
      have d0 := (HBA.out.keep hk2).cell 0 rfl
      clear hk2 c0 c1
      by_cases hX : X = 0
      · subst hX
        go_wp2_with fail
        go_roundw
        case rel => exact ⟨k + 1, by go_num, by omega, by rw [← HBS.out, HS.out], by rw [HST.out]; simp, Kp.trans HKP.out HK2.out⟩
        case measure => simp [intOf]; omega
      · have HXE : Hid (X = E) := Lib.hid (by rw [HST.out, if_pos hX])
        have hx1 : ((X : Int) == 0) = false := beq_eq_false_iff_ne.2 (by omega)
        have hx2 : ((X : Int) != 0) = true := by rw [bne_iff_ne]; omega
        obtain rfl := HXE.out
        clear hX HXE
        go_wp2_with fail
        go_ret
        exact ⟨rfl, Kp.trans HKP.out HK2.out⟩
    · have HE0 : Hid (E = 0) := Lib.hid (by rw [HEE.out, List.drop_eq_nil_of_le (by have := HN.out; omega)]; rfl)
      obtain rfl := HE0.out
      clear HE0
      go_wp2_with fail
      go_ret
      exact ⟨rfl, HKP.out⟩
end By
end Go.Proofs.YtfobogcccbddbaaGreatDoor

/- The program's Put. Conditions: the slice reads as the files that are named; a package variable of the library holds some integer. -/
namespace Go.Proofs.YtfobogcccbddbaaGreatDoor
namespace By
open Go.RowKit Go.Shelf WireN LexN RevN
set_option linter.unusedVariables false
set_option linter.unusedSimpArgs false

theorem elemFl : Tryz.prog.elem 23 = 53 := by kernel_rfl
theorem sizeFl (w : World) : (sizeOf (Tryz.prog.elem 23)).run Tryz.prog w = .ok 2 w := by
  obtain ⟨i0, hi, hz0, hz1, hz2⟩ := info_parts infoFile
  rw [elemFl]
  simp [sizeOf, typeInfo, hi, hz1]
theorem undFl : Tryz.prog.underlying 23 = some (.slice (Tryz.prog.elem 23)) := by rw [elemFl]; exact Tryz.underlying23
theorem fl_to (ao : Option Addr) (len cap j : Nat) (J : Int) (hJ : J = j) (hj : j ≤ cap) (w : World) :
    (Instr.slice 23 (.slice ao len cap) none (some (.int .i64 J)) none).run Tryz.prog w = .ok (sliced ao 0 j cap 2) w := by
  subst hJ
  rw [run_slice_h w 23 ao len cap undFl .i64 (j : Int) (by omega) (by omega), sizeFl, Int.toNat_natCast]
  rfl
theorem fl_from (ao : Option Addr) (len cap j : Nat) (J : Int) (hJ : J = j) (hj : j ≤ len) (w : World) :
    (Instr.slice 23 (.slice ao len cap) (some (.int .i64 J)) none none).run Tryz.prog w = .ok (sliced ao j len cap 2) w := by
  subst hJ
  rw [run_slice_l w 23 ao len cap undFl .i64 (j : Int) (by omega) (by omega), sizeFl, Int.toNat_natCast]
  rfl
theorem Rw.cut {w : World} {ao : Option Addr} {n cap : Nat} {fs : List Fl} (h : Rw w (.slice ao n cap) fs) (l m : Nat) (hlm : l ≤ m) (hm : m ≤ n) : Rw w (sliced ao l m cap 2) ((fs.take m).drop l) := by
  obtain ⟨⟨a', c', e, h2, h3, h4, h5⟩, hl, hs⟩ := h
  simp only [Value.slice.injEq] at e
  obtain ⟨rfl, hn, rfl⟩ := e
  have hlen : ((fs.take m).drop l).length = m - l := by rw [List.length_drop, List.length_take]; omega
  refine ⟨⟨if cap = l then ao else ao.map (·.add (l * 2)), cap - l, ?_, by omega, by omega, ?_, ?_⟩, fun f hf => hl f (List.mem_of_mem_take (List.mem_of_mem_drop hf)), fun f hf => hs f (List.mem_of_mem_take (List.mem_of_mem_drop hf))⟩
  · unfold sliced
    rw [hlen]
  · by_cases hc : cap = l
    · refine .inl (List.length_eq_zero_iff.1 ?_)
      omega
    · rcases h4 with rfl | ⟨b, off, rfl, hcell⟩
      · exact .inl (by simp)
      · refine .inr ⟨b, off + l * 2, ?_, fun j f hf => ?_⟩
        · rw [if_neg hc]
          show some ((⟨b, off, none⟩ : Addr).add (l * 2)) = _
          rw [Addr_add]
        · rw [List.getElem?_drop] at hf
          have hj : l + j < m := by
            have := (List.getElem?_eq_some_iff.1 hf).1
            rw [List.length_take] at this
            omega
          rw [List.getElem?_take, if_pos hj] at hf
          obtain ⟨c0, c1⟩ := hcell (l + j) f hf
          have e1 : off + (l + j) * 2 = off + l * 2 + j * 2 := by omega
          rw [e1] at c0 c1
          exact ⟨c0, c1⟩
  · intro he
    by_cases hc : cap = l
    · omega
    · rw [if_neg hc] at he
      cases ao with
      | none => have := h5 rfl; omega
      | some a => simp at he
theorem Rw.one {w : World} {b : Nat} {t : TypeId} {f : Fl} (h : Blk w b t #[.string (st f.1), .string (st f.2)]) (hl : Lt f.1 ∧ Lt f.2) (hs : f.1.length ≤ maxLen ∧ f.2.length ≤ maxLen) : Rw w (.slice (some ⟨b, 0, none⟩) 1 1) [f] := by
  refine ⟨⟨some ⟨b, 0, none⟩, 1, rfl, Nat.le_refl _, by unfold maxLen; omega, .inr ⟨b, 0, rfl, fun j g hg => ?_⟩, fun h => nomatch h⟩, fun g hg => ?_, fun g hg => ?_⟩
  · match j, hg with
    | 0, hg =>
      obtain rfl : f = g := by simpa using hg
      exact ⟨h.cell 0 rfl, h.cell 1 rfl⟩
    | j + 1, hg => simp at hg
  · obtain rfl : g = f := by simpa using hg
    exact hl
  · obtain rfl : g = f := by simpa using hg
    exact hs
/-- What Put, Remove and Move answer. -/
def RevR (w : World) (r : Nat × List Fl) (e : Ending) (w' : World) : Prop :=
  ∃ v, e = .returned (.tuple #[.agg #[v], .int .i64 (r.1 : Nat)]) ∧ Rw w' v r.2 ∧ (∀ b, v.ownBlock = some b → w.heap.size ≤ b) ∧ Kp w w'
/-- What is read from a slice on. -/
theorem drop_take_len {fs : List Fl} {n l : Nat} (hn : n = fs.length) : (fs.take n).drop l = fs.drop l := by rw [hn, List.take_length]
end By
end Go.Proofs.YtfobogcccbddbaaGreatDoor

/- The program's Find, Same and IsSource. Conditions: the slices read as the files that are named; a package variable of the library holds some integer. -/
namespace Go.Proofs.YtfobogcccbddbaaGreatDoor
namespace By
open Go.RowKit Go.Shelf WireN LexN RevN
theorem suffix_st {l : List Nat} (hl : Lt l) : Lib.hasSuffix (st l).data.toList (st [46, 115, 114, 99]).data.toList = (decide (4 ≤ l.length) && decide (l.drop (l.length - 4) = [46, 115, 114, 99])) := by
  have e1 : (st l).data.toList = l.map fun n => UInt8.ofNat n := by simp [st]
  have e2 : (st [46, 115, 114, 99]).data.toList = [46, 115, 114, 99] := by rfl
  unfold Lib.hasSuffix
  rw [e1, e2, Bool.eq_iff_iff, List.isSuffixOf_iff_suffix, Bool.and_eq_true, decide_eq_true_eq, decide_eq_true_eq, List.suffix_iff_eq_drop]
  simp only [List.length_map, List.length_cons, List.length_nil]
  have hm : ∀ x ∈ l.drop (l.length - 4), x < 256 := fun x hx => hl.mem (List.mem_of_mem_drop hx)
  constructor
  · intro h
    have h1 : 4 ≤ l.length := by
      have := congrArg List.length h
      simp at this
      omega
    refine ⟨h1, ?_⟩
    rw [← List.map_drop] at h
    have h2 := congrArg (List.map UInt8.toNat) h
    rw [List.map_map] at h2
    have h3 : (l.drop (l.length - 4)).map (UInt8.toNat ∘ fun n => UInt8.ofNat n) = l.drop (l.length - 4) := by
      refine (List.map_congr_left fun x hx => ?_).trans (List.map_id _)
      have := hm x hx
      simp; omega
    rw [h3] at h2
    rw [← h2]
    rfl
  · rintro ⟨h1, h2⟩
    rw [← List.map_drop, h2]
    rfl
theorem st_src : (⟨#[46, 115, 114, 99]⟩ : ByteArray) = st [46, 115, 114, 99] := rfl
end By
end Go.Proofs.YtfobogcccbddbaaGreatDoor

/- The program's Move. Conditions: the slice reads as the files that are named; a package variable of the library holds some integer. -/
namespace Go.Proofs.YtfobogcccbddbaaGreatDoor
namespace By
open Go.RowKit Go.Shelf WireN LexN RevN
set_option linter.unusedVariables false
set_option linter.unusedSimpArgs false

theorem hasP_some {fs : List Fl} {p : List Nat} (h : hasP fs p = true) : ∃ f, fs[pos fs p]? = some f ∧ f.1 = p := by
  unfold hasP at h
  cases hx : fs[pos fs p]? with
  | none => rw [hx] at h; cases h
  | some f => rw [hx] at h; exact ⟨f, rfl, of_decide_eq_true h⟩
theorem cell_only {w w' : World} {g b i : Nat} {v : Value} (ho : Only g w w') (hc : w.cell? ⟨b, i, none⟩ = some v) (hne : b ≠ g) : w'.cell? ⟨b, i, none⟩ = some v := by
  have hh := ho.block b hne
  unfold World.cell? at hc ⊢
  rw [hh]
  exact hc
end By
end Go.Proofs.YtfobogcccbddbaaGreatDoor

/- The reference's check of a revision. Condition: the slice reads as the files that are named. -/
namespace Go.Proofs.YtfobogcccbddbaaGreatDoor
namespace By
open Go.RowKit WireN LexN RevN
set_option linter.unusedVariables false
set_option linter.unusedSimpArgs false

theorem fileE_nil {f : Fl} (h : pathB f.1 = true) : fileE [] f = if 16384 < f.2.length then 2 else 0 := by
  unfold fileE
  rw [if_neg (by rw [h]; simp), if_neg (path_ne h), if_neg (by rw [lss_nil]; simp)]
set_option maxRecDepth 100000 in
set_option maxHeartbeats 4000000 in
theorem rCheck_any {u : Value} {fs : List Fl} {w : World} (hr : Rw w u fs) :
    Calls Tryz.prog 33 #[.agg #[u]] w fun e w' => e = .returned (.int .i64 (chk fs : Nat)) ∧ Kp w w' := by
  obtain ⟨ao, cap, rfl, hcap, hmx, hno⟩ := hr.open3
  obtain ⟨n, hn⟩ : ∃ n, n = fs.length := ⟨_, rfl⟩
  have HK0 := Lib.hid (kp_alloc w (.cells #[.slice ao fs.length cap] 25))
  have HB0 := Lib.hid (Blk.new w 25 #[.slice ao fs.length cap])
  rw [← hn] at hr HK0 HB0 hcap ⊢
  have HR := Lib.hid hr; have HN := Lib.hid hn
  have HC : Hid (chk fs = if 64 < n then 2 else chkL [] fs) := Lib.hid (by rw [hn]; rfl)
  have hcp : (n : Int) ≤ (cap : Int) := by omega
  clear hr hn hmx hno hcap
  by_cases h : 64 < n
  · have i1 : (64 : Int) < (n : Int) := by omega
    have HE : Hid (chk fs = 2) := Lib.hid (by rw [HC.out, if_pos h])
    obtain ⟨E, hE⟩ : ∃ E, E = chk fs := ⟨_, rfl⟩
    rw [← hE] at HE ⊢
    obtain rfl := HE.out
    clear h hE HE
    go_enter Tryz.func33, Tryz.ntmps33
    go_wp2_with fail
    go_ret
    exact ⟨rfl, HK0.out⟩
  have i1 : (n : Int) ≤ (64 : Int) := by omega
  have HE : Hid (chk fs = chkL [] fs) := Lib.hid (by rw [HC.out, if_neg h])
  obtain ⟨E, hE⟩ : ∃ E, E = chk fs := ⟨_, rfl⟩
  rw [← hE] at HE ⊢
  obtain ⟨W0, hW0⟩ : ∃ W0, W0 = w.alloc (.cells #[.slice ao n cap] 25) := ⟨_, rfl⟩
  obtain ⟨ab, hab⟩ : ∃ ab, ab = w.heap.size := ⟨_, rfl⟩
  have HW0 := Lib.hid hW0; have HAB := Lib.hid hab
  rw [← hW0] at HK0 HB0
  rw [← hab] at HB0
  clear h hE HC hW0 hab
  go_enter Tryz.func33, Tryz.ntmps33
  go_wp2_with fail
  rw [← HW0.out, ← HAB.out]
  go_loopw [12] (fun v wr => ∃ k : Nat, v = .int .i64 k ∧ k ≤ n ∧ E = chkL (bef fs k) (fs.drop k) ∧ Kp W0 wr) (fun v _ => n - (intOf v).toNat)
  case atStart => exact ⟨0, rfl, Nat.zero_le _, HE.out, Kp.refl _⟩
  case round =>
    obtain ⟨k, rfl, hk, hE, hkp⟩ := hrel
    rename World => wx
    have HKP := Lib.hid (Kp.trans HK0.out hkp); have HEE := Lib.hid hE; have HKP0 := Lib.hid hkp
    have ax := (HB0.out.keep hkp).cell 0 rfl
    clear hkp hE
    by_cases hkn : k < n
    · obtain ⟨f, hf⟩ : ∃ f, fs[k]? = some f := ⟨_, List.getElem?_eq_getElem (by have := HN.out; omega)⟩
      obtain ⟨b, off, rfl, hcell⟩ := (HR.out.keep HKP.out).cell (by omega)
      obtain ⟨c0, c1⟩ := hcell k f hf
      have hlt := HR.out.lt f (List.mem_of_getElem? hf)
      have HST : Hid (E = if fileE (bef fs k) f ≠ 0 then fileE (bef fs k) f else chkL (bef fs (k + 1)) (fs.drop (k + 1))) := Lib.hid (by rw [HEE.out, chkL_step hf, bef_succ hf])
      have hfe : fileE (bef fs k) f = if pathB f.1 = false then 6 else if f.1 = bef fs k then 10 else if lss f.1 (bef fs k) = true then 6 else if 16384 < f.2.length then 2 else 0 := rfl
      have hnil := fileE_nil (f := f)
      obtain ⟨L, hL⟩ : ∃ L, L = f.2.length := ⟨_, rfl⟩
      have qs : ∀ w, (Builtin.len_ #[9] 3 #[.string (st f.2)]).run Tryz.prog w = .ok (goInt L) w := fun w => by rw [hL]; exact len w
      have HPC := Lib.hid (fun W => rPathA (l := f.1) hlt.1 W)
      obtain ⟨pb, hpb⟩ : ∃ b, b = pathB f.1 := ⟨_, rfl⟩
      rw [← hL, ← hpb] at hfe hnil
      rw [← hpb] at HPC
      obtain ⟨WA, hWA⟩ : ∃ WA, WA = wx.alloc (.cells #[.string (st f.1), .string (st f.2)] 53) := ⟨_, rfl⟩
      have HKA : Hid (Kp wx WA) := Lib.hid (by rw [hWA]; exact kp_alloc wx _)
      have hbA : Blk WA wx.heap.size 53 #[.string (st f.1), .string (st f.2)] := by rw [hWA]; exact Blk.new wx _ _
      have d0 := hbA.cell 0 rfl; have d1 := hbA.cell 1 rfl
      have ax1 := cell_kept ax HKA.out
      have HKX : Hid (Kp w WA) := Lib.hid (Kp.trans HKP.out HKA.out)
      have HWA := Lib.hid hWA
      have RET : Hid (∀ x, fileE (bef fs k) f = x → x ≠ 0 → E = x) := Lib.hid (fun x h1 h2 => by rw [HST.out, h1, if_pos h2])
      have NXT : Hid (fileE (bef fs k) f = 0 → E = chkL (bef fs (k + 1)) (fs.drop (k + 1))) := Lib.hid (fun h => by rw [HST.out, h]; simp)
      cases pb with
      | false =>
        have hx : E = 6 := RET.out 6 (by rw [hfe]; simp) (by omega)
        obtain rfl := hx
        obtain ⟨S, hS⟩ : ∃ S, S = st f.1 := ⟨_, rfl⟩
        obtain ⟨B, hB⟩ : ∃ B, B = st f.2 := ⟨_, rfl⟩
        rw [← hS] at c0 d0 HPC HWA
        rw [← hB] at c1 d1 HWA qs
        clear hcell hf hlt hfe hnil hL hpb hWA hbA hS hB ax1
        go_wp2_with fail
        rw [← HWA.out]
        refine (HPC.out _).mono ?_
        rintro e w2 ⟨rfl, rfl⟩
        go_wp2_with fail
        go_ret
        exact ⟨rfl, HKX.out⟩
      | true =>
        match k, hk, hkn, hf, c0, c1, HST, hfe, RET, NXT with
        | 0, hk, hkn, hf, c0, c1, HST, hfe, RET, NXT =>
          have hfe0 : fileE (bef fs 0) f = if 16384 < L then 2 else 0 := by rw [bef_zero]; exact hnil rfl
          obtain ⟨S, hS⟩ : ∃ S, S = st f.1 := ⟨_, rfl⟩
          obtain ⟨B, hB⟩ : ∃ B, B = st f.2 := ⟨_, rfl⟩
          rw [← hS] at c0 d0 HPC HWA
          rw [← hB] at c1 d1 HWA qs
          have e0 : off + 0 * 2 = off := by omega
          rw [e0] at c0 c1
          clear hcell hf hlt hfe hnil hL hpb hWA hbA hS hB e0
          by_cases hl : 16384 < L
          · have hx : E = 2 := RET.out 2 (by rw [hfe0, if_pos hl]) (by omega)
            obtain rfl := hx
            have j1 : (16384 : Int) < (L : Int) := by omega
            clear hl hfe0
            go_wp2_with fail
            rw [← HWA.out]
            refine (HPC.out _).mono ?_
            rintro e w2 ⟨rfl, rfl⟩
            go_wp2_with fail
            go_quiet (fail)
            go_wp2_with fail
            go_quiet (fail)
            go_wp2_with fail
            go_ret
            exact ⟨rfl, by repeat (first | exact HKX.out | refine Kp.trans ?_ (Kp.drewN _ _))⟩
          · have HNX := Lib.hid (NXT.out (by rw [hfe0, if_neg hl]))
            have j1 : (L : Int) ≤ (16384 : Int) := by omega
            clear hl hfe0
            go_wp2_with fail
            rw [← HWA.out]
            refine (HPC.out _).mono ?_
            rintro e w2 ⟨rfl, rfl⟩
            go_wp2_with fail
            go_quiet (fail)
            go_wp2_with fail
            go_quiet (fail)
            go_wp2_with fail
            go_roundw
            case rel => exact ⟨0 + 1, by go_num, by omega, HNX.out, Kp.trans HKP0.out (by repeat (first | exact HKA.out | refine Kp.trans ?_ (Kp.drewN _ _)))⟩
            case measure => simp [intOf]; omega
        | j + 1, hk, hkn, hf, c0, c1, HST, hfe, RET, NXT =>
          obtain ⟨g, hg⟩ : ∃ g, fs[j]? = some g := ⟨_, List.getElem?_eq_getElem (by have := HN.out; omega)⟩
          obtain ⟨p0, -⟩ := hcell j g hg
          have p1 := cell_kept p0 HKA.out
          have hbg : bef fs (j + 1) = g.1 := bef_succ hg
          have hlg := HR.out.lt g (List.mem_of_getElem? hg)
          rw [hbg] at hfe RET NXT
          have hq := st_inj' hlt.1 hlg.1
          have hls := less_st hlt.1 hlg.1
          obtain ⟨c, hc⟩ : ∃ c, c = lss f.1 g.1 := ⟨_, rfl⟩
          obtain ⟨d, hd⟩ : ∃ d, d = decide (f.1 = g.1) := ⟨_, rfl⟩
          have hfe : fileE g.1 f = if d = true then 10 else if c = true then 6 else if 16384 < L then 2 else 0 := by
            rw [hfe, if_neg (by simp), ← hc, hd]
            simp only [decide_eq_true_eq]
          rw [← hc] at hls
          rw [← hd] at hq
          have hjn : (j : Int) + 1 < (n : Int) := by omega
          have hjn' : (j : Int) < (n : Int) := by omega
          obtain ⟨S, hS⟩ : ∃ S, S = st f.1 := ⟨_, rfl⟩
          obtain ⟨B, hB⟩ : ∃ B, B = st f.2 := ⟨_, rfl⟩
          obtain ⟨P, hP⟩ : ∃ P, P = st g.1 := ⟨_, rfl⟩
          rw [← hS] at c0 d0 HPC HWA hq hls
          rw [← hB] at c1 d1 HWA qs
          rw [← hP] at p0 p1 hq hls
          clear hcell hf hlt hnil hL hpb hWA hbA hS hB hP hg hbg hlg hc hd
          cases d with
          | true =>
            have hx : E = 10 := RET.out 10 (by rw [hfe]; simp) (by omega)
            obtain rfl := hx
            clear hfe
            go_wp2_with fail
            rw [← HWA.out]
            refine (HPC.out _).mono ?_
            rintro e w2 ⟨rfl, rfl⟩
            go_wp2_with fail
            go_quiet (fail)
            go_wp2_with fail
            go_ret
            exact ⟨rfl, by repeat (first | exact HKX.out | refine Kp.trans ?_ (Kp.drewN _ _))⟩
          | false =>
            cases c with
            | true =>
              have hx : E = 6 := RET.out 6 (by rw [hfe]; simp) (by omega)
              obtain rfl := hx
              clear hfe
              go_wp2_with fail
              rw [← HWA.out]
              refine (HPC.out _).mono ?_
              rintro e w2 ⟨rfl, rfl⟩
              go_wp2_with fail
              go_quiet (fail)
              go_wp2_with fail
              go_quiet (fail)
              go_wp2_with fail
              go_ret
              exact ⟨rfl, by repeat (first | exact HKX.out | refine Kp.trans ?_ (Kp.drewN _ _))⟩
            | false =>
              by_cases hl : 16384 < L
              · have hx : E = 2 := RET.out 2 (by rw [hfe]; simp [hl]) (by omega)
                obtain rfl := hx
                have j1 : (16384 : Int) < (L : Int) := by omega
                clear hl hfe
                go_wp2_with fail
                rw [← HWA.out]
                refine (HPC.out _).mono ?_
                rintro e w2 ⟨rfl, rfl⟩
                go_wp2_with fail
                go_quiet (fail)
                go_wp2_with fail
                go_quiet (fail)
                go_wp2_with fail
                go_ret
                exact ⟨rfl, by repeat (first | exact HKX.out | refine Kp.trans ?_ (Kp.drewN _ _))⟩
              · have HNX := Lib.hid (NXT.out (by rw [hfe]; simp [hl]))
                have j1 : (L : Int) ≤ (16384 : Int) := by omega
                clear hl hfe
                go_wp2_with fail
                rw [← HWA.out]
                refine (HPC.out _).mono ?_
                rintro e w2 ⟨rfl, rfl⟩
                go_wp2_with fail
                go_quiet (fail)
                go_wp2_with fail
                go_quiet (fail)
                go_wp2_with fail
                go_roundw
                case rel => exact ⟨j + 1 + 1, by go_num, by omega, HNX.out, Kp.trans HKP0.out (by repeat (first | exact HKA.out | refine Kp.trans ?_ (Kp.drewN _ _)))⟩
                case measure => simp [intOf]; omega
    · have HE0 : Hid (E = 0) := Lib.hid (by rw [HEE.out, List.drop_eq_nil_of_le (by have := HN.out; omega)]; rfl)
      obtain rfl := HE0.out
      clear HE0
      go_wp2_with fail
      go_ret
      exact ⟨rfl, HKP.out⟩
end By
end Go.Proofs.YtfobogcccbddbaaGreatDoor

/- The reference's Same. Condition: the slices read as the files that are named. -/
namespace Go.Proofs.YtfobogcccbddbaaGreatDoor
namespace By
open Go.RowKit WireN LexN RevN
set_option linter.unusedVariables false
set_option linter.unusedSimpArgs false

set_option maxRecDepth 100000 in
set_option maxHeartbeats 2000000 in
theorem rSame_any {ua ub : Value} {fs gs : List Fl} {w : World} (ha : Rw w ua fs) (hb : Rw w ub gs) :
    Calls Tryz.prog 17 #[.agg #[ua], .agg #[ub]] w fun e w' => e = .returned (.bool (decide (fs = gs))) ∧ Kp w w' := by
  obtain ⟨aa, ca, rfl, hca, hmx, -⟩ := ha.open3
  obtain ⟨ab, cb, rfl, hcb, -, -⟩ := hb.open3
  obtain ⟨n, hn⟩ : ∃ n, n = fs.length := ⟨_, rfl⟩
  obtain ⟨m, hm⟩ : ∃ m, m = gs.length := ⟨_, rfl⟩
  rw [← hn] at ha hca ⊢
  rw [← hm] at hb hcb ⊢
  have HA := Lib.hid ha; have HB := Lib.hid hb; have HN := Lib.hid hn; have HM := Lib.hid hm
  have hcai : (n : Int) ≤ (ca : Int) := by omega
  have hnb : (n : Int) ≤ 9223372036854775807 := by unfold maxLen at hmx; omega
  clear hmx
  have hcbi : (m : Int) ≤ (cb : Int) := by omega
  obtain ⟨g1, hg1⟩ : ∃ g, g = w.heap.size := ⟨_, rfl⟩
  obtain ⟨g2, hg2⟩ : ∃ g, g = w.heap.size + 1 := ⟨_, rfl⟩
  obtain ⟨Wa, hWa⟩ : ∃ W, W = w.alloc (.cells #[.slice aa n ca] 25) := ⟨_, rfl⟩
  obtain ⟨W0, hW0⟩ : ∃ W, W = Wa.alloc (.cells #[.slice ab m cb] 25) := ⟨_, rfl⟩
  have hz : Wa.heap.size = w.heap.size + 1 := by rw [hWa]; simp
  have k1 : Kp w Wa := by rw [hWa]; exact kp_alloc w _
  have k2 : Kp Wa W0 := by rw [hW0]; exact kp_alloc Wa _
  have HK0 : Hid (Kp w W0) := Lib.hid (Kp.trans k1 k2)
  have B1 : Hid (Blk W0 g1 25 #[.slice aa n ca]) := Lib.hid (by
    have : Blk Wa w.heap.size 25 #[.slice aa n ca] := by rw [hWa]; exact Blk.new _ _ _
    rw [hg1]
    exact this.keep k2)
  have B2 : Hid (Blk W0 g2 25 #[.slice ab m cb]) := Lib.hid (by rw [hW0, hg2, ← hz]; exact Blk.new _ _ _)
  have HW0 : Hid (W0 = (w.alloc (.cells #[.slice aa n ca] 25)).alloc (.cells #[.slice ab m cb] 25)) := Lib.hid (by rw [hW0, hWa])
  have HG1 := Lib.hid hg1; have HG2 := Lib.hid hg2
  obtain ⟨D, hD⟩ : ∃ D, D = decide (fs = gs) := ⟨_, rfl⟩
  rw [← hD]
  have HD := Lib.hid hD
  clear ha hb hca hcb hn hm hg1 hg2 hWa hW0 hz k1 k2 hD
  by_cases hnm : n = m
  · have q1 : ((n : Int) == (m : Int)) = true := by rw [beq_iff_eq]; omega
    have q2 : ((n : Int) != (m : Int)) = false := by rw [bne_eq_false_iff_eq]; omega
    have HNM := Lib.hid hnm
    clear hnm
    go_enter Tryz.func17, Tryz.ntmps17
    go_wp2_with fail
    rw [← HW0.out, ← HG2.out, ← HG1.out]
    go_loopw [16] (fun i wr => ∃ k : Nat, i = .int .i64 k ∧ k ≤ n ∧ fs.take k = gs.take k ∧ Kp W0 wr) (fun i _ => n - (intOf i).toNat)
    case atStart => exact ⟨0, rfl, Nat.zero_le _, by simp, Kp.refl _⟩
    case round =>
      obtain ⟨k, rfl, hk, htk, hkp⟩ := hrel
      rename World => wx
      have HT := Lib.hid htk; have HKP := Lib.hid hkp; have HKX := Lib.hid (Kp.trans HK0.out hkp)
      have a0 := (B1.out.keep hkp).cell 0 rfl; have b0 := (B2.out.keep hkp).cell 0 rfl
      clear htk hkp
      by_cases hkn : k < n
      · obtain ⟨f, hf⟩ : ∃ f, fs[k]? = some f := ⟨_, List.getElem?_eq_getElem (by have := HN.out; omega)⟩
        obtain ⟨g, hg⟩ : ∃ g, gs[k]? = some g := ⟨_, List.getElem?_eq_getElem (by have := HM.out; have := HNM.out; omega)⟩
        obtain ⟨p, o, rfl, hc⟩ := (HA.out.keep HKX.out).cell (by omega)
        obtain ⟨p', o', rfl, hc'⟩ := (HB.out.keep HKX.out).cell (by have := HNM.out; omega)
        obtain ⟨c0, c1⟩ := hc k f hf
        obtain ⟨d0, d1⟩ := hc' k g hg
        have hlf := HA.out.lt f (List.mem_of_getElem? hf)
        have hlg := HB.out.lt g (List.mem_of_getElem? hg)
        have hq1 := st_inj' hlf.1 hlg.1
        have hq2 := st_inj' hlf.2 hlg.2
        have hkm : (k : Int) < (m : Int) := by have := HNM.out; omega
        obtain ⟨x, hx⟩ : ∃ x, x = decide (f.1 = g.1) := ⟨_, rfl⟩
        obtain ⟨y, hy⟩ : ∃ y, y = decide (f.2 = g.2) := ⟨_, rfl⟩
        have HNE : Hid ((x = false ∨ y = false) → D = false) := Lib.hid (by
          intro h
          rw [HD.out]
          apply decide_eq_false
          intro e
          rw [e, hg] at hf
          injection hf with hf
          subst hf
          rcases h with h | h
          · rw [hx] at h; simp at h
          · rw [hy] at h; simp at h)
        have HEQ : Hid (x = true → y = true → fs.take (k + 1) = gs.take (k + 1)) := Lib.hid (by
          intro h1 h2
          rw [hx] at h1
          rw [hy] at h2
          rw [List.take_add_one, List.take_add_one, hf, hg, HT.out]
          have e1 := of_decide_eq_true h1
          have e2 := of_decide_eq_true h2
          rw [Prod.ext e1 e2])
        rw [← hx] at hq1
        rw [← hy] at hq2
        obtain ⟨S1, hS1⟩ : ∃ S, S = st f.1 := ⟨_, rfl⟩
        obtain ⟨S2, hS2⟩ : ∃ S, S = st f.2 := ⟨_, rfl⟩
        obtain ⟨T1, hT1⟩ : ∃ S, S = st g.1 := ⟨_, rfl⟩
        obtain ⟨T2, hT2⟩ : ∃ S, S = st g.2 := ⟨_, rfl⟩
        rw [← hS1] at c0 hq1
        rw [← hS2] at c1 hq2
        rw [← hT1] at d0 hq1
        rw [← hT2] at d1 hq2
        clear hc hc' hf hg hlf hlg hx hy hS1 hS2 hT1 hT2
        cases x with
        | false =>
          have hD0 := HNE.out (.inl rfl)
          subst hD0
          go_wp2_with fail
          go_quiet (fail)
          go_wp2_with fail
          go_ret
          exact ⟨rfl, Kp.trans HKX.out (Kp.drewN _ _)⟩
        | true =>
          cases y with
          | false =>
            have hD0 := HNE.out (.inr rfl)
            subst hD0
            go_wp2_with fail
            go_quiet (fail)
            go_wp2_with fail
            go_ret
            exact ⟨rfl, Kp.trans HKX.out (Kp.drewN _ _)⟩
          | true =>
            have HT2 := Lib.hid (HEQ.out rfl rfl)
            clear HEQ HNE
            go_wp2_with fail
            go_quiet (fail)
            go_wp2_with fail
            go_roundw
            case rel => exact ⟨k + 1, by go_num, by omega, HT2.out, Kp.trans HKP.out (Kp.drewN _ _)⟩
            case measure => simp [intOf]; omega
      · have hD0 : D = true := by
          rw [HD.out]
          apply decide_eq_true
          have h1 := HT.out
          rw [List.take_of_length_le (by have := HN.out; omega), List.take_of_length_le (by have := HM.out; have := HNM.out; omega)] at h1
          exact h1
        subst hD0
        go_wp2_with fail
        go_ret
        exact ⟨rfl, HKX.out⟩
  · have q1 : ((n : Int) == (m : Int)) = false := beq_eq_false_iff_ne.2 (by omega)
    have q2 : ((n : Int) != (m : Int)) = true := by rw [bne_iff_ne]; omega
    have hD0 : D = false := by
      rw [HD.out]
      apply decide_eq_false
      intro e
      have h1 := HN.out; have h2 := HM.out
      rw [e] at h1
      omega
    subst hD0
    clear hnm
    go_enter Tryz.func17, Tryz.ntmps17
    go_wp2_with fail
    go_ret
    rw [← HW0.out]
    exact ⟨rfl, HK0.out⟩
end By
end Go.Proofs.YtfobogcccbddbaaGreatDoor
