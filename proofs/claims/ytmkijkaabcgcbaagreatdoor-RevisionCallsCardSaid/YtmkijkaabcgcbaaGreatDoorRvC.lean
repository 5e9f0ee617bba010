/- The program's check of a file behind another one, and of a revision. Conditions: the slice reads as the files that are named; a package variable of the library holds some integer. -/
import Derived.Test.YtmkijkaabcgcbaaGreatDoorMRm
namespace Go.Proofs.YtmkijkaabcgcbaaGreatDoor
namespace By
open Go.RowKit WireN LexN RevN
set_option linter.unusedVariables false
set_option linter.unusedSimpArgs false

set_option maxRecDepth 100000 in
set_option maxHeartbeats 1000000 in
theorem checkFile_any {f : Fl} {p : List Nat} (h1 : Lt f.1) (hp : Lt p) {w : World} (hm : MX w) :
    Calls Tryz.prog 34 #[.agg #[.string (st f.1), .string (st f.2)], .string (st p)] w fun e w' => e = .returned (.int .i64 (fileE p f : Nat)) ∧ Kp w w' := by
  have HK0 := Lib.hid (kp_alloc w (.cells #[.string (st f.1), .string (st f.2)] 55))
  have HB0 := Lib.hid (Blk.new w 55 #[.string (st f.1), .string (st f.2)])
  have HC := Lib.hid (PathA h1 (hm.keep HK0.out))
  have hq := st_inj' h1 hp
  have hls := less_st h1 hp
  obtain ⟨n, hn⟩ : ∃ n, n = f.2.length := ⟨_, rfl⟩
  have qs : ∀ w, (Builtin.len_ #[9] 3 #[.string (st f.2)]).run Tryz.prog w = .ok (goInt n) w := fun w => by rw [hn]; exact len w
  have hE : fileE p f = if pathB f.1 = false then 6 else if decide (f.1 = p) = true then 10 else if lss f.1 p = true then 6 else if 16384 < n then 2 else 0 := by
    rw [hn]
    simp only [decide_eq_true_eq]
    rfl
  obtain ⟨E, hEE⟩ : ∃ E, E = fileE p f := ⟨_, rfl⟩
  rw [← hEE] at hE ⊢
  obtain ⟨b, hb⟩ : ∃ b, b = pathB f.1 := ⟨_, rfl⟩
  obtain ⟨c, hc⟩ : ∃ c, c = lss f.1 p := ⟨_, rfl⟩
  obtain ⟨d, hd⟩ : ∃ d, d = decide (f.1 = p) := ⟨_, rfl⟩
  rw [← hb] at HC hE
  rw [← hc] at hls hE
  rw [← hd] at hq hE
  obtain ⟨S, hS⟩ : ∃ S, S = st f.1 := ⟨_, rfl⟩
  obtain ⟨B, hB⟩ : ∃ B, B = st f.2 := ⟨_, rfl⟩
  obtain ⟨P, hP⟩ : ∃ P, P = st p := ⟨_, rfl⟩
  rw [← hS, ← hB] at HK0 HB0 HC
  rw [← hS, ← hP] at hq hls
  rw [← hB] at qs
  rw [← hS, ← hB, ← hP]
  have HE := Lib.hid hE
  clear h1 hp hm hn hEE hE hb hc hd hS hB hP
  go_enter Tryz.func34, Tryz.ntmps34
  go_wp2_with fail
  refine HC.out.mono ?_
  rintro e w2 ⟨rfl, hk⟩
  have HK2 := Lib.hid (Kp.trans HK0.out hk)
  have hb2 := HB0.out.keep hk
  have c0 := hb2.cell 0 rfl; have c1 := hb2.cell 1 rfl
  clear hk hb2
  have E1 := HE.out
  cases b with
  | false =>
    obtain rfl : E = 6 := by simpa using E1
    clear E1
    go_wp2_with fail
    go_ret
    exact ⟨rfl, HK2.out⟩
  | true =>
    cases d with
    | true =>
      obtain rfl : E = 10 := by simpa using E1
      clear E1
      go_wp2_with fail
      go_ret
      exact ⟨rfl, HK2.out⟩
    | false =>
      cases c with
      | true =>
        obtain rfl : E = 6 := by simpa using E1
        clear E1
        go_wp2_with fail
        go_ret
        exact ⟨rfl, HK2.out⟩
      | false =>
        by_cases h : 16384 < n
        · obtain rfl : E = 2 := by simpa [h] using E1
          have i1 : (16384 : Int) < (n : Int) := by omega
          clear E1 h
          go_wp2_with fail
          go_ret
          exact ⟨rfl, HK2.out⟩
        · obtain rfl : E = 0 := by simpa [h] using E1
          have i1 : (n : Int) ≤ (16384 : Int) := by omega
          clear E1 h
          go_wp2_with fail
          go_ret
          exact ⟨rfl, HK2.out⟩

theorem lt_bef {fs : List Fl} (h : ∀ f ∈ fs, Lt f.1 ∧ Lt f.2) (k : Nat) : Lt (bef fs k) := by
  unfold bef
  split
  · exact Lt.nil
  · by_cases hk : k - 1 < fs.length
    · rw [List.getElem?_eq_getElem hk]
      exact (h _ (List.getElem_mem hk)).1
    · rw [List.getElem?_eq_none (by omega)]
      exact Lt.nil
set_option maxRecDepth 100000 in
set_option maxHeartbeats 1000000 in
theorem Check_any {u : Value} {fs : List Fl} {w : World} (hr : Rw w u fs) (hm : MX w) :
    Calls Tryz.prog 8 #[.agg #[u]] w fun e w' => e = .returned (.int .i64 (chk fs : Nat)) ∧ Kp w w' := by
  obtain ⟨ao, cap, rfl, hcap, hmx, hno⟩ := hr.open3
  obtain ⟨n, hn⟩ : ∃ n, n = fs.length := ⟨_, rfl⟩
  have HK0 := Lib.hid (kp_alloc w (.cells #[.slice ao fs.length cap] 28))
  rw [← hn] at hr HK0 hcap ⊢
  have HM := Lib.hid hm; have HR := Lib.hid hr; have HN := Lib.hid hn
  have HC : Hid (chk fs = if 64 < n then 2 else chkL [] fs) := Lib.hid (by rw [hn]; rfl)
  have hcp : (n : Int) ≤ (cap : Int) := by omega
  clear hr hm hn hmx hno hcap
  by_cases h : 64 < n
  · have i1 : (64 : Int) < (n : Int) := by omega
    have HE : Hid (chk fs = 2) := Lib.hid (by rw [HC.out, if_pos h])
    obtain ⟨E, hE⟩ : ∃ E, E = chk fs := ⟨_, rfl⟩
    rw [← hE] at HE ⊢
    obtain rfl := HE.out
    clear h hE HE
    go_enter Tryz.func8, Tryz.ntmps8
    go_wp2_with fail
    go_ret
    exact ⟨rfl, HK0.out⟩
  have i1 : (n : Int) ≤ (64 : Int) := by omega
  have HE : Hid (chk fs = chkL [] fs) := Lib.hid (by rw [HC.out, if_neg h])
  obtain ⟨E, hE⟩ : ∃ E, E = chk fs := ⟨_, rfl⟩
  rw [← hE] at HE ⊢
  obtain ⟨W0, hW0⟩ : ∃ W0, W0 = w.alloc (.cells #[.slice ao n cap] 28) := ⟨_, rfl⟩
  have HW0 := Lib.hid hW0
  rw [← hW0] at HK0
  clear h hE HC hW0
  go_enter Tryz.func8, Tryz.ntmps8
  go_wp2_with fail
  rw [← HW0.out]
  go_loopw [3, 14] (fun b v wr => ∃ k : Nat, v = .int .i64 k ∧ k ≤ n ∧ b = .string (st (bef fs k)) ∧ E = chkL (bef fs k) (fs.drop k) ∧ Kp w wr) (fun _ v _ => n - (intOf v).toNat)
  case atStart => exact ⟨0, rfl, Nat.zero_le _, rfl, HE.out, HK0.out⟩
  case round =>
    obtain ⟨k, rfl, hk, rfl, hE, hkp⟩ := hrel
    rename World => wx
    have HKP := Lib.hid hkp; have HEE := Lib.hid hE
    clear hkp hE
    by_cases hkn : k < n
    · obtain ⟨f, hf⟩ : ∃ f, fs[k]? = some f := ⟨_, List.getElem?_eq_getElem (by have := HN.out; omega)⟩
      obtain ⟨b, off, rfl, hcell⟩ := (HR.out.keep HKP.out).cell (by omega)
      obtain ⟨c0, c1⟩ := hcell k f hf
      have hlt := HR.out.lt f (List.mem_of_getElem? hf)
      have HST : Hid (E = if fileE (bef fs k) f ≠ 0 then fileE (bef fs k) f else chkL (bef fs (k + 1)) (fs.drop (k + 1))) := Lib.hid (by rw [HEE.out, chkL_step hf, bef_succ hf])
      have HBS : Hid (f.1 = bef fs (k + 1)) := Lib.hid (bef_succ hf).symm
      have HCF := Lib.hid (fun (W : World) (hk : Kp wx W) => checkFile_any (f := f) (p := bef fs k) (w := W) hlt.1 (lt_bef HR.out.lt k) (HM.out.keep (Kp.trans HKP.out hk)))
      obtain ⟨X, hX⟩ : ∃ X, X = fileE (bef fs k) f := ⟨_, rfl⟩
      rw [← hX] at HST HCF
      obtain ⟨P, hP⟩ : ∃ P, P = st (bef fs k) := ⟨_, rfl⟩
      obtain ⟨S, hS⟩ : ∃ S, S = st f.1 := ⟨_, rfl⟩
      obtain ⟨B, hB⟩ : ∃ B, B = st f.2 := ⟨_, rfl⟩
      rw [← hP, ← hS, ← hB] at HCF
      rw [← hS] at c0
      rw [← hB] at c1
      rw [← hP]
      have HS := Lib.hid hS
      have HKA := Lib.hid (kp_alloc wx (.cells #[.string S, .string B] 55))
      have HBA := Lib.hid (Blk.new wx 55 #[.string S, .string B])
      clear hcell hf hlt hX hP hS hB
      go_wp2_with fail
      refine (HCF.out _ HKA.out).mono ?_
      rintro e w2 ⟨rfl, hk2⟩
      have HK2 := Lib.hid (Kp.trans HKA.out hk2)
      have d0 := (HBA.out.keep hk2).cell 0 rfl
      clear hk2 c0 c1
      by_cases hX : X = 0
      · subst hX
        go_wp2_with fail
        go_roundw
        case rel => exact ⟨k + 1, by go_num, by omega, by rw [← HBS.out, HS.out], by rw [HST.out]; simp, Kp.trans HKP.out HK2.out⟩
        case measure => simp [intOf]; omega
      · have HXE : Hid (X = E) := Lib.hid (by rw [HST.out, if_pos hX])
        have hx1 : ((X : Int) == 0) = false := beq_eq_false_iff_ne.2 (by omega)
        have hx2 : ((X : Int) != 0) = true := by rw [bne_iff_ne]; omega
        obtain rfl := HXE.out
        clear hX HXE
        go_wp2_with fail
        go_ret
        exact ⟨rfl, Kp.trans HKP.out HK2.out⟩
    · have HE0 : Hid (E = 0) := Lib.hid (by rw [HEE.out, List.drop_eq_nil_of_le (by have := HN.out; omega)]; rfl)
      obtain rfl := HE0.out
      clear HE0
      go_wp2_with fail
      go_ret
      exact ⟨rfl, HKP.out⟩
end By
end Go.Proofs.YtmkijkaabcgcbaaGreatDoor
