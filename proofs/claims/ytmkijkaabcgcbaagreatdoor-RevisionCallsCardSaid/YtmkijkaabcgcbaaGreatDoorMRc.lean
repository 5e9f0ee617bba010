/- The reference's check of a revision. Condition: the slice reads as the files that are named. -/
import Derived.Test.YtmkijkaabcgcbaaGreatDoorRvC
import Derived.Test.YtmkijkaabcgcbaaGreatDoorRvE
import Derived.Test.YtmkijkaabcgcbaaGreatDoorMNx
namespace Go.Proofs.YtmkijkaabcgcbaaGreatDoor
namespace By
open Go.RowKit WireN LexN RevN
set_option linter.unusedVariables false
set_option linter.unusedSimpArgs false

theorem fileE_nil {f : Fl} (h : pathB f.1 = true) : fileE [] f = if 16384 < f.2.length then 2 else 0 := by
  unfold fileE
  rw [if_neg (by rw [h]; simp), if_neg (path_ne h), if_neg (by rw [lss_nil]; simp)]
set_option maxRecDepth 100000 in
set_option maxHeartbeats 4000000 in
theorem rCheck_any {u : Value} {fs : List Fl} {w : World} (hr : Rw w u fs) :
    Calls Tryz.prog 9 #[.agg #[u]] w fun e w' => e = .returned (.int .i64 (chk fs : Nat)) ∧ Kp w w' := by
  obtain ⟨ao, cap, rfl, hcap, hmx, hno⟩ := hr.open3
  obtain ⟨n, hn⟩ : ∃ n, n = fs.length := ⟨_, rfl⟩
  have HK0 := Lib.hid (kp_alloc w (.cells #[.slice ao fs.length cap] 28))
  have HB0 := Lib.hid (Blk.new w 28 #[.slice ao fs.length cap])
  rw [← hn] at hr HK0 HB0 hcap ⊢
  have HR := Lib.hid hr; have HN := Lib.hid hn
  have HC : Hid (chk fs = if 64 < n then 2 else chkL [] fs) := Lib.hid (by rw [hn]; rfl)
  have hcp : (n : Int) ≤ (cap : Int) := by omega
  clear hr hn hmx hno hcap
  by_cases h : 64 < n
  · have i1 : (64 : Int) < (n : Int) := by omega
    have HE : Hid (chk fs = 2) := Lib.hid (by rw [HC.out, if_pos h])
    obtain ⟨E, hE⟩ : ∃ E, E = chk fs := ⟨_, rfl⟩
    rw [← hE] at HE ⊢
    obtain rfl := HE.out
    clear h hE HE
    go_enter Tryz.func9, Tryz.ntmps9
    go_wp2_with fail
    go_ret
    exact ⟨rfl, HK0.out⟩
  have i1 : (n : Int) ≤ (64 : Int) := by omega
  have HE : Hid (chk fs = chkL [] fs) := Lib.hid (by rw [HC.out, if_neg h])
  obtain ⟨E, hE⟩ : ∃ E, E = chk fs := ⟨_, rfl⟩
  rw [← hE] at HE ⊢
  obtain ⟨W0, hW0⟩ : ∃ W0, W0 = w.alloc (.cells #[.slice ao n cap] 28) := ⟨_, rfl⟩
  obtain ⟨ab, hab⟩ : ∃ ab, ab = w.heap.size := ⟨_, rfl⟩
  have HW0 := Lib.hid hW0; have HAB := Lib.hid hab
  rw [← hW0] at HK0 HB0
  rw [← hab] at HB0
  clear h hE HC hW0 hab
  go_enter Tryz.func9, Tryz.ntmps9
  go_wp2_with fail
  rw [← HW0.out, ← HAB.out]
  go_loopw [12] (fun v wr => ∃ k : Nat, v = .int .i64 k ∧ k ≤ n ∧ E = chkL (bef fs k) (fs.drop k) ∧ Kp W0 wr) (fun v _ => n - (intOf v).toNat)
  case atStart => exact ⟨0, rfl, Nat.zero_le _, HE.out, Kp.refl _⟩
  case round =>
    obtain ⟨k, rfl, hk, hE, hkp⟩ := hrel
    rename World => wx
    have HKP := Lib.hid (Kp.trans HK0.out hkp); have HEE := Lib.hid hE; have HKP0 := Lib.hid hkp
    have ax := (HB0.out.keep hkp).cell 0 rfl
    clear hkp hE
    by_cases hkn : k < n
    · obtain ⟨f, hf⟩ : ∃ f, fs[k]? = some f := ⟨_, List.getElem?_eq_getElem (by have := HN.out; omega)⟩
      obtain ⟨b, off, rfl, hcell⟩ := (HR.out.keep HKP.out).cell (by omega)
      obtain ⟨c0, c1⟩ := hcell k f hf
      have hlt := HR.out.lt f (List.mem_of_getElem? hf)
      have HST : Hid (E = if fileE (bef fs k) f ≠ 0 then fileE (bef fs k) f else chkL (bef fs (k + 1)) (fs.drop (k + 1))) := Lib.hid (by rw [HEE.out, chkL_step hf, bef_succ hf])
      have hfe : fileE (bef fs k) f = if pathB f.1 = false then 6 else if f.1 = bef fs k then 10 else if lss f.1 (bef fs k) = true then 6 else if 16384 < f.2.length then 2 else 0 := rfl
      have hnil := fileE_nil (f := f)
      obtain ⟨L, hL⟩ : ∃ L, L = f.2.length := ⟨_, rfl⟩
      have qs : ∀ w, (Builtin.len_ #[9] 3 #[.string (st f.2)]).run Tryz.prog w = .ok (goInt L) w := fun w => by rw [hL]; exact len w
      have HPC := Lib.hid (fun W => rPathA (l := f.1) hlt.1 W)
      obtain ⟨pb, hpb⟩ : ∃ b, b = pathB f.1 := ⟨_, rfl⟩
      rw [← hL, ← hpb] at hfe hnil
      rw [← hpb] at HPC
      obtain ⟨WA, hWA⟩ : ∃ WA, WA = wx.alloc (.cells #[.string (st f.1), .string (st f.2)] 55) := ⟨_, rfl⟩
      have HKA : Hid (Kp wx WA) := Lib.hid (by rw [hWA]; exact kp_alloc wx _)
      have hbA : Blk WA wx.heap.size 55 #[.string (st f.1), .string (st f.2)] := by rw [hWA]; exact Blk.new wx _ _
      have d0 := hbA.cell 0 rfl; have d1 := hbA.cell 1 rfl
      have ax1 := cell_kept ax HKA.out
      have HKX : Hid (Kp w WA) := Lib.hid (Kp.trans HKP.out HKA.out)
      have HWA := Lib.hid hWA
      have RET : Hid (∀ x, fileE (bef fs k) f = x → x ≠ 0 → E = x) := Lib.hid (fun x h1 h2 => by rw [HST.out, h1, if_pos h2])
      have NXT : Hid (fileE (bef fs k) f = 0 → E = chkL (bef fs (k + 1)) (fs.drop (k + 1))) := Lib.hid (fun h => by rw [HST.out, h]; simp)
      cases pb with
      | false =>
        have hx : E = 6 := RET.out 6 (by rw [hfe]; simp) (by omega)
        obtain rfl := hx
        obtain ⟨S, hS⟩ : ∃ S, S = st f.1 := ⟨_, rfl⟩
        obtain ⟨B, hB⟩ : ∃ B, B = st f.2 := ⟨_, rfl⟩
        rw [← hS] at c0 d0 HPC HWA
        rw [← hB] at c1 d1 HWA qs
        clear hcell hf hlt hfe hnil hL hpb hWA hbA hS hB ax1
        go_wp2_with fail
        rw [← HWA.out]
        refine (HPC.out _).mono ?_
        rintro e w2 ⟨rfl, rfl⟩
        go_wp2_with fail
        go_ret
        exact ⟨rfl, HKX.out⟩
      | true =>
        match k, hk, hkn, hf, c0, c1, HST, hfe, RET, NXT with
        | 0, hk, hkn, hf, c0, c1, HST, hfe, RET, NXT =>
          have hfe0 : fileE (bef fs 0) f = if 16384 < L then 2 else 0 := by rw [bef_zero]; exact hnil rfl
          obtain ⟨S, hS⟩ : ∃ S, S = st f.1 := ⟨_, rfl⟩
          obtain ⟨B, hB⟩ : ∃ B, B = st f.2 := ⟨_, rfl⟩
          rw [← hS] at c0 d0 HPC HWA
          rw [← hB] at c1 d1 HWA qs
          have e0 : off + 0 * 2 = off := by omega
          rw [e0] at c0 c1
          clear hcell hf hlt hfe hnil hL hpb hWA hbA hS hB e0
          by_cases hl : 16384 < L
          · have hx : E = 2 := RET.out 2 (by rw [hfe0, if_pos hl]) (by omega)
            obtain rfl := hx
            have j1 : (16384 : Int) < (L : Int) := by omega
            clear hl hfe0
            go_wp2_with fail
            rw [← HWA.out]
            refine (HPC.out _).mono ?_
            rintro e w2 ⟨rfl, rfl⟩
            go_wp2_with fail
            go_quiet (fail)
            go_wp2_with fail
            go_quiet (fail)
            go_wp2_with fail
            go_ret
            exact ⟨rfl, by repeat (first | exact HKX.out | refine Kp.trans ?_ (Kp.drewN _ _))⟩
          · have HNX := Lib.hid (NXT.out (by rw [hfe0, if_neg hl]))
            have j1 : (L : Int) ≤ (16384 : Int) := by omega
            clear hl hfe0
            go_wp2_with fail
            rw [← HWA.out]
            refine (HPC.out _).mono ?_
            rintro e w2 ⟨rfl, rfl⟩
            go_wp2_with fail
            go_quiet (fail)
            go_wp2_with fail
            go_quiet (fail)
            go_wp2_with fail
            go_roundw
            case rel => exact ⟨0 + 1, by go_num, by omega, HNX.out, Kp.trans HKP0.out (by repeat (first | exact HKA.out | refine Kp.trans ?_ (Kp.drewN _ _)))⟩
            case measure => simp [intOf]; omega
        | j + 1, hk, hkn, hf, c0, c1, HST, hfe, RET, NXT =>
          obtain ⟨g, hg⟩ : ∃ g, fs[j]? = some g := ⟨_, List.getElem?_eq_getElem (by have := HN.out; omega)⟩
          obtain ⟨p0, -⟩ := hcell j g hg
          have p1 := cell_kept p0 HKA.out
          have hbg : bef fs (j + 1) = g.1 := bef_succ hg
          have hlg := HR.out.lt g (List.mem_of_getElem? hg)
          rw [hbg] at hfe RET NXT
          have hq := st_inj' hlt.1 hlg.1
          have hls := less_st hlt.1 hlg.1
          obtain ⟨c, hc⟩ : ∃ c, c = lss f.1 g.1 := ⟨_, rfl⟩
          obtain ⟨d, hd⟩ : ∃ d, d = decide (f.1 = g.1) := ⟨_, rfl⟩
          have hfe : fileE g.1 f = if d = true then 10 else if c = true then 6 else if 16384 < L then 2 else 0 := by
            rw [hfe, if_neg (by simp), ← hc, hd]
            simp only [decide_eq_true_eq]
          rw [← hc] at hls
          rw [← hd] at hq
          have hjn : (j : Int) + 1 < (n : Int) := by omega
          have hjn' : (j : Int) < (n : Int) := by omega
          obtain ⟨S, hS⟩ : ∃ S, S = st f.1 := ⟨_, rfl⟩
          obtain ⟨B, hB⟩ : ∃ B, B = st f.2 := ⟨_, rfl⟩
          obtain ⟨P, hP⟩ : ∃ P, P = st g.1 := ⟨_, rfl⟩
          rw [← hS] at c0 d0 HPC HWA hq hls
          rw [← hB] at c1 d1 HWA qs
          rw [← hP] at p0 p1 hq hls
          clear hcell hf hlt hnil hL hpb hWA hbA hS hB hP hg hbg hlg hc hd
          cases d with
          | true =>
            have hx : E = 10 := RET.out 10 (by rw [hfe]; simp) (by omega)
            obtain rfl := hx
            clear hfe
            go_wp2_with fail
            rw [← HWA.out]
            refine (HPC.out _).mono ?_
            rintro e w2 ⟨rfl, rfl⟩
            go_wp2_with fail
            go_quiet (fail)
            go_wp2_with fail
            go_ret
            exact ⟨rfl, by repeat (first | exact HKX.out | refine Kp.trans ?_ (Kp.drewN _ _))⟩
          | false =>
            cases c with
            | true =>
              have hx : E = 6 := RET.out 6 (by rw [hfe]; simp) (by omega)
              obtain rfl := hx
              clear hfe
              go_wp2_with fail
              rw [← HWA.out]
              refine (HPC.out _).mono ?_
              rintro e w2 ⟨rfl, rfl⟩
              go_wp2_with fail
              go_quiet (fail)
              go_wp2_with fail
              go_quiet (fail)
              go_wp2_with fail
              go_ret
              exact ⟨rfl, by repeat (first | exact HKX.out | refine Kp.trans ?_ (Kp.drewN _ _))⟩
            | false =>
              by_cases hl : 16384 < L
              · have hx : E = 2 := RET.out 2 (by rw [hfe]; simp [hl]) (by omega)
                obtain rfl := hx
                have j1 : (16384 : Int) < (L : Int) := by omega
                clear hl hfe
                go_wp2_with fail
                rw [← HWA.out]
                refine (HPC.out _).mono ?_
                rintro e w2 ⟨rfl, rfl⟩
                go_wp2_with fail
                go_quiet (fail)
                go_wp2_with fail
                go_quiet (fail)
                go_wp2_with fail
                go_ret
                exact ⟨rfl, by repeat (first | exact HKX.out | refine Kp.trans ?_ (Kp.drewN _ _))⟩
              · have HNX := Lib.hid (NXT.out (by rw [hfe]; simp [hl]))
                have j1 : (L : Int) ≤ (16384 : Int) := by omega
                clear hl hfe
                go_wp2_with fail
                rw [← HWA.out]
                refine (HPC.out _).mono ?_
                rintro e w2 ⟨rfl, rfl⟩
                go_wp2_with fail
                go_quiet (fail)
                go_wp2_with fail
                go_quiet (fail)
                go_wp2_with fail
                go_roundw
                case rel => exact ⟨j + 1 + 1, by go_num, by omega, HNX.out, Kp.trans HKP0.out (by repeat (first | exact HKA.out | refine Kp.trans ?_ (Kp.drewN _ _)))⟩
                case measure => simp [intOf]; omega
    · have HE0 : Hid (E = 0) := Lib.hid (by rw [HEE.out, List.drop_eq_nil_of_le (by have := HN.out; omega)]; rfl)
      obtain rfl := HE0.out
      clear HE0
      go_wp2_with fail
      go_ret
      exact ⟨rfl, HKP.out⟩
end By
end Go.Proofs.YtmkijkaabcgcbaaGreatDoor

/- The bytes of a revision, as the reference writes them. Condition: the slice reads as the files that are named. -/
namespace Go.Proofs.YtmkijkaabcgcbaaGreatDoor
namespace By
open Go.RowKit WireN LexN RevN
set_option linter.unusedVariables false
set_option linter.unusedSimpArgs false

set_option maxRecDepth 100000 in
set_option maxHeartbeats 2000000 in
theorem rEncode_any {u : Value} {fs : List Fl} {w : World} (hr : Rw w u fs) :
    Calls Tryz.prog 25 #[.agg #[u]] w (EncV w fs) := by
  obtain ⟨ao, cap, rfl, hcap, hmx, hno⟩ := hr.open3
  obtain ⟨n, hn⟩ : ∃ n, n = fs.length := ⟨_, rfl⟩
  obtain ⟨W0, hW0⟩ : ∃ W0, W0 = w.alloc (.cells #[.slice ao fs.length cap] 28) := ⟨_, rfl⟩
  have HK0 : Hid (Kp w W0) := Lib.hid (by rw [hW0]; exact kp_alloc w _)
  have HB0 : Hid (Blk W0 w.heap.size 28 #[.slice ao fs.length cap]) := Lib.hid (by rw [hW0]; exact Blk.new w _ _)
  have HC := Lib.hid (rCheck_any (hr.keep HK0.out))
  rw [← hn] at hr hcap hW0 HB0 HC ⊢
  obtain ⟨Q, hQ⟩ : ∃ Q, Q = EncV w fs := ⟨_, rfl⟩
  rw [← hQ]
  have HQ := Lib.hid hQ
  obtain ⟨E, hE⟩ : ∃ E, E = chk fs := ⟨_, rfl⟩
  rw [← hE] at HC
  have HR := Lib.hid hr; have HN := Lib.hid hn; have HEE := Lib.hid hE; have HW0 := Lib.hid hW0
  have hcp : (n : Int) ≤ (cap : Int) := by omega
  have ha0 := HB0.out.cell 0 rfl
  rw [hW0] at ha0
  clear hr hn hmx hno hcap hQ hE hW0
  go_enter Tryz.func25, Tryz.ntmps25
  go_wp2_with fail
  rw [← HW0.out]
  clear ha0
  refine HC.out.mono ?_
  rintro e w1 ⟨rfl, hk1⟩
  have HK1 := Lib.hid (Kp.trans HK0.out hk1)
  have a1 := (HB0.out.keep hk1).cell 0 rfl
  clear hk1 HB0
  by_cases hE0 : E = 0
  · subst hE0
    have HOK := Lib.hid (chk_ok HEE.out.symm)
    have hn64 : (n : Int) ≤ 64 := by have := HOK.out.1; have := HN.out; omega
    have hn64' : n ≤ 64 := by omega
    go_wp2_with fail
    go_loopw [5, 20] (fun v i wr => ∃ k : Nat, i = .int .i64 k ∧ k ≤ n ∧ Own w1 wr v (encB (fs.take k))) (fun _ i _ => n - (intOf i).toNat)
    case atStart => exact ⟨0, rfl, Nat.zero_le _, Own.start w1⟩
    case round =>
      obtain ⟨k, rfl, hk, hown⟩ := hrel
      rename World => wx
      have HO := Lib.hid hown
      obtain ⟨oa, oc, ho, -, -⟩ := hown.form
      obtain ⟨ol, hol⟩ : ∃ ol, ol = (encB (fs.take k)).length := ⟨_, rfl⟩
      rw [← hol] at ho
      subst ho
      have HOL := Lib.hid hol
      have HBL : Hid ((encB (fs.take k)).length ≤ 16600 * 64) := Lib.hid (by
        have h1 := encB_len (fs := fs.take k) (fun f hf => ⟨path_len (chkL_mem HOK.out.2 f (List.mem_of_mem_take hf)).1, (chkL_mem HOK.out.2 f (List.mem_of_mem_take hf)).2⟩)
        have h2 : (fs.take k).length ≤ 64 := by rw [List.length_take]; have := HOK.out.1; omega
        omega)
      have ax := cell_kept a1 hown.kp
      have HNB : Hid (∀ b, (Value.slice oa ol oc).ownBlock = some b → b ≠ wx.heap.size) := Lib.hid (fun b hb => by have := (hown.owns.lt b hb).2; omega)
      clear hown hol
      by_cases hkn : k < n
      · obtain ⟨f, hf⟩ : ∃ f, fs[k]? = some f := ⟨_, List.getElem?_eq_getElem (by have := HN.out; omega)⟩
        obtain ⟨b, off, rfl, hcell⟩ := (HR.out.keep (Kp.trans HK1.out HO.out.kp)).cell (by omega)
        obtain ⟨c0, c1⟩ := hcell k f hf
        have hlt := HR.out.lt f (List.mem_of_getElem? hf)
        have hmem := chkL_mem HOK.out.2 f (List.mem_of_getElem? hf)
        have hpl := path_len hmem.1
        have hbl := hmem.2
        have hbs1 := bs_st hlt.1; have hbs2 := bs_st hlt.2
        have hpay := payF_len hpl hbl
        have hz1 : (st f.1).size = f.1.length := st_size _
        have hz2 : (st f.2).size = f.2.length := st_size _
        have C1 : Hid (∀ W : World, Calls Tryz.prog 47 #[.slice none 0 0, .string (st f.1)] W fun e W' => (∃ v', e = .returned v' ∧ Sl W' v' (uv f.1.length ++ f.1)) ∧ Kp W W') := Lib.hid (fun W =>
          (rPutText_any (Sl.nil W) (by simp) (st f.1) (by omega)).mono (by
            rintro e W' ⟨v', rfl, ho⟩
            rw [hz1, hbs1] at ho
            have h3 := uv_ten (n := f.1.length) (by omega)
            exact ⟨⟨v', rfl, by simpa using ho.sl (by simp; omega)⟩, ho.kp⟩))
        have C2 : Hid (∀ (W : World) (v : Value), Sl W v (uv f.1.length ++ f.1) → Calls Tryz.prog 47 #[v, .string (st f.2)] W fun e W' => (∃ v', e = .returned v' ∧ Sl W' v' (payF f)) ∧ Kp W W') := Lib.hid (fun W v hv =>
          (rPutText_any hv (by have h3 := uv_ten (n := f.1.length) (by omega); simp; omega) (st f.2) (by omega)).mono (by
            rintro e W' ⟨v', rfl, ho⟩
            rw [hz2, hbs2] at ho
            exact ⟨⟨v', rfl, by
              have h4 := ho.sl (by show (payF f).length ≤ _; omega)
              exact h4⟩, ho.kp⟩))
        have C3 : Hid (∀ (W : World) (v : Value), Sl W v (payF f) → Calls Tryz.prog 27 #[.agg #[.int .i64 1, v]] W fun e W' => (∃ v', e = .returned (.tuple #[v', .int .i64 0]) ∧ Sl W' v' (encF f)) ∧ Kp W W') := Lib.hid (fun W v hv => (rFrame_ok hv 1 (by omega) (by omega) (by omega)).mono (by rintro e W' ⟨⟨v', h1, h2, -⟩, h3⟩; exact ⟨⟨v', h1, h2⟩, h3⟩))
        have HEN : Hid (encB (fs.take (k + 1)) = encB (fs.take k) ++ encF f) := Lib.hid (encB_take hf)
        have HSUM : Hid ((encB (fs.take k)).length + (encF f).length ≤ 140737488355328) := Lib.hid (by have := encF_len hpl hbl; have := HBL.out; omega)
        obtain ⟨S, hS⟩ : ∃ S, S = st f.1 := ⟨_, rfl⟩
        obtain ⟨B, hB⟩ : ∃ B, B = st f.2 := ⟨_, rfl⟩
        obtain ⟨PA, hPA⟩ : ∃ PA, PA = uv f.1.length ++ f.1 := ⟨_, rfl⟩
        obtain ⟨PF, hPF⟩ : ∃ PF, PF = payF f := ⟨_, rfl⟩
        obtain ⟨EF, hEF⟩ : ∃ EF, EF = encF f := ⟨_, rfl⟩
        obtain ⟨ZS, hZS⟩ : ∃ ZS, ZS = encB (fs.take k) := ⟨_, rfl⟩
        rw [← hS, ← hPA] at C1
        rw [← hB, ← hPA, ← hPF] at C2
        rw [← hPF, ← hEF] at C3
        rw [← hEF, ← hZS] at HEN HSUM
        rw [← hZS] at HO HOL
        rw [← hS] at c0
        rw [← hB] at c1
        obtain ⟨WA, hWA⟩ : ∃ WA, WA = wx.alloc (.cells #[.string S, .string B] 55) := ⟨_, rfl⟩
        have HWA := Lib.hid hWA
        have HKA : Hid (Kp wx WA) := Lib.hid (by rw [hWA]; exact kp_alloc wx _)
        have hbA : Blk WA wx.heap.size 55 #[.string S, .string B] := by rw [hWA]; exact Blk.new wx _ _
        have d0 := hbA.cell 0 rfl; have d1 := hbA.cell 1 rfl
        clear hcell hf hlt hmem hpl hbl hbs1 hbs2 hpay hz1 hz2 hS hB hPA hPF hEF hZS hWA hbA HBL
        go_wp2_with fail
        rw [← HWA.out]
        clear c0 c1
        go_region_held3 (fun w' => w'.cell? ⟨wx.heap.size, 0, none⟩ = some (.string S) ∧ w'.cell? ⟨wx.heap.size, 1, none⟩ = some (.string B))
          (first
            | exact ⟨d0, d1⟩
            | exact ⟨cell_kept d0 hk4, cell_kept d1 hk4⟩
            | exact ⟨cell_kept d0 hk3, cell_kept d1 hk3⟩
            | exact ⟨cell_kept d0 hk2, cell_kept d1 hk2⟩
            | fail "no keep")
          (first
            | (go_at_call 47; refine (C2.out _ _ hs2).mono ?_; rintro e w3 ⟨⟨v3, rfl, hs3⟩, hk3'⟩; have hk3 := Kp.trans hk2 hk3'; obtain ⟨ao3, cap3, rfl, -, -, -⟩ := hs3.open3)
            | (go_at_call 47; refine (C1.out _).mono ?_; rintro e w2 ⟨⟨v2, rfl, hs2⟩, hk2'⟩; have hk2 := Kp.trans (kp_drew WA) hk2'; obtain ⟨ao2, cap2, rfl, -, -, -⟩ := hs2.open3)
            | (go_at_call 27; refine (C3.out _ _ hs3).mono ?_; rintro e w4 ⟨⟨v4, rfl, hs4⟩, hk4'⟩; have hk4 := Kp.trans hk3 hk4'; obtain ⟨ao4, cap4, rfl, -, -, -⟩ := hs4.open3)
            | fail "no arm")
        have HO4 := Lib.hid (HO.out.keep (Kp.trans HKA.out hk4))
        have HS4 := Lib.hid hs4
        clear hs2 hs3 hs4 hk2 hk3 hk4 hk2' hk3' hk4' d0 d1
        go_wp2_with (at_builtin; refine wpList_ap (w := w1) rfl (.tmp 35) (.tmp 36) 42 rfl Tryz.underlying42 _ _ ZS EF rfl rfl HO4.out HS4.out HSUM.out ?_)
        intro v5 w5 hown5
        have HO5 := Lib.hid hown5
        clear hown5
        go_wp2_with fail
        go_roundw
        case rel => exact ⟨k + 1, by go_num, by omega, by rw [HEN.out]; exact HO5.out⟩
        case measure => simp [intOf]; omega
      · obtain rfl : k = n := by omega
        have HTK : Hid (encB (fs.take k) = encB fs) := Lib.hid (by rw [List.take_of_length_le (by have := HN.out; omega)])
        have hu := uv_ten (n := k) (by omega)
        have C1 : Hid (∀ W : World, Calls Tryz.prog 48 #[.slice none 0 0, .int .u64 k] W fun e W' => (∃ v', e = .returned v' ∧ Sl W' v' (uv k)) ∧ Kp W W') := Lib.hid (fun W =>
          (rPutUint_any (Sl.nil W) (by simp) k (by omega)).mono (by
            rintro e W' ⟨v', rfl, ho⟩
            exact ⟨⟨v', rfl, by simpa using ho.sl (by simp; omega)⟩, ho.kp⟩))
        have C2 : Hid (∀ (W : World) (v : Value), Sl W v (uv k) → Calls Tryz.prog 27 #[.agg #[.int .i64 2, v]] W fun e W' => (∃ v', e = .returned (.tuple #[v', .int .i64 0]) ∧ Sl W' v' (fr 2 (uv k))) ∧ Kp W W') := Lib.hid (fun W v hv => (rFrame_ok hv 2 (by omega) (by omega) (by omega)).mono (by rintro e W' ⟨⟨v', h1, h2, -⟩, h3⟩; exact ⟨⟨v', h1, h2⟩, h3⟩))
        have HSUM : Hid ((encB (fs.take k)).length + (fr 2 (uv k)).length ≤ 140737488355328) := Lib.hid (by
          have := HBL.out
          have h5 := uv_ten (n := (uv k).length) (by omega)
          rw [fr_len]; omega)
        have HFIN : Hid (∀ v w', Own w1 w' v (encB (fs.take k) ++ fr 2 (uv k)) → Q (.returned (.tuple #[v, .int .i64 0])) w') := Lib.hid (fun v w' ho => by
          rw [HQ.out]
          refine ⟨v, by rw [← HEE.out]; rfl, ?_, Kp.trans HK1.out ho.kp⟩
          rw [if_pos HEE.out.symm]
          have h6 := ho.base HK1.out
          rw [HTK.out, HN.out] at h6
          exact h6)
        have hwk : IntKind.u64.wrap (k : Int) = (k : Int) := by rw [IntKind.wrap_u64]; omega
        obtain ⟨ZS, hZS⟩ : ∃ ZS, ZS = encB (fs.take k) := ⟨_, rfl⟩
        obtain ⟨FK, hFK⟩ : ∃ FK, FK = fr 2 (uv k) := ⟨_, rfl⟩
        rw [← hZS] at HO HSUM HFIN
        rw [← hFK] at C2 HSUM HFIN
        clear hZS hFK hu HBL HOL
        go_wp2_with fail
        refine (C1.out _).mono ?_
        rintro e w2 ⟨⟨v2, rfl, hs2⟩, hk2⟩
        obtain ⟨ao2, cap2, rfl, -, -, -⟩ := hs2.open3
        have HS2 := Lib.hid hs2; have HK2 := Lib.hid hk2
        clear hs2 hk2
        go_wp2_with fail
        refine (C2.out _ _ HS2.out).mono ?_
        rintro e w3 ⟨⟨v3, rfl, hs3⟩, hk3⟩
        obtain ⟨ao3, cap3, rfl, -, -, -⟩ := hs3.open3
        have HS3 := Lib.hid hs3; have HK3 := Lib.hid (Kp.trans HK2.out hk3)
        clear hs3 hk3
        go_wp2_with (at_builtin; refine wpList_ap (w := w1) rfl (.tmp 49) (.tmp 50) 42 rfl Tryz.underlying42 _ _ ZS FK rfl rfl (HO.out.keep HK3.out) HS3.out HSUM.out ?_)
        intro v5 w5 hown5
        have HO5 := Lib.hid hown5
        clear hown5
        go_wp2_with fail
        exact HFIN.out _ _ HO5.out
  · have HFIN : Hid (∀ w', Kp w1 w' → Q (.returned (.tuple #[.slice none 0 0, .int .i64 (E : Nat)])) w') := Lib.hid (fun w' hk => by
      rw [HQ.out]
      refine ⟨_, by rw [← HEE.out], ?_, Kp.trans HK1.out hk⟩
      rw [if_neg (by rw [← HEE.out]; exact hE0)])
    have hx1 : ((E : Int) == 0) = false := beq_eq_false_iff_ne.2 (by omega)
    have hx2 : ((E : Int) != 0) = true := by rw [bne_iff_ne]; omega
    clear hE0
    go_wp2_with fail
    exact HFIN.out _ (Kp.refl _)
end By
end Go.Proofs.YtmkijkaabcgcbaaGreatDoor
