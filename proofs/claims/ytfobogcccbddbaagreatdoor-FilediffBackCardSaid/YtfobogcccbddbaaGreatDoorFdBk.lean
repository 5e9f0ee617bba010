/- The law that the changes between two revisions lead from the one to the other, and back: it returns true, and leaves what was there. Conditions: the program's functions answer as they should; the slice reads as the integers that are named; a package variable of the library holds some integer. -/
import Derived.Test.YtfobogcccbddbaaGreatDoorFdF
import Derived.Test.YtfobogcccbddbaaGreatDoorZam
namespace Go.Proofs.YtfobogcccbddbaaGreatDoor
namespace By
open Go.RowKit Go.Shelf WireN LexN RevN FdN
set_option linter.unusedVariables false
set_option linter.unusedSimpArgs false

theorem eds_ok2 {k : Nat} {fs : List Fl} (h : Eds k fs) (hk : k ≤ 20) : chk fs = 0 := by
  have h1 := h.len
  unfold RevN.chk
  rw [if_neg (by omega)]
  exact h.chk
theorem difL_len (a b : List Fl) : (difL a b).length ≤ a.length + b.length := by
  have h5 := rk_len a b (gn a b).length
  have h6 := (dk_len a b b.length (Nat.le_refl _)).2
  rw [dk_all a b (Nat.le_refl _)] at h6
  have h7 : (gn a b).length ≤ a.length := by unfold gn; exact List.length_filter_le _ _
  have h8 : difL a b = rk a b (gn a b).length := rfl
  rw [h8]
  omega
set_option maxRecDepth 100000 in
set_option maxHeartbeats 16000000 in
theorem fdBack_any (HDC : DiffC) (HAC : ApplyC) (HIC : InvertC) {zs : List Int} {v : Value} {w : World} (hz : SlI w v zs) (hm : MX w) :
    Calls Tryz.prog 5 #[v] w fun e w' => e = .returned (.bool true) ∧ Kp w w' := by
  have hz' := hz
  obtain ⟨⟨ao, cap, rfl, hc, hmx, hat⟩, hlt, hsm⟩ := hz
  obtain ⟨len0, hlen⟩ : ∃ len, len = zs.length := ⟨_, rfl⟩
  rw [← hlen] at hz' ⊢
  obtain ⟨w1, hw1⟩ : ∃ w1, w1 = w.alloc (Obj.cells #[.slice ao len0 cap, .int .i64 0] 30) := ⟨_, rfl⟩
  have htp : Tp w w1 w.heap.size 0 := by
    rw [hw1]
    exact ⟨⟨ao, len0, cap, zs, hz', Blk.new _ _ _⟩, Kp.alloc (Kp.refl _) _, Nat.le_refl _⟩
  have HTW := Lib.hid (two_q (n := 0) ⟨0, by omega, htp⟩)
  have HW1 := Lib.hid hw1; have HM := Lib.hid hm
  have HZ1 : Hid (w1.heap.size = w.heap.size + 1) := Lib.hid (by rw [hw1]; simp)
  have HAP := Lib.hid HAC; have HDI := Lib.hid HDC; have HIN := Lib.hid HIC; have HAW := Lib.hid (fun (W : World) (h : MX W) => awake15_any HDC HAC HIC h)
  clear hz' hc hmx hat hlt hsm hlen hw1 htp hm HDC HAC HIC
  go_enter Tryz.func5, Tryz.ntmps5
  go_wp2_with fail
  rw [← HW1.out]
  refine HTW.out.mono ?_
  rintro e w2 ⟨va, vb, fa, fb, rfl, ⟨hra, hrb⟩, ⟨hea, heb⟩, ⟨hna, hnb⟩, hq, hg2⟩
  have HTS : Hid (w.heap.size < w2.heap.size) := Lib.hid hq.lt
  obtain ⟨aa, la, ca, hva⟩ := hra.form
  obtain ⟨ab, lb, cb, hvb⟩ := hrb.form
  subst hva hvb
  obtain ⟨Wa, hWa⟩ : ∃ W, W = w2.alloc (.cells #[.slice aa la ca] 25) := ⟨_, rfl⟩
  obtain ⟨W3, hW3⟩ : ∃ W, W = Wa.alloc (.cells #[.slice ab lb cb] 25) := ⟨_, rfl⟩
  have k3a : Kp w2 Wa := by rw [hWa]; exact kp_alloc _ _
  have k3b : Kp Wa W3 := by rw [hW3]; exact kp_alloc _ _
  have k3 := Kp.trans k3a k3b
  obtain ⟨pa, hpa⟩ : ∃ b, b = w2.heap.size := ⟨_, rfl⟩
  obtain ⟨pb, hpb⟩ : ∃ b, b = w2.heap.size + 1 := ⟨_, rfl⟩
  have hba : Blk W3 pa 25 #[.slice aa la ca] := by rw [hpa]; refine Blk.keep ?_ k3b; rw [hWa]; exact Blk.new _ _ _
  have hbb : Blk W3 pb 25 #[.slice ab lb cb] := by
    have e : pb = Wa.heap.size := by rw [hpb, hWa]; simp
    rw [e, hW3]; exact Blk.new _ _ _
  have HBA := Lib.hid hba
  have HPA : Hid (pa = w2.heap.size) := Lib.hid hpa
  have HRA := Lib.hid (hra.keep k3)
  have HK3 := Lib.hid (Kp.trans hq.base k3)
  have HBB := Lib.hid hbb
  have HRB := Lib.hid (hrb.keep k3)
  have HPB : Hid (pb = w2.heap.size + 1) := Lib.hid hpb
  have okA := eds_ok2 hea (by omega); have okB := eds_ok2 heb (by omega)
  have hla := hea.len; have hlb := heb.len
  have hdif := dif_ok okA okB
  have hdif2 := dif_ok okB okA
  have HM3 : Hid (∀ W, Kp W3 W → MX W) := Lib.hid (fun W h => HM.out.keep (HK3.out.trans h))
  obtain ⟨D, hD⟩ : ∃ D, D = difL fa fb := ⟨_, rfl⟩
  obtain ⟨E, hE⟩ : ∃ E, E = difL fb fa := ⟨_, rfl⟩
  have hld : D.length ≤ 200 := by rw [hD]; have := difL_len fa fb; omega
  have hle : E.length ≤ 200 := by rw [hE]; have := difL_len fb fa; omega
  have CD1 : Hid (∀ W u v, Kp W3 W → Rw W u fa → Rw W v fb → Calls Tryz.prog 9 #[.agg #[u], .agg #[v]] W (ChgA W (0, D))) := Lib.hid (fun W u v hk h1 h2 => by
    have h := HDI.out W u v fa fb (HM3.out W hk) h1 h2
    rw [difE_ok okA okB, difA_ok okA okB, ← hD] at h
    exact h)
  have CD2 : Hid (∀ W u v, Kp W3 W → Rw W u fa → Rw W v fa → Calls Tryz.prog 9 #[.agg #[u], .agg #[v]] W (ChgA W (0, []))) := Lib.hid (fun W u v hk h1 h2 => by
    have h := HDI.out W u v fa fa (HM3.out W hk) h1 h2
    rw [difE_ok okA okA, difA_ok okA okA, dif_same okA] at h
    exact h)
  have CA1 : Hid (∀ W u l, Kp W3 W → Rw W u fa → Cw W l D → Calls Tryz.prog 15 #[.agg #[u], l] W (RevR W (0, fb))) := Lib.hid (fun W u l hk h1 h2 => by
    have h := HAP.out W u l fa D (HM3.out W hk) h1 h2 hld
    rw [hD, aplA_ok hdif okA okB] at h
    exact h)
  have CA2 : Hid (∀ W u l, Kp W3 W → Rw W u fb → Cw W l E → Calls Tryz.prog 15 #[.agg #[u], l] W (RevR W (0, fa))) := Lib.hid (fun W u l hk h1 h2 => by
    have h := HAP.out W u l fb E (HM3.out W hk) h1 h2 hle
    rw [hE, aplA_ok hdif2 okB okA] at h
    exact h)
  have CI1 : Hid (∀ W u l, Kp W3 W → Rw W u fa → Cw W l D → Calls Tryz.prog 18 #[.agg #[u], l] W (ChgA W (0, E))) := Lib.hid (fun W u l hk h1 h2 => by
    have h := HIN.out W u l fa D (HM3.out W hk) h1 h2 hld
    rw [hD, invA_ok hdif okA okB, ← hE] at h
    exact h)
  have CS : Hid (∀ W u v gs, Rw W u gs → Rw W v gs → Calls Tryz.prog 17 #[.agg #[u], .agg #[v]] W fun e w' => e = .returned (.bool true) ∧ Kp W w') := Lib.hid (fun W u v gs h1 h2 => by
    have h := rSame_any h1 h2
    rw [decide_eq_true rfl] at h
    exact h)
  have x0 := hba.cell 0 rfl; have x1 := hbb.cell 0 rfl
  rw [hW3, hWa, hpa] at x0
  rw [hW3, hWa, hpb] at x1
  have HW3 : Hid (W3 = (w2.alloc (.cells #[.slice aa la ca] 25)).alloc (.cells #[.slice ab lb cb] 25)) := Lib.hid (by rw [hW3, hWa])
  clear hra hrb hea heb hna hnb hg2 hq hWa hW3 k3a k3b k3 hpa hpb hba hbb okA okB hla hlb hdif hdif2 hD hE hld hle HAP HDI HIN
  go_wp2_with fail
  rw [← HW3.out]
  refine (CD1.out W3 _ _ (Kp.refl _) HRA.out HRB.out).mono ?_
  rintro e w4 ⟨u4, rfl, hu4, -, hk4⟩
  obtain ⟨a4, l4, c4, hv4⟩ : ∃ a l c, u4 = Value.slice a l c := by obtain ⟨a, c, h, -⟩ := hu4.open3; exact ⟨a, _, c, h⟩
  subst hv4
  have HU4 := Lib.hid hu4; have K4 := Lib.hid hk4
  have x0 := (HBA.out.keep hk4).cell 0 rfl
  rw [HPA.out] at x0
  clear hu4 hk4 x1
  go_wp2_with fail
  refine (CA1.out w4 _ _ K4.out (HRA.out.keep K4.out) HU4.out).mono ?_
  rintro e w5 ⟨v5, rfl, hr5, -, hk5⟩
  obtain ⟨a5, l5, c5, hv5⟩ := hr5.form
  subst hv5
  obtain ⟨W6, hW6⟩ : ∃ W, W = w5.alloc (.cells #[.slice a5 l5 c5] 25) := ⟨_, rfl⟩
  have k6 : Kp w5 W6 := by rw [hW6]; exact kp_alloc _ _
  obtain ⟨p6, hp6⟩ : ∃ b, b = w5.heap.size := ⟨_, rfl⟩
  have B6 : Hid (Blk W6 p6 25 #[.slice a5 l5 c5]) := Lib.hid (by rw [hW6, hp6]; exact Blk.new _ _ _)
  have K6 := Lib.hid ((K4.out.trans hk5).trans k6)
  have HU6 := Lib.hid ((HU4.out.keep hk5).keep k6)
  have R6 := Lib.hid (hr5.keep k6)
  have x0 := (HBA.out.keep K6.out).cell 0 rfl
  rw [hW6, HPA.out] at x0
  have HW6 := Lib.hid hW6; have HP6 := Lib.hid hp6
  clear hr5 hk5 hW6 k6 hp6
  go_wp2_with fail
  rw [← HW6.out, ← HP6.out]
  refine (CI1.out W6 _ _ K6.out (HRA.out.keep K6.out) HU6.out).mono ?_
  rintro e w7 ⟨u7, rfl, hu7, -, hk7⟩
  obtain ⟨a7, l7, c7, hv7⟩ : ∃ a l c, u7 = Value.slice a l c := by obtain ⟨a, c, h, -⟩ := hu7.open3; exact ⟨a, _, c, h⟩
  subst hv7
  have HU7 := Lib.hid hu7; have K7 := Lib.hid (K6.out.trans hk7); have R7 := Lib.hid (R6.out.keep hk7); have B7 := Lib.hid (B6.out.keep hk7)
  have x0 := B7.out.cell 0 rfl
  clear hu7 hk7
  go_wp2_with fail
  refine (CA2.out w7 _ _ K7.out R7.out HU7.out).mono ?_
  rintro e w8 ⟨v8, rfl, hr8, -, hk8⟩
  obtain ⟨a8, l8, c8, hv8⟩ := hr8.form
  subst hv8
  obtain ⟨W9, hW9⟩ : ∃ W, W = w8.alloc (.cells #[.slice a8 l8 c8] 25) := ⟨_, rfl⟩
  have k9 : Kp w8 W9 := by rw [hW9]; exact kp_alloc _ _
  obtain ⟨p9, hp9⟩ : ∃ b, b = w8.heap.size := ⟨_, rfl⟩
  have B9 : Hid (Blk W9 p9 25 #[.slice a8 l8 c8]) := Lib.hid (by rw [hW9, hp9]; exact Blk.new _ _ _)
  have K9 := Lib.hid ((K7.out.trans hk8).trans k9)
  have R9 := Lib.hid (hr8.keep k9)
  have K79 := Lib.hid (hk8.trans k9)
  have x0 := (HBA.out.keep K9.out).cell 0 rfl
  rw [hW9, HPA.out] at x0
  have HW9 := Lib.hid hW9; have HP9 := Lib.hid hp9
  clear hr8 hk8 hW9 k9 hp9
  go_wp2_with fail
  rw [← HW9.out, ← HP9.out]
  refine (CD2.out W9 _ _ K9.out (HRA.out.keep K9.out) (HRA.out.keep K9.out)).mono ?_
  rintro e w10 ⟨u10, rfl, hu10, -, hk10⟩
  obtain ⟨a10, c10, hv10, -, -, -⟩ := hu10.open3
  simp only [List.length_nil] at hv10
  subst hv10
  have K10 := Lib.hid (K9.out.trans hk10)
  have R10 := Lib.hid (R9.out.keep hk10); have R7b := Lib.hid ((R7.out.keep K79.out).keep hk10)
  have B10 := Lib.hid (B9.out.keep hk10); have B7b := Lib.hid ((B7.out.keep K79.out).keep hk10)
  have x0 := (HBA.out.keep K10.out).cell 0 rfl; have x1 := (HBB.out.keep K10.out).cell 0 rfl
  rw [HPA.out] at x0
  rw [HPB.out] at x1
  have x2 := B10.out.cell 0 rfl; have x3 := B7b.out.cell 0 rfl
  clear hu10 hk10
  go_wp2_with fail
  refine (CS.out w10 _ _ fb R7b.out (HRB.out.keep K10.out)).mono ?_
  rintro e w11 ⟨rfl, hk11⟩
  have K11 := Lib.hid (K10.out.trans hk11)
  have x0 := (HBA.out.keep K11.out).cell 0 rfl
  rw [HPA.out] at x0
  have x2 := (B10.out.keep hk11).cell 0 rfl
  have R11 := Lib.hid (R10.out.keep hk11)
  clear hk11 x1 x3
  go_wp2_with fail
  refine (CS.out w11 _ _ fa R11.out (HRA.out.keep K11.out)).mono ?_
  rintro e w12 ⟨rfl, hk12⟩
  have K12 := Lib.hid (K11.out.trans hk12)
  clear hk12 x0 x2
  go_wp2_with fail
  refine (HAW.out w12 (HM3.out w12 K12.out)).mono ?_
  rintro e w13 ⟨rfl, hk13⟩
  have K13 := Lib.hid ((HK3.out.trans K12.out).trans hk13)
  clear hk13
  go_wp2_with fail
  go_ret
  exact ⟨rfl, K13.out⟩
theorem fdBack_row (HDC : DiffC) (HAC : ApplyC) (HIC : InvertC) {w : World} (hm : MX w) {v : Value} {zs : List Int} (hs : SlI w v zs) : Calls Tryz.prog 5 #[v] w fun e w' => e = .returned (.bool true) ∧ Kp w w' := fdBack_any HDC HAC HIC hs hm
end By
end Go.Proofs.YtfobogcccbddbaaGreatDoor
