/- The law on the order of changes: it returns true, and leaves what was there. Conditions: the program's functions answer as they should; the slice reads as the integers that are named; a package variable of the library holds some integer. -/
import Derived.Test.YtfobogcccbddbaaGreatDoorFdF
import Derived.Test.YtfobogcccbddbaaGreatDoorFdH
import Derived.Test.YtfobogcccbddbaaGreatDoorZam
namespace Go.Proofs.YtfobogcccbddbaaGreatDoor
namespace FdN
open RevN
theorem rev_same (a : List Fl) (l : List Ch) : (decide ((aplA a l).1 = 0) = decide ((aplA a l.reverse).1 = 0)) ∧ (aplA a l).2 = (aplA a l.reverse).2 := by
  unfold aplA
  by_cases h : aplE a l = 0
  · obtain ⟨h1, h2⟩ := apl_perm (List.reverse_perm l).symm h
    simp [h, h1, h2]
  · have h1 : aplE a l.reverse ≠ 0 := fun e => h (by have := (apl_perm (List.reverse_perm l) e).1; exact this)
    simp [h, h1]
theorem rev_drop {l : List Ch} {m : Nat} {x : Ch} (h : l[m]? = some x) : (l.drop (m + 1)).reverse ++ [x] = (l.drop m).reverse := by
  obtain ⟨hk, he⟩ := List.getElem?_eq_some_iff.1 h
  rw [List.drop_eq_getElem_cons hk, he, List.reverse_cons]
end FdN
namespace By
open Go.RowKit Go.Shelf WireN LexN RevN FdN
set_option linter.unusedVariables false
set_option linter.unusedSimpArgs false

set_option maxRecDepth 100000 in
set_option maxHeartbeats 16000000 in
theorem fdOrder_any (HDC : DiffC) (HAC : ApplyC) (HIC : InvertC) {zs : List Int} {v : Value} {w : World} (hz : SlI w v zs) (hm : MX w) :
    Calls Tryz.prog 6 #[v] w fun e w' => e = .returned (.bool true) ∧ Kp w w' := by
  have hz' := hz
  obtain ⟨⟨ao, cap, rfl, hc, hmx, hat⟩, hlt, hsm⟩ := hz
  obtain ⟨len0, hlen⟩ : ∃ len, len = zs.length := ⟨_, rfl⟩
  rw [← hlen] at hz' ⊢
  obtain ⟨w1, hw1⟩ : ∃ w1, w1 = w.alloc (Obj.cells #[.slice ao len0 cap, .int .i64 0] 30) := ⟨_, rfl⟩
  have htp : Tp w w1 w.heap.size 0 := by
    rw [hw1]
    exact ⟨⟨ao, len0, cap, zs, hz', Blk.new _ _ _⟩, Kp.alloc (Kp.refl _) _, Nat.le_refl _⟩
  have HTW := Lib.hid (two_q (n := 11) ⟨0, by omega, htp⟩)
  have HW1 := Lib.hid hw1; have HM := Lib.hid hm
  have HZ1 : Hid (w1.heap.size = w.heap.size + 1) := Lib.hid (by rw [hw1]; simp)
  have HAP := Lib.hid HAC; have HAW := Lib.hid (fun (W : World) (h : MX W) => awake15_any HDC HAC HIC h)
  clear hz' hc hmx hat hlt hsm hlen hw1 htp hm HDC HAC HIC
  go_enter Tryz.func6, Tryz.ntmps6
  go_wp2_with fail
  rw [← HW1.out]
  refine HTW.out.mono ?_
  rintro e w2 ⟨va, vb, fa, fb, rfl, ⟨hra, hrb⟩, ⟨hea, heb⟩, ⟨hna, hnb⟩, hq, hg2⟩
  have HTS : Hid (w.heap.size < w2.heap.size) := Lib.hid hq.lt
  obtain ⟨aa, la, ca, hva⟩ := hra.form
  obtain ⟨ab, lb, cb, hvb⟩ := hrb.form
  subst hva hvb
  obtain ⟨Wa, hWa⟩ : ∃ W, W = w2.alloc (.cells #[.slice aa la ca] 25) := ⟨_, rfl⟩
  obtain ⟨W3, hW3⟩ : ∃ W, W = Wa.alloc (.cells #[.slice ab lb cb] 25) := ⟨_, rfl⟩
  have k3a : Kp w2 Wa := by rw [hWa]; exact kp_alloc _ _
  have k3b : Kp Wa W3 := by rw [hW3]; exact kp_alloc _ _
  have k3 := Kp.trans k3a k3b
  obtain ⟨pa, hpa⟩ : ∃ b, b = w2.heap.size := ⟨_, rfl⟩
  obtain ⟨pb, hpb⟩ : ∃ b, b = w2.heap.size + 1 := ⟨_, rfl⟩
  have hba : Blk W3 pa 25 #[.slice aa la ca] := by rw [hpa]; refine Blk.keep ?_ k3b; rw [hWa]; exact Blk.new _ _ _
  have hbb : Blk W3 pb 25 #[.slice ab lb cb] := by
    have e : pb = Wa.heap.size := by rw [hpb, hWa]; simp
    rw [e, hW3]; exact Blk.new _ _ _
  have HBA := Lib.hid hba
  have HNG : Hid (∀ b, (Value.slice aa la ca).ownBlock = some b → b ≠ w.heap.size) := Lib.hid (fun b hb => by have h1 := hna b hb; have h2 := HZ1.out; omega)
  have HPA : Hid (pa = w2.heap.size) := Lib.hid hpa
  have HRA := Lib.hid (hra.keep k3)
  have HK3 := Lib.hid (Kp.trans hq.base k3)
  have HCH := Lib.hid (changes_q (n := 0) (hq.keep k3) (hra.keep k3) (hrb.keep k3) (by have := hea.len; omega) (by have := heb.len; omega))
  have x0 := hba.cell 0 rfl; have x1 := hbb.cell 0 rfl
  rw [hW3, hWa, hpa] at x0
  rw [hW3, hWa, hpb] at x1
  have HW3 : Hid (W3 = (w2.alloc (.cells #[.slice aa la ca] 25)).alloc (.cells #[.slice ab lb cb] 25)) := Lib.hid (by rw [hW3, hWa])
  clear hra hrb hea heb hna hnb hg2 hq hWa hW3 k3a k3b k3 hpa hpb hba hbb
  go_wp2_with fail
  rw [← HW3.out]
  refine HCH.out.mono ?_
  rintro e w4 ⟨u, D, rfl, hu, hD, -, hq4, hg4⟩
  obtain ⟨ao4, cap4, hu4, hcap4, hmx4, -⟩ := hu.open3
  obtain ⟨n, hn⟩ : ∃ n, n = D.length := ⟨_, rfl⟩
  rw [← hn] at hu4 hcap4 hD
  subst hu4
  have HU := Lib.hid hu; have HNN := Lib.hid hn
  have K34 : Hid (Gr w.heap.size W3 w4) := Lib.hid hg4
  have HK4 : Hid (Kp w w4) := Lib.hid hq4.base
  have HM4 : Hid (∀ W, Kp w4 W → MX W) := Lib.hid (fun W h => HM.out.keep (HK4.out.trans h))
  have HPG : Hid (pa ≠ w.heap.size) := Lib.hid (by have h2 := HPA.out; have h3 := HTS.out; omega)
  have B4 : Hid (Blk w4 pa 25 #[.slice aa la ca]) := Lib.hid (HBA.out.gr hg4 HPG.out)
  have R4 : Hid (Rw w4 (.slice aa la ca) fa) := Lib.hid (HRA.out.gr hg4 HNG.out)
  have i1 : (n : Int) ≤ (42 : Int) := by omega
  have i2 : (n : Int) ≤ (cap4 : Int) := by omega
  clear x0 x1 hu hq4 hg4 hcap4 hmx4 hn hD
  go_wp2_with fail
  go_loopw [7, 8] (fun y i wr => ∃ (j : Nat) (z : Int) (yo : Option Addr) (yl yc : Nat), y = .slice yo yl yc ∧ i = .int .i64 z ∧ z = (j : Int) - 1 ∧ j ≤ n ∧ OwC w4 wr (.slice yo yl yc) (D.drop j).reverse) (fun _ i _ => (intOf i + 1).toNat)
  case atStart => exact ⟨n, (n : Int) - 1, none, 0, 0, rfl, rfl, rfl, Nat.le_refl _, by rw [List.drop_of_length_le (by have := HNN.out; omega)]; exact OwC.start w4⟩
  case round =>
    obtain ⟨j, z, yo, yl, yc, rfl, rfl, hz, hj, hy⟩ := hrel
    rename World => wy
    have HY := Lib.hid hy
    by_cases hj0 : j = 0
    · subst hj0
      have hz0 : z < 0 := by omega
      have hz1 : decide ((0 : Int) ≤ z) = false := decide_eq_false (by omega)
      clear hz
      have hk := hy.kp
      have HYL : Hid (Cw wy (.slice yo yl yc) D.reverse) := Lib.hid (by have h := hy.cw; rw [List.drop_zero] at h; exact h)
      have HKY := Lib.hid hk
      have x0 := (B4.out.keep hk).cell 0 rfl
      rw [HPA.out] at x0
      have HA1 := Lib.hid (HAP.out wy _ _ fa D (HM4.out wy hk) (R4.out.keep hk) (HU.out.keep hk) (by have := HNN.out; omega))
      clear hy hk hj
      go_wp2_with fail
      refine HA1.out.mono ?_
      rintro e w5 ⟨v5, rfl, hr5, -, hk5⟩
      obtain ⟨a5, l5, c5, hv5⟩ := hr5.form
      subst hv5
      obtain ⟨W6, hW6⟩ : ∃ W, W = w5.alloc (.cells #[.slice a5 l5 c5] 25) := ⟨_, rfl⟩
      have k6 : Kp w5 W6 := by rw [hW6]; exact kp_alloc _ _
      obtain ⟨r5, hr5b⟩ : ∃ b, b = w5.heap.size := ⟨_, rfl⟩
      have B6 : Hid (Blk W6 r5 25 #[.slice a5 l5 c5]) := Lib.hid (by rw [hW6, hr5b]; exact Blk.new _ _ _)
      have K6 := Lib.hid ((HKY.out.trans hk5).trans k6)
      have R6 := Lib.hid (hr5.keep k6)
      have x0 := (B4.out.keep K6.out).cell 0 rfl
      rw [hW6, HPA.out] at x0
      have HA2 := Lib.hid (HAP.out W6 _ _ fa D.reverse (HM4.out W6 K6.out) (R4.out.keep K6.out) ((HYL.out.keep hk5).keep k6) (by have := HNN.out; rw [List.length_reverse]; omega))
      obtain ⟨E1, hE1⟩ : ∃ E, E = (aplA fa D).1 := ⟨_, rfl⟩
      rw [← hE1]
      have HW6 := Lib.hid hW6; have HE1 := Lib.hid hE1; have HR5 := Lib.hid hr5b
      clear hr5 hk5 hW6 k6 hr5b hE1
      go_wp2_with fail
      rw [← HW6.out, ← HR5.out]
      refine HA2.out.mono ?_
      rintro e w7 ⟨v7, rfl, hr7, -, hk7⟩
      obtain ⟨a7, l7, c7, hv7⟩ := hr7.form
      subst hv7
      obtain ⟨W8, hW8⟩ : ∃ W, W = w7.alloc (.cells #[.slice a7 l7 c7] 25) := ⟨_, rfl⟩
      have k8 : Kp w7 W8 := by rw [hW8]; exact kp_alloc _ _
      obtain ⟨r7, hr7b⟩ : ∃ b, b = w7.heap.size := ⟨_, rfl⟩
      have b8 : Blk W8 r7 25 #[.slice a7 l7 c7] := by rw [hW8, hr7b]; exact Blk.new _ _ _
      have K8 := Lib.hid ((K6.out.trans hk7).trans k8)
      have hr6 := (R6.out.keep hk7).keep k8
      have hr8 := hr7.keep k8
      obtain ⟨E2, hE2⟩ : ∃ E, E = (aplA fa D.reverse).1 := ⟨_, rfl⟩
      rw [← hE2]
      obtain ⟨hs1, hs2⟩ := rev_same fa D
      rw [← HE1.out, ← hE2] at hs1
      have hsm := rSame_any hr6 hr8
      rw [decide_eq_true hs2] at hsm
      have HSM := Lib.hid hsm
      obtain ⟨q, hq⟩ : ∃ q, q = decide (E1 = 0) := ⟨_, rfl⟩
      have t1 : ((E1 : Int) == 0) = q := by rw [hq]; by_cases h : E1 = 0 <;> simp [h]
      have t2 : ((E2 : Int) == 0) = q := by rw [hq, hs1]; by_cases h : E2 = 0 <;> simp [h]
      have x1 := ((B6.out.keep hk7).keep k8).cell 0 rfl
      have x2 := b8.cell 0 rfl
      rw [hW8] at x1 x2
      rw [hr7b] at x2
      have HW8 := Lib.hid hW8; have HR7 := Lib.hid hr7b
      have HAW8 : Hid (∀ W, Kp W8 W → Calls Tryz.prog 12 #[] W fun e w' => e = .returned (.bool true) ∧ Kp W w') := Lib.hid (fun W h => HAW.out W (HM4.out W (K8.out.trans h)))
      clear hr7 hk7 hW8 k8 hr7b b8 hr6 hr8 hE2 hs1 hs2 hsm hq x0
      cases q
      all_goals
        go_wp2_with fail
        rw [← HW8.out]
        refine HSM.out.mono ?_
        rintro e w9 ⟨rfl, hk9⟩
        have K9 := Lib.hid hk9
        clear hk9
        go_wp2_with fail
        refine (HAW8.out w9 K9.out).mono ?_
        rintro e w10 ⟨rfl, hk10⟩
        have K10 := Lib.hid (((HK4.out.trans K8.out).trans K9.out).trans hk10)
        clear hk10
        go_wp2_with fail
        go_ret
        exact ⟨rfl, K10.out⟩
    · obtain ⟨m, rfl⟩ : ∃ m, j = m + 1 := ⟨j - 1, by omega⟩
      obtain rfl : z = (m : Int) := by rw [hz]; omega
      obtain ⟨x, hx⟩ : ∃ x, D[m]? = some x := ⟨_, List.getElem?_eq_getElem (by have := HNN.out; omega)⟩
      obtain ⟨b, off, haa, hcell⟩ := (HU.out.keep hy.kp).cell (by omega)
      subst haa
      obtain ⟨d0, d1, d2, d3⟩ := hcell m x hx
      have hok := HU.out.ok x (List.mem_of_getElem? hx)
      have hrd := rev_drop hx
      obtain ⟨W5, hW5⟩ : ∃ W, W = wy.alloc (.cells #[.int .i64 x.1, .string (st x.2.1), .string (st x.2.2.1), .string (st x.2.2.2)] 50) := ⟨_, rfl⟩
      have k5 : Kp wy W5 := by rw [hW5]; exact kp_alloc _ _
      have HY5 := Lib.hid (hy.keep k5)
      have HB5 : Hid (Blk W5 wy.heap.size 50 #[.int .i64 x.1, .string (st x.2.1), .string (st x.2.2.1), .string (st x.2.2.2)]) := Lib.hid (by rw [hW5]; exact Blk.new _ _ _)
      have HLE : Hid ((D.drop (m + 1)).reverse.length ≤ 1000000) := Lib.hid (by rw [List.length_reverse, List.length_drop]; have := HNN.out; omega)
      have HRD := Lib.hid hrd; have HOK := Lib.hid hok; have HW5 := Lib.hid hW5
      have i3 : (m : Int) < (n : Int) := by omega
      have i4 : (0 : Int) ≤ (m : Int) := by omega
      clear hcell hx hok hrd hW5 k5 hy hz
      go_wp2_with (at_builtin; rw [← HW5.out]; refine wpList_ch rfl (.tmp 32) (.tmp 37) rfl (.slice yo yl yc) rfl HY5.out HLE.out x HOK.out wy.heap.size rfl HB5.out ?_)
      intro v' w' ho hg hb
      obtain ⟨⟨o', l', c', hv'⟩, -⟩ := row_form ho.owns
      subst hv'
      rw [HRD.out] at ho
      have HO := Lib.hid ho
      clear ho hg hb d0 d1 d2 d3
      go_wp2_with fail
      go_roundw
      case rel => exact ⟨m, (m : Int) - 1, _, _, _, rfl, (by first | rfl | go_num), rfl, by omega, HO.out⟩
      case measure => (first | (simp [intOf]; omega) | simp [intOf])
theorem fdOrder_row (HDC : DiffC) (HAC : ApplyC) (HIC : InvertC) {w : World} (hm : MX w) {v : Value} {zs : List Int} (hs : SlI w v zs) : Calls Tryz.prog 6 #[v] w fun e w' => e = .returned (.bool true) ∧ Kp w w' := fdOrder_any HDC HAC HIC hs hm
end By
end Go.Proofs.YtfobogcccbddbaaGreatDoor
