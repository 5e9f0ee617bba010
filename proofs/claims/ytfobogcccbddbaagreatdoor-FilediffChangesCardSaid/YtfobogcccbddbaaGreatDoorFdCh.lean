/- The law on the changes between revisions: it returns true, and leaves what was there. Conditions: the program's functions answer as they should; the slices read as the integers and the files that are named; a package variable of the library holds some integer. -/
import Derived.Test.YtfobogcccbddbaaGreatDoorFdF
import Derived.Test.YtfobogcccbddbaaGreatDoorFdX
import Derived.Test.YtfobogcccbddbaaGreatDoorZam
namespace Go.Proofs.YtfobogcccbddbaaGreatDoor
namespace FdN
open RevN
theorem difA_most (a b : List Fl) : (difA a b).length ≤ 1000 := by
  unfold difA
  by_cases h : difE a b = 0
  · rw [if_pos h]
    unfold difE at h
    have h2 : chk a = 0 ∧ chk b = 0 := by
      by_cases h3 : chk a ≠ 0 ∨ chk b ≠ 0
      · rw [if_pos h3] at h; cases h
      · exact ⟨by simpa using fun e => h3 (.inl e), by simpa using fun e => h3 (.inr e)⟩
    have h3 := (chk_ok h2.1).1
    have h4 := (chk_ok h2.2).1
    have h5 := rk_len a b (gn a b).length
    have h6 := (dk_len a b b.length (Nat.le_refl _)).2
    rw [dk_all a b (Nat.le_refl _)] at h6
    have h7 : (gn a b).length ≤ a.length := by unfold gn; exact List.length_filter_le _ _
    have h8 : difL a b = rk a b (gn a b).length := rfl
    rw [h8]
    omega
  · rw [if_neg h]; simp
end FdN
namespace By
open Go.RowKit Go.Shelf WireN LexN RevN FdN
set_option linter.unusedVariables false
set_option linter.unusedSimpArgs false

set_option maxRecDepth 100000 in
set_option maxHeartbeats 16000000 in
theorem fdChanges_any (HDC : DiffC) (HAC : ApplyC) (HIC : InvertC) {zs : List Int} {v vr : Value} {fr : List Fl} {w : World} (hz : SlI w v zs) (hr : Rw w vr fr) (hm : MX w) :
    Calls Tryz.prog 3 #[v, .agg #[vr]] w fun e w' => e = .returned (.bool true) ∧ Kp w w' := by
  obtain ⟨ra, rl, rc, hvr⟩ := hr.form
  subst hvr
  obtain ⟨Wr, hWr⟩ : ∃ W, W = w.alloc (.cells #[.slice ra rl rc] 25) := ⟨_, rfl⟩
  have kr : Kp w Wr := by rw [hWr]; exact kp_alloc _ _
  have hz' := hz.keep kr
  have brr : Blk Wr w.heap.size 25 #[.slice ra rl rc] := by rw [hWr]; exact Blk.new _ _ _
  obtain ⟨⟨ao, cap, rfl, hc, hmx, hat⟩, hlt, hsm⟩ := hz
  obtain ⟨len0, hlen⟩ : ∃ len, len = zs.length := ⟨_, rfl⟩
  rw [← hlen] at hz' ⊢
  obtain ⟨w1, hw1⟩ : ∃ w1, w1 = Wr.alloc (Obj.cells #[.slice ao len0 cap, .int .i64 0] 30) := ⟨_, rfl⟩
  have zr : Wr.heap.size = w.heap.size + 1 := by rw [hWr]; simp
  have htp : Tp Wr w1 (w.heap.size + 1) 0 := by
    rw [hw1, ← zr]
    exact ⟨⟨ao, len0, cap, zs, hz', Blk.new _ _ _⟩, Kp.alloc (Kp.refl _) _, Nat.le_refl _⟩
  have HTW := Lib.hid (two_q (n := 0) ⟨0, by omega, htp⟩)
  have HW1 : Hid (w1 = (w.alloc (.cells #[.slice ra rl rc] 25)).alloc (Obj.cells #[.slice ao len0 cap, .int .i64 0] 30)) := Lib.hid (by rw [hw1, hWr])
  have HM := Lib.hid hm; have HKR := Lib.hid kr
  have HRR := Lib.hid (hr.keep kr); have HBR := Lib.hid brr
  have HDI := Lib.hid HDC; have HAW := Lib.hid (fun (W : World) (h : MX W) => awake15_any HDC HAC HIC h)
  clear hz' hc hmx hat hlt hsm hlen hw1 htp hm HDC HAC HIC hWr kr brr zr hr
  go_enter Tryz.func3, Tryz.ntmps3
  go_wp2_with fail
  rw [← HW1.out]
  refine HTW.out.mono ?_
  rintro e w2 ⟨va, vb, fa, fb, rfl, ⟨hra, hrb⟩, ⟨hea, heb⟩, -, hq, -⟩
  obtain ⟨aa, la, ca, hva⟩ := hra.form
  obtain ⟨ab, lb, cb, hvb⟩ := hrb.form
  subst hva hvb
  obtain ⟨Wa, hWa⟩ : ∃ W, W = w2.alloc (.cells #[.slice aa la ca] 25) := ⟨_, rfl⟩
  obtain ⟨W3, hW3⟩ : ∃ W, W = Wa.alloc (.cells #[.slice ab lb cb] 25) := ⟨_, rfl⟩
  have k3a : Kp w2 Wa := by rw [hWa]; exact kp_alloc _ _
  have k3b : Kp Wa W3 := by rw [hW3]; exact kp_alloc _ _
  have k3 := Kp.trans k3a k3b
  have hba : Blk W3 w2.heap.size 25 #[.slice aa la ca] := by refine Blk.keep ?_ k3b; rw [hWa]; exact Blk.new _ _ _
  have hbb : Blk W3 (w2.heap.size + 1) 25 #[.slice ab lb cb] := by
    have e : w2.heap.size + 1 = Wa.heap.size := by rw [hWa]; simp
    rw [e, hW3]; exact Blk.new _ _ _
  have hk03 := Kp.trans hq.base k3
  have HRA := Lib.hid (hra.keep k3); have HRB := Lib.hid (hrb.keep k3)
  have HRW := Lib.hid (HRR.out.keep hk03)
  have HK3 := Lib.hid (HKR.out.trans hk03)
  have x0 := hba.cell 0 rfl; have x1 := hbb.cell 0 rfl; have x2 := (HBR.out.keep hk03).cell 0 rfl
  rw [hW3, hWa] at x0 x1 x2
  have HW3 : Hid (W3 = (w2.alloc (.cells #[.slice aa la ca] 25)).alloc (.cells #[.slice ab lb cb] 25)) := Lib.hid (by rw [hW3, hWa])
  clear hra hrb hea heb hq hWa hW3 k3a k3b k3 hba hbb hk03
  obtain ⟨W5, hW5⟩ : ∃ W, W = W3.alloc (.cells #[.slice aa la ca, .slice ab lb cb, .slice ab lb cb, .slice aa la ca, .slice aa la ca, .slice aa la ca, .slice aa la ca, .slice ra rl rc, .slice ra rl rc, .slice ab lb cb, .slice none 0 0, .slice ab lb cb, .slice aa la ca, .slice none 0 0] 31) := ⟨_, rfl⟩
  have k5 : Kp W3 W5 := by rw [hW5]; exact kp_alloc _ _
  have z3 : W3.heap.size = w2.heap.size + 1 + 1 := by rw [HW3.out]; simp
  have b5 : Blk W5 (w2.heap.size + 1 + 1) 31 #[.slice aa la ca, .slice ab lb cb, .slice ab lb cb, .slice aa la ca, .slice aa la ca, .slice aa la ca, .slice aa la ca, .slice ra rl rc, .slice ra rl rc, .slice ab lb cb, .slice none 0 0, .slice ab lb cb, .slice aa la ca, .slice none 0 0] := by rw [hW5, ← z3]; exact Blk.new _ _ _
  have HK5 := Lib.hid (HK3.out.trans k5)
  obtain ⟨b, hb⟩ : ∃ b, b = w2.heap.size + 1 + 1 := ⟨_, rfl⟩
  rw [← hb] at b5
  have HP : Hid (∀ k, k < 7 → ∃ (xa : Option Addr) (xl xc : Nat) (fx : List Fl) (ya : Option Addr) (yl yc : Nat) (fy : List Fl), (W5.cell? ⟨b, k * 2, none⟩ = some (.slice xa xl xc) ∧ W5.cell? ⟨b, k * 2 + 1, none⟩ = some (.slice ya yl yc)) ∧ Rw W5 (.slice xa xl xc) fx ∧ Rw W5 (.slice ya yl yc) fy) := Lib.hid (fun k hk => by
    have ra := HRA.out.keep k5; have rb := HRB.out.keep k5; have rr := HRW.out.keep k5
    have hk : k = 0 ∨ k = 1 ∨ k = 2 ∨ k = 3 ∨ k = 4 ∨ k = 5 ∨ k = 6 := by omega
    rcases hk with rfl | rfl | rfl | rfl | rfl | rfl | rfl
    · exact ⟨_, _, _, _, _, _, _, _, ⟨b5.cell 0 rfl, b5.cell 1 rfl⟩, ra, rb⟩
    · exact ⟨_, _, _, _, _, _, _, _, ⟨b5.cell 2 rfl, b5.cell 3 rfl⟩, rb, ra⟩
    · exact ⟨_, _, _, _, _, _, _, _, ⟨b5.cell 4 rfl, b5.cell 5 rfl⟩, ra, ra⟩
    · exact ⟨_, _, _, _, _, _, _, _, ⟨b5.cell 6 rfl, b5.cell 7 rfl⟩, ra, rr⟩
    · exact ⟨_, _, _, _, _, _, _, _, ⟨b5.cell 8 rfl, b5.cell 9 rfl⟩, rr, rb⟩
    · exact ⟨_, _, _, _, _, _, _, _, ⟨b5.cell 10 rfl, b5.cell 11 rfl⟩, Rw.nil W5, rb⟩
    · exact ⟨_, _, _, _, _, _, _, _, ⟨b5.cell 12 rfl, b5.cell 13 rfl⟩, ra, Rw.nil W5⟩)
  have HM5 : Hid (∀ W, Kp W5 W → MX W) := Lib.hid (fun W h => HM.out.keep (HK5.out.trans h))
  have HW5 : Hid (W5 = ((w2.alloc (.cells #[.slice aa la ca] 25)).alloc (.cells #[.slice ab lb cb] 25)).alloc (.cells #[.slice aa la ca, .slice ab lb cb, .slice ab lb cb, .slice aa la ca, .slice aa la ca, .slice aa la ca, .slice aa la ca, .slice ra rl rc, .slice ra rl rc, .slice ab lb cb, .slice none 0 0, .slice ab lb cb, .slice aa la ca, .slice none 0 0] 31)) := Lib.hid (by rw [hW5, HW3.out])
  have HB := Lib.hid hb
  clear hW5 k5 z3 b5 hb HRA HRB HRW HRR HBR
  go_wp2_with fail
  rw [← HW5.out, ← HB.out]
  clear x0 x1 x2
  go_loopw [43] (fun i wr => ∃ k : Nat, i = .int .i64 k ∧ k ≤ 7 ∧ Kp W5 wr) (fun i _ => 7 - (intOf i).toNat)
  case atStart => exact ⟨0, rfl, Nat.zero_le _, Kp.refl _⟩
  case round =>
    obtain ⟨k, rfl, hk, hkp⟩ := hrel
    rename World => wy
    have HKY := Lib.hid hkp
    by_cases hk7 : k < 7
    · obtain ⟨xa, xl, xc, fx, ya, yl, yc, fy, ⟨hc0, hc1⟩, hrx, hry⟩ := HP.out k hk7
      have c0 := cell_kept hc0 hkp; have c1 := cell_kept hc1 hkp
      obtain ⟨W6, hW6⟩ : ∃ W, W = wy.alloc (.cells #[.slice xa xl xc, .slice ya yl yc] 31) := ⟨_, rfl⟩
      have k6 : Kp wy W6 := by rw [hW6]; exact kp_alloc _ _
      obtain ⟨pb, hpb⟩ : ∃ b, b = wy.heap.size := ⟨_, rfl⟩
      have B6 : Hid (Blk W6 pb 31 #[.slice xa xl xc, .slice ya yl yc]) := Lib.hid (by rw [hW6, hpb]; exact Blk.new _ _ _)
      have K6 := Lib.hid (hkp.trans k6)
      have HX6 := Lib.hid (hrx.keep (hkp.trans k6)); have HY6 := Lib.hid (hry.keep (hkp.trans k6))
      have HD1 := Lib.hid (HDI.out W6 _ _ fx fy (HM5.out W6 K6.out) HX6.out HY6.out)
      have i0 : (0 : Int) ≤ (k : Int) := by omega
      have i1 : (k : Int) < (7 : Int) := by omega
      have x0 := B6.out.cell 0 rfl; have x1 := B6.out.cell 1 rfl
      rw [hW6, hpb] at x0 x1
      have HW6 := Lib.hid hW6; have HPB := Lib.hid hpb
      clear hrx hry hc0 hc1 hkp hW6 k6 hpb
      go_wp2_with fail
      rw [← HW6.out, ← HPB.out]
      refine HD1.out.mono ?_
      rintro e w7 ⟨u7, rfl, hu7, -, hk7⟩
      obtain ⟨a7, c7, hv7, -, -, -⟩ := hu7.open3
      obtain ⟨D, hD⟩ : ∃ D, D = difA fx fy := ⟨_, rfl⟩
      obtain ⟨E, hE⟩ : ∃ E, E = difE fx fy := ⟨_, rfl⟩
      simp only at hu7 hv7
      rw [← hD] at hu7 hv7
      obtain ⟨n7, hn7⟩ : ∃ n, n = D.length := ⟨_, rfl⟩
      rw [← hn7] at hv7
      subst hv7
      simp only
      rw [← hE]
      have HU7 := Lib.hid hu7; have K7 := Lib.hid (K6.out.trans hk7)
      have HD2 := Lib.hid (rDiff_any (HX6.out.keep hk7) (HY6.out.keep hk7))
      have HDD := Lib.hid hD; have HEE := Lib.hid hE; have HN7 := Lib.hid hn7
      have x0 := (B6.out.keep hk7).cell 0 rfl; have x1 := (B6.out.keep hk7).cell 1 rfl
      clear hu7 hk7 hD hE hn7 HD1
      go_wp2_with fail
      refine HD2.out.mono ?_
      rintro e w8 ⟨u8, rfl, hu8, -, hk8⟩
      obtain ⟨a8, c8, hv8, -, -, -⟩ := hu8.open3
      rw [← HDD.out] at hu8 hv8
      rw [← HN7.out] at hv8
      rw [← HEE.out]
      subst hv8
      have hs := SameC_any (HU7.out.keep hk8) hu8 (by rw [HDD.out]; exact difA_most _ _) (by rw [HDD.out]; exact difA_most _ _)
      rw [decide_eq_true rfl] at hs
      have HS := Lib.hid hs; have K8 := Lib.hid (K7.out.trans hk8)
      have q0 : ((E : Int) != (E : Int)) = false := by simp
      clear hu8 hk8 hs x0 x1 HD2
      go_wp2_with fail
      refine HS.out.mono ?_
      rintro e w9 ⟨rfl, hk9⟩
      have K9 := Lib.hid (K8.out.trans hk9)
      clear hk9
      go_wp2_with fail
      go_roundw
      case rel => exact ⟨k + 1, by go_num, by omega, K9.out⟩
      case measure => (first | (simp [intOf]; omega) | simp [intOf])
    · have i1 : (7 : Int) ≤ (k : Int) := by omega
      have HA := Lib.hid (HAW.out wy (HM5.out wy hkp))
      clear hkp
      go_wp2_with fail
      refine HA.out.mono ?_
      rintro e w7 ⟨rfl, hk7⟩
      have K7 := Lib.hid ((HK5.out.trans HKY.out).trans hk7)
      clear hk7
      go_wp2_with fail
      go_ret
      exact ⟨rfl, K7.out⟩
theorem fdChanges_row (HDC : DiffC) (HAC : ApplyC) (HIC : InvertC) {w : World} (hm : MX w) {v : Value} {zs : List Int} (hs : SlI w v zs) {u : Value} {fs : List Fl} (hr : Rw w u fs) : Calls Tryz.prog 3 #[v, .agg #[u]] w fun e w' => e = .returned (.bool true) ∧ Kp w w' := fdChanges_any HDC HAC HIC hs hr hm
end By
end Go.Proofs.YtfobogcccbddbaaGreatDoor
