/- The reference's Invert. Condition: at most two hundred changes. -/
import Derived.Test.YtfobogcccbddbaaGreatDoorFdAp
namespace Go.Proofs.YtfobogcccbddbaaGreatDoor
namespace FdN
open RevN
theorem invA_most (a : List Fl) (l : List Ch) : (invA a l).2.length ≤ 1000 := by
  unfold invA
  by_cases h : aplE a l = 0
  · simp only [h, if_true]
    obtain ⟨h1, -, -, -, -, -, h7⟩ := apl_ok h
    rw [difA_ok h7 h1]
    have h3 := (chk_ok h1).1
    have h4 := (chk_ok h7).1
    have h5 := rk_len (outL a l) a (gn (outL a l) a).length
    have h6 := (dk_len (outL a l) a a.length (Nat.le_refl _)).2
    rw [dk_all (outL a l) a (Nat.le_refl _)] at h6
    have h7 : (gn (outL a l) a).length ≤ (outL a l).length := by unfold gn; exact List.length_filter_le _ _
    have h8 : difL (outL a l) a = rk (outL a l) a (gn (outL a l) a).length := rfl
    rw [h8]
    omega
  · simp only [h, if_false]
    simp
end FdN
namespace By
open Go.RowKit WireN LexN RevN FdN
set_option linter.unusedVariables false
set_option linter.unusedSimpArgs false

set_option maxRecDepth 100000 in
set_option maxHeartbeats 4000000 in
theorem rInvert_any {w : World} {va vl : Value} {a : List Fl} {l : List Ch} (ha : Rw w va a) (hl : Cw w vl l) (hll : l.length ≤ 200) :
    Calls Tryz.prog 19 #[.agg #[va], vl] w (ChgA w (invA a l)) := by
  obtain ⟨aa, la, ca, hva⟩ := ha.form
  obtain ⟨lo, lc, hvl, -, -, -⟩ := hl.open3
  obtain ⟨n, hn⟩ : ∃ n, n = l.length := ⟨_, rfl⟩
  rw [← hn] at hvl
  subst hva hvl
  obtain ⟨Q, hQ⟩ : ∃ Q, Q = ChgA w (invA a l) := ⟨_, rfl⟩
  rw [← hQ]
  obtain ⟨W0, hW0⟩ : ∃ W, W = w.alloc (.cells #[.slice aa la ca] 25) := ⟨_, rfl⟩
  have k0 : Kp w W0 := by rw [hW0]; exact kp_alloc _ _
  obtain ⟨pr, hpr⟩ : ∃ b, b = w.heap.size := ⟨_, rfl⟩
  have HBR : Hid (Blk W0 pr 25 #[.slice aa la ca]) := Lib.hid (by rw [hW0, hpr]; exact Blk.new _ _ _)
  have HA := Lib.hid (ha.keep k0); have HK0 := Lib.hid k0
  have HAP := Lib.hid (rApply_any (ha.keep k0) (hl.keep k0) (by rw [← hn] at hll ⊢; exact hll))
  have FIN : Hid (∀ (u : Value) (D : List Ch) (c : Nat) (W : World), invA a l = (c, D) → Cw W u D → (∀ b, u.ownBlock = some b → w.heap.size ≤ b) → Kp w W → Q (.returned (.tuple #[u, .int .i64 (c : Nat)])) W) := Lib.hid (by
    intro u D c W h1 h2 h3 h4
    rw [hQ, h1]
    exact ⟨u, rfl, h2, h3, h4⟩)
  have x0 := HBR.out.cell 0 rfl
  rw [hW0] at x0
  rw [hpr] at x0
  have HW0 := Lib.hid hW0; have HPR := Lib.hid hpr
  clear ha hl hll hn hQ hW0 k0 hpr
  go_enter Tryz.func19, Tryz.ntmps19
  go_wp2_with fail
  rw [← HW0.out, ← HPR.out]
  refine HAP.out.mono ?_
  rintro e w1 ⟨v1, rfl, hr1, hn1, hk1⟩
  obtain ⟨a1, l1, c1, hv1⟩ := hr1.form
  subst hv1
  obtain ⟨W2, hW2⟩ : ∃ W, W = w1.alloc (.cells #[.slice a1 l1 c1] 25) := ⟨_, rfl⟩
  have k2 : Kp w1 W2 := by rw [hW2]; exact kp_alloc _ _
  have HR2 := Lib.hid (hr1.keep k2)
  have HK2 := Lib.hid (hk1.trans k2)
  obtain ⟨E, hE⟩ : ∃ E, E = aplE a l := ⟨_, rfl⟩
  have hfst : (aplA a l).1 = E := by rw [hE]; rfl
  rw [hfst]
  have HEE := Lib.hid hE
  have x1 : W2.cell? ⟨w1.heap.size, 0, none⟩ = some (.slice a1 l1 c1) := by rw [hW2]; exact (Blk.new _ _ _).cell 0 rfl
  have x2 := (HBR.out.keep HK2.out).cell 0 rfl
  rw [hW2] at x1 x2
  have HW2 := Lib.hid hW2
  clear hr1 hn1 hk1 hW2 k2 hE hfst x0
  by_cases he : E = 0
  · subst he
    have hap := apl_ok HEE.out.symm
    have HIN : Hid (invA a l = (0, difA (outL a l) a)) := Lib.hid (by unfold invA; rw [← HEE.out]; rfl)
    have hout : (aplA a l).2 = outL a l := by unfold aplA; rw [← HEE.out]; rfl
    rw [hout] at HR2
    have HDF := Lib.hid (rDiff_any HR2.out (HA.out.keep HK2.out))
    have HDE : Hid (difE (outL a l) a = 0) := Lib.hid (difE_ok hap.2.2.2.2.2.2 hap.1)
    clear hap hout
    go_wp2_with fail
    rw [← HW2.out]
    refine HDF.out.mono ?_
    rintro e w3 ⟨u3, rfl, hu3, hn3, hk3⟩
    have HF := Lib.hid (FIN.out u3 _ 0 w3 HIN.out hu3 (fun b hb => by have h1 := hn3 b hb; have h2 := HK2.out.size; have h3 := HK0.out.size; omega) ((HK0.out.trans HK2.out).trans hk3))
    rw [HDE.out]
    clear hu3 hn3 hk3
    go_wp2_with fail
    exact HF.out
  · have hx2 : ((E : Int) != 0) = true := by rw [bne_iff_ne]; omega
    have HIN : Hid (invA a l = (E, [])) := Lib.hid (by unfold invA; rw [← HEE.out, if_neg he])
    have HF := Lib.hid (FIN.out (.slice none 0 0) [] E W2 HIN.out (Cw.nil _) (fun b hb => by simp [Value.ownBlock] at hb) (HK0.out.trans HK2.out))
    clear he
    go_wp2_with fail
    rw [← HW2.out]
    exact HF.out
end By
end Go.Proofs.YtfobogcccbddbaaGreatDoor
