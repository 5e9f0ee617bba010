/- The reference's Same at two sources that read the same. Conditions: names have at most a million bytes, rows at most a million items. -/
import Derived.Test.YtmflgfojicaecaaGreatDoorMCf
namespace Go.Proofs.YtmflgfojicaecaaGreatDoor
namespace By
open Go.RowKit WireN LexN SrcN
set_option linter.unusedVariables false
set_option linter.unusedSimpArgs false

set_option maxRecDepth 100000 in
set_option maxHeartbeats 1000000 in
theorem sameTexts_eq {v v' : Value} {ns : List (List Nat)} {W : World} (h1 : Sts W v ns) (h2 : Sts W v' ns) : Calls Tryz.prog 39 #[v, v'] W fun e W' => e = .returned (.bool true) ∧ Kp W W' := by
  obtain ⟨⟨ao, ac, rfl, hl6, ha⟩, -⟩ := h1
  obtain ⟨⟨bo, bc, rfl, -, hb⟩, -⟩ := h2
  have HA := Lib.hid ha; have HB := Lib.hid hb
  obtain ⟨n, hn⟩ : ∃ n, n = ns.length := ⟨_, rfl⟩
  rw [← hn] at hl6 ⊢
  have HN := Lib.hid hn
  clear ha hb hn
  go_enter Tryz.func39, Tryz.ntmps39
  go_wp2_with fail
  go_loopw [13] (fun iv wy => ∃ i : Nat, i ≤ n ∧ iv = .int .i64 i ∧ Kp W wy) (fun iv _ => n - (intOf iv).toNat)
  case atStart => exact ⟨0, Nat.zero_le _, rfl, Kp.refl _⟩
  case round =>
    obtain ⟨i, hi, rfl, hkp⟩ := hrel
    have HKP := Lib.hid hkp
    clear hkp
    rename World => wy
    by_cases hil : i < n
    · obtain ⟨x, hx⟩ : ∃ x, ns[i]? = some x := ⟨_, List.getElem?_eq_getElem (by have := HN.out; omega)⟩
      rcases HA.out with h0 | ⟨ga, oa, rfl, -, hca⟩
      · rw [h0] at hx; cases hx
      rcases HB.out with h0 | ⟨gb, ob, rfl, -, hcb⟩
      · rw [h0] at hx; cases hx
      have k0 := cell_kept (hca i x hx) HKP.out
      have k1 := cell_kept (hcb i x hx) HKP.out
      obtain ⟨S, hS⟩ : ∃ S, S = st x := ⟨_, rfl⟩
      rw [← hS] at k0 k1
      clear hx hca hcb hS
      go_wp2_with fail
      go_quiet (fail)
      all_goals
        go_wp2_with fail
        go_roundw
      case rel => exact ⟨i + 1, by omega, vint (by omega), Kp.trans HKP.out (Kp.drewN _ _)⟩
      case measure => simp [intOf]; omega
    · go_wp2_with fail
      go_ret
      exact ⟨rfl, HKP.out⟩
set_option maxRecDepth 100000 in
set_option maxHeartbeats 1000000 in
theorem sameExpr_eq {k num op : Int} {nm : List Nat} {aa ba : Option Addr} {ac bc : Nat} {xs : List Int} {w : World} (h1 : Is w (.slice aa xs.length ac) xs) (h2 : Is w (.slice ba xs.length bc) xs) :
    Calls Tryz.prog 68 #[.agg #[.int .i64 k, .int .i64 num, .int .i64 op, .string (st nm), .slice aa xs.length ac], .agg #[.int .i64 k, .int .i64 num, .int .i64 op, .string (st nm), .slice ba xs.length bc]] w fun e W' => e = .returned (.bool true) ∧ Kp w W' := by
  obtain ⟨a1, c1', e1, hl6, ha⟩ := h1
  simp only [Value.slice.injEq] at e1
  obtain ⟨rfl, -, rfl⟩ := e1
  obtain ⟨b1, d1', e2, -, hb⟩ := h2
  simp only [Value.slice.injEq] at e2
  obtain ⟨rfl, -, rfl⟩ := e2
  have HA := Lib.hid ha; have HB := Lib.hid hb
  obtain ⟨n, hn⟩ : ∃ n, n = xs.length := ⟨_, rfl⟩
  rw [← hn] at hl6 ⊢
  have HN := Lib.hid hn
  obtain ⟨S, hS⟩ : ∃ S, S = st nm := ⟨_, rfl⟩
  rw [← hS]
  clear ha hb hn hS
  obtain ⟨W1, hW1⟩ : ∃ W1, W1 = w.alloc (Obj.cells #[.int .i64 k, .int .i64 num, .int .i64 op, .string S, .slice aa n ac] 57) := ⟨_, rfl⟩
  obtain ⟨W2, hW2⟩ : ∃ W2, W2 = W1.alloc (Obj.cells #[.int .i64 k, .int .i64 num, .int .i64 op, .string S, .slice ba n bc] 57) := ⟨_, rfl⟩
  have k1 : Kp w W1 := by rw [hW1]; exact kp_alloc _ _
  have k2 : Kp W1 W2 := by rw [hW2]; exact kp_alloc _ _
  have z1 : W1.heap.size = w.heap.size + 1 := by rw [hW1]; simp
  have b1 : Blk W2 w.heap.size 57 #[.int .i64 k, .int .i64 num, .int .i64 op, .string S, .slice aa n ac] := by
    have : Blk W1 w.heap.size 57 #[.int .i64 k, .int .i64 num, .int .i64 op, .string S, .slice aa n ac] := by rw [hW1]; exact Blk.new _ _ _
    exact this.keep k2
  have b2 : Blk W2 (w.heap.size + 1) 57 #[.int .i64 k, .int .i64 num, .int .i64 op, .string S, .slice ba n bc] := by rw [← z1, hW2]; exact Blk.new _ _ _
  have B1 := Lib.hid b1; have B2 := Lib.hid b2; have K2 := Lib.hid (Kp.trans k1 k2)
  have x0 := b1.cell 0 rfl; have x1 := b1.cell 1 rfl; have x2 := b1.cell 2 rfl; have x3 := b1.cell 3 rfl; have x4 := b1.cell 4 rfl
  have y0 := b2.cell 0 rfl; have y1 := b2.cell 1 rfl; have y2 := b2.cell 2 rfl; have y3 := b2.cell 3 rfl; have y4 := b2.cell 4 rfl
  have HW : Hid (W2 = (w.alloc (Obj.cells #[.int .i64 k, .int .i64 num, .int .i64 op, .string S, .slice aa n ac] 57)).alloc (Obj.cells #[.int .i64 k, .int .i64 num, .int .i64 op, .string S, .slice ba n bc] 57)) := Lib.hid (by rw [hW2, hW1])
  rw [HW.out] at x0 x1 x2 x3 x4 y0 y1 y2 y3 y4
  clear hW1 hW2 k1 k2 z1 b1 b2
  go_enter Tryz.func68, Tryz.ntmps68
  go_wp2_with fail
  rw [← HW.out]
  clear x0 x1 x2 x3 x4 y0 y1 y2 y3 y4
  go_loopw [44] (fun iv wy => ∃ i : Nat, i ≤ n ∧ iv = .int .i64 i ∧ Kp W2 wy) (fun iv _ => n - (intOf iv).toNat)
  case atStart => exact ⟨0, Nat.zero_le _, rfl, Kp.refl _⟩
  case round =>
    obtain ⟨i, hi, rfl, hkp⟩ := hrel
    have HKP := Lib.hid hkp
    have p4 := (B1.out.keep hkp).cell 4 rfl
    have q4 := (B2.out.keep hkp).cell 4 rfl
    clear hkp
    rename World => wy
    by_cases hil : i < n
    · obtain ⟨x, hx⟩ : ∃ x, xs[i]? = some x := ⟨_, List.getElem?_eq_getElem (by have := HN.out; omega)⟩
      rcases HA.out with h0 | ⟨ga, oa, rfl, -, hca⟩
      · rw [h0] at hx; cases hx
      rcases HB.out with h0 | ⟨gb, ob, rfl, -, hcb⟩
      · rw [h0] at hx; cases hx
      have k0 := cell_kept (hca i x hx) (Kp.trans K2.out HKP.out)
      have k1 := cell_kept (hcb i x hx) (Kp.trans K2.out HKP.out)
      clear hx hca hcb
      go_wp2_with fail
      go_quiet (fail)
      all_goals
        go_wp2_with fail
        go_roundw
      case rel => exact ⟨i + 1, by omega, vint (by omega), Kp.trans HKP.out (Kp.drewN _ _)⟩
      case measure => simp [intOf]; omega
    · go_wp2_with fail
      go_ret
      exact ⟨rfl, Kp.trans K2.out HKP.out⟩
end By
end Go.Proofs.YtmflgfojicaecaaGreatDoor
