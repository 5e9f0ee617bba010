/- The sanity check of layer 12. Conditions: a package variable of the library holds some integer, the table of levels lies as its text lays it. -/
import Derived.Test.YtpgnckjgclbepaaDoorKyK
namespace Go.Proofs.YtpgnckjgclbepaaDoor
namespace By
open Go.RowKit WireN LexN RevN KeyN
set_option linter.unusedVariables false
set_option linter.unusedSimpArgs false

theorem kx1 : KyOk (1, [112], [102]) := ⟨⟨lt_dec (by decide), lt_dec (by decide)⟩, by decide, by decide⟩
theorem kx2 : KyOk (2, [112], [116]) := ⟨⟨lt_dec (by decide), lt_dec (by decide)⟩, by decide, by decide⟩
theorem kx_key : keyE 2 (1, [112], [102]) = 0 ∧ keyR 2 (1, [112], [102]) = (6, [112], []) := by decide +kernel
theorem kx_keys : keysE 3 [(1, [112], [102]), (2, [112], [116])] = 0 ∧ keysL 3 [(1, [112], [102]), (2, [112], [116])] = [(7, [112], [])] := by decide +kernel
set_option maxRecDepth 100000 in
set_option maxHeartbeats 4000000 in
theorem awakeL_any {w : World} (hm : MX w) (hc : CO w) : Calls Tryd.prog 15 #[] w fun e w' => e = .returned (.bool true) ∧ Kp w w' := by
  have HM := Lib.hid hm; have HC := Lib.hid hc
  have HK := Lib.hid (Key_any kx1 2 hm hc)
  rw [kx_key.1, kx_key.2] at HK
  simp only [vK] at HK
  clear hm hc
  go_enter Tryd.func15, Tryd.ntmps15
  go_wp2_with fail
  refine HK.out.mono ?_
  rintro e w1 ⟨rfl, hk1⟩
  have HK1 := Lib.hid hk1
  obtain ⟨W2, hW2⟩ : ∃ W, W = (w1.alloc (.cells #[.int .i64 6, .string (st [112]), .string (st [])] 29)).alloc (.cells #[.int .i64 1, .string ⟨#[112]⟩, .string ⟨#[102]⟩, .int .i64 2, .string ⟨#[112]⟩, .string ⟨#[116]⟩] 29) := ⟨_, rfl⟩
  have HW2 := Lib.hid hW2
  have hk2 : Kp w1 W2 := by rw [hW2]; exact Kp.alloc (kp_alloc _ _) _
  have HK2 := Lib.hid (Kp.trans hk1 hk2)
  have b1 : Blk W2 w1.heap.size 29 #[.int .i64 6, .string (st [112]), .string (st [])] := by rw [hW2]; exact (Blk.new _ _ _).keep (kp_alloc _ _)
  have hkw : Kw W2 (.slice (some ⟨w1.heap.size + 1, 0, none⟩) 2 2) [(1, [112], [102]), (2, [112], [116])] := by
    have hb : Blk W2 (w1.heap.size + 1) 29 #[.int .i64 1, .string ⟨#[112]⟩, .string ⟨#[102]⟩, .int .i64 2, .string ⟨#[112]⟩, .string ⟨#[116]⟩] := by
      have := Blk.new (w1.alloc (.cells #[.int .i64 6, .string (st [112]), .string (st [])] 29)) 29 #[.int .i64 1, .string ⟨#[112]⟩, .string ⟨#[102]⟩, .int .i64 2, .string ⟨#[112]⟩, .string ⟨#[116]⟩]
      rw [hW2]
      simpa using this
    have hrk : RK W2 (w1.heap.size + 1) [(1, [112], [102]), (2, [112], [116])] := ⟨[], hb⟩
    exact hrk.kw rfl (Nat.le_refl _) (by decide) (fun x hx => by
      simp only [List.mem_cons, List.not_mem_nil, or_false] at hx
      rcases hx with rfl | rfl
      · exact kx1
      · exact kx2)
  have HKS := Lib.hid (Keys_any 3 hkw (by decide) (HM.out.keep HK2.out) (HC.out.keep HK2.out))
  rw [kx_keys.1, kx_keys.2] at HKS
  have B1 := Lib.hid b1
  clear hk1 hW2 hk2 b1 hkw
  go_wp2_with fail
  rw [← HW2.out]
  refine HKS.out.mono ?_
  rintro e w3 ⟨u, rfl, hkw, -, hk3⟩
  have HK3 := Lib.hid (Kp.trans HK2.out hk3)
  have b1 := B1.out.keep hk3
  have d0 : w3.cell? ⟨w1.heap.size, 0, none⟩ = some (.int .i64 6) := b1.cell 0 rfl
  have d1 : w3.cell? ⟨w1.heap.size, 1, none⟩ = some (.string (st [112])) := b1.cell 1 rfl
  have d2 : w3.cell? ⟨w1.heap.size, 2, none⟩ = some (.string (st [])) := b1.cell 2 rfl
  obtain ⟨ua, uc, rfl, huc, -, -⟩ := hkw.open3
  obtain ⟨gb, go, rfl, hcell⟩ := hkw.cell (by simp)
  obtain ⟨c0, -, -⟩ := hcell 0 _ rfl
  simp only [Nat.zero_mul, Nat.add_zero] at c0
  have huc1 : (1 : Int) ≤ (uc : Int) := by simp at huc; omega
  have HF := Lib.hid (Finer_any 1 2 (HC.out.keep HK3.out))
  rw [show decide ((1 : Int) ≤ 1 ∧ (2 : Int) ≤ 3 ∧ (1 : Int) < 2) = true from by decide] at HF
  rw [show st [112] = ⟨#[112]⟩ from by decide +kernel] at d1
  rw [show st ([] : List Nat) = ⟨#[]⟩ from rfl] at d2
  clear hkw hk3 b1 hcell huc
  go_wp2_with fail
  refine HF.out.mono ?_
  rintro e w4 ⟨rfl, rfl⟩
  go_wp2_with fail
  go_ret
  exact ⟨rfl, HK3.out⟩
end By
end Go.Proofs.YtpgnckjgclbepaaDoor
