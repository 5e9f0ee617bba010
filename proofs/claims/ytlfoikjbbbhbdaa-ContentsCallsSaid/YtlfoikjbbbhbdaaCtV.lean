/- What is asked of the program's functions, and the laws' sanity check of it. -/
import Derived.Test.YtlfoikjbbbhbdaaMCj
namespace Go.Proofs.Ytlfoikjbbbhbdaa
namespace By
open Go.RowKit WireN CtN
set_option linter.unusedVariables false
set_option linter.unusedSimpArgs false

def PutC : Prop := ∀ {w : World} {v : Value} {ts : List Tx}, Tw w v ts → ts.length ≤ 1000000 → ∀ {x : Tx}, TxOk x → Calls Try.prog 13 #[.agg #[v], .string (st x)] w (PutR x ts w)
def GetC : Prop := ∀ {w : World} {v : Value} {ts : List Tx}, Tw w v ts → ∀ n : Int, Calls Try.prog 16 #[.agg #[v], .int .i64 n] w fun e w' => e = .returned (.tuple #[.string (st (gtT n ts)), .int .i64 (gtE n ts : Nat)]) ∧ Kp w w'
set_option maxRecDepth 100000 in
set_option maxHeartbeats 4000000 in
theorem awake13_any (HP : PutC) (HG : GetC) (w : World) : Calls Try.prog 24 #[] w fun e w' => e = .returned (.bool true) ∧ Kp w w' := by
  have hx : TxOk [120] := ⟨Lt.one (by decide), by decide⟩
  have hy : TxOk [121] := ⟨Lt.one (by decide), by decide⟩
  have sx : (⟨#[120]⟩ : ByteArray) = st [120] := by decide
  have sy : (⟨#[121]⟩ : ByteArray) = st [121] := by decide
  have P1 : Hid (∀ w : World, Calls Try.prog 13 #[.agg #[.slice none 0 0], .string ⟨#[120]⟩] w fun e w' => ∃ u, e = .returned (.tuple #[.agg #[u], .int .i64 0, .int .i64 0]) ∧ Tw w' u [[120]] ∧ Kp w w') := Lib.hid (fun w => by
    rw [sx]
    refine (HP (Tw.nil w) (by simp) hx).mono ?_
    rintro e w' ⟨u, rfl, h1, -, h2⟩
    exact ⟨u, rfl, h1, h2⟩)
  have P2 : Hid (∀ (w : World) (v : Value), Tw w v [[120]] → Calls Try.prog 13 #[.agg #[v], .string ⟨#[121]⟩] w fun e w' => ∃ u, e = .returned (.tuple #[.agg #[u], .int .i64 1, .int .i64 0]) ∧ Tw w' u [[120], [121]] ∧ (∀ b, u.ownBlock = some b → w.heap.size ≤ b) ∧ Kp w w') := Lib.hid (fun w v hv => by
    rw [sy]
    refine (HP hv (by simp) hy).mono ?_
    rintro e w' ⟨u, rfl, h1, h3, h2⟩
    exact ⟨u, rfl, h1, h3, h2⟩)
  have P3 : Hid (∀ (w : World) (v : Value), Tw w v [[120], [121]] → Calls Try.prog 13 #[.agg #[v], .string ⟨#[120]⟩] w fun e w' => ∃ u, e = .returned (.tuple #[.agg #[u], .int .i64 0, .int .i64 0]) ∧ Tw w' u [[120], [121]] ∧ (∀ b, u.ownBlock = some b → w.heap.size ≤ b) ∧ Kp w w') := Lib.hid (fun w v hv => by
    rw [sx]
    refine (HP hv (by simp) hx).mono ?_
    rintro e w' ⟨u, rfl, h1, h3, h2⟩
    exact ⟨u, rfl, h1, h3, h2⟩)
  have P4 : Hid (∀ (w : World) (v : Value), Tw w v [[120], [121]] → Calls Try.prog 16 #[.agg #[v], .int .i64 1] w fun e w' => e = .returned (.tuple #[.string ⟨#[121]⟩, .int .i64 0]) ∧ Kp w w') := Lib.hid (fun w v hv => by
    refine (HG hv 1).mono ?_
    rintro e w' ⟨rfl, h2⟩
    exact ⟨rfl, h2⟩)
  clear hx hy sx sy HP HG
  go_enter Try.func24, Try.ntmps24
  go_wp2_with fail
  refine (P1.out w).mono ?_
  rintro e w1 ⟨u, rfl, hu, hk1⟩
  obtain ⟨a1, a3, rfl, -⟩ := hu.open3
  have HK1 := Lib.hid hk1
  obtain ⟨w2, hw2⟩ : ∃ W, W = w1.alloc (.cells #[.slice a1 1 a3] 25) := ⟨_, rfl⟩
  have hk2 : Kp w1 w2 := by rw [hw2]; exact kp_alloc _ _
  have hb2 : Blk w2 w1.heap.size 25 #[.slice a1 1 a3] := by rw [hw2]; exact Blk.new _ _ _
  have HP2 := Lib.hid (P2.out w2 _ (hu.keep hk2))
  have HB2 := Lib.hid hb2; have HW2 := Lib.hid hw2; have HK2 := Lib.hid hk2
  clear hu hk1 hw2 hk2 hb2
  go_wp2_with fail
  rw [← HW2.out]
  refine HP2.out.mono ?_
  rintro e w3 ⟨u, rfl, hu, hnw, hk3⟩
  obtain ⟨b1, b3, rfl, -⟩ := hu.open3
  have hb3 := HB2.out.keep hk3
  have c3 := hb3.cell 0 rfl; have f3 := hb3.free 0
  have hlt := HB2.out.lt
  obtain ⟨w4, hw4⟩ : ∃ W, W = w3.setCell ⟨w1.heap.size, 0, none⟩ (.slice b1 2 b3) := ⟨_, rfl⟩
  have hb4 : Blk w4 w1.heap.size 25 #[.slice b1 2 b3] := by rw [hw4]; exact hb3.set 0 _
  have hu4 : Tw w4 (.slice b1 2 b3) [[120], [121]] := by rw [hw4]; exact hu.setc (fun b hb => by have := hnw b hb; omega)
  have hk4 : Kp w w4 := by
    rw [hw4]
    exact Only.kp ((HK1.out.trans HK2.out).trans hk3) ((Only.refl w1.heap.size w3).set 0 _) HK1.out.size
  have HP3 := Lib.hid (P3.out w4 _ hu4)
  have HW4 := Lib.hid hw4; have HB4 := Lib.hid hb4; have HK4 := Lib.hid hk4
  have c4 := hb4.cell 0 rfl
  clear hu hnw hk3 hb3 hlt hw4 hb4 hu4 hk4
  go_wp2_with fail
  rw [← HW4.out]
  refine HP3.out.mono ?_
  rintro e w5 ⟨u, rfl, hu, hnw, hk5⟩
  obtain ⟨d1, d3, rfl, -⟩ := hu.open3
  have hb5 := HB4.out.keep hk5
  have c5 := hb5.cell 0 rfl; have f5 := hb5.free 0
  have hlt := HB4.out.lt
  obtain ⟨w6, hw6⟩ : ∃ W, W = w5.setCell ⟨w1.heap.size, 0, none⟩ (.slice d1 2 d3) := ⟨_, rfl⟩
  have hb6 : Blk w6 w1.heap.size 25 #[.slice d1 2 d3] := by rw [hw6]; exact hb5.set 0 _
  have hu6 : Tw w6 (.slice d1 2 d3) [[120], [121]] := by rw [hw6]; exact hu.setc (fun b hb => by have := hnw b hb; omega)
  have hk6 : Kp w w6 := by
    rw [hw6]
    exact Only.kp (HK4.out.trans hk5) ((Only.refl w1.heap.size w5).set 0 _) HK1.out.size
  have HP4 := Lib.hid (P4.out w6 _ hu6)
  have HW6 := Lib.hid hw6; have HB6 := Lib.hid hb6; have HK6 := Lib.hid hk6
  have c6 := hb6.cell 0 rfl
  clear hu hnw hk5 hb5 hlt hw6 hb6 hu6 hk6 c3 f3 c4
  go_wp2_with fail
  rw [← HW6.out]
  refine HP4.out.mono ?_
  rintro e w7 ⟨rfl, hk7⟩
  have c7 := (HB6.out.keep hk7).cell 0 rfl
  have HK7 := Lib.hid (HK6.out.trans hk7)
  clear hk7 c5 f5 c6
  go_wp2_with fail
  go_ret
  exact ⟨rfl, HK7.out⟩
end By
end Go.Proofs.Ytlfoikjbbbhbdaa
