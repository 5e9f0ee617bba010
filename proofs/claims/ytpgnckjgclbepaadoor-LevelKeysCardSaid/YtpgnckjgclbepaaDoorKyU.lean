/- The reference's order of keys, Finer and Key. Condition: none of the strings is too long for a string. -/
import Derived.Test.YtpgnckjgclbepaaDoorKyK
namespace Go.Proofs.YtpgnckjgclbepaaDoor
namespace By
open Go.RowKit WireN LexN RevN KeyN
set_option linter.unusedVariables false
set_option linter.unusedSimpArgs false

set_option maxRecDepth 100000 in
set_option maxHeartbeats 4000000 in
theorem rLess_any {x y : Ky} (hx : KyOk x) (hy : KyOk y) (w : World) : Calls Tryd.prog 52 #[vK x, vK y] w fun e w' => e = .returned (.bool (lk x y)) ∧ Kp w w' := by
  have q2 := st_eqk hx.1.1 hy.1.1
  have l2 := less_stk hx.1.1 hy.1.1
  have l3 := less_stk hx.1.2 hy.1.2
  have HV : Hid (lk x y = (decide (x.1 < y.1) || (decide (x.1 = y.1) && (lss x.2.1 y.2.1 || (decide (x.2.1 = y.2.1) && lss x.2.2 y.2.2))))) := Lib.hid rfl
  obtain ⟨V, hV⟩ : ∃ V, V = lk x y := ⟨_, rfl⟩
  rw [← hV] at HV ⊢
  obtain ⟨x1, x2, x3⟩ := x
  obtain ⟨y1, y2, y3⟩ := y
  simp only [vK] at q2 l2 l3 HV ⊢
  obtain ⟨a2, ha2⟩ : ∃ b, b = lss x2 y2 := ⟨_, rfl⟩
  obtain ⟨a3, ha3⟩ : ∃ b, b = lss x3 y3 := ⟨_, rfl⟩
  rw [← ha2] at l2 HV
  rw [← ha3] at l3 HV
  obtain ⟨e2, he2⟩ : ∃ b, b = decide (x2 = y2) := ⟨_, rfl⟩
  rw [← he2] at q2 HV
  obtain ⟨S2, hS2⟩ : ∃ S, S = st x2 := ⟨_, rfl⟩
  obtain ⟨S3, hS3⟩ : ∃ S, S = st x3 := ⟨_, rfl⟩
  obtain ⟨T2, hT2⟩ : ∃ S, S = st y2 := ⟨_, rfl⟩
  obtain ⟨T3, hT3⟩ : ∃ S, S = st y3 := ⟨_, rfl⟩
  rw [← hS2, ← hT2] at q2 l2 ⊢
  rw [← hS3, ← hT3] at l3 ⊢
  have HK : Hid (Kp w ((w.alloc (.cells #[.int .i64 x1, .string S2, .string S3] 29)).alloc (.cells #[.int .i64 y1, .string T2, .string T3] 29))) := Lib.hid (Kp.alloc (kp_alloc _ _) _)
  have HS : Hid (a2 = true → e2 = false) := Lib.hid (by
    rw [ha2, he2]
    intro h
    exact decide_eq_false (lss_ne h))
  clear hV ha2 ha3 he2 hS2 hS3 hT2 hT3 hx hy
  by_cases h1 : x1 = y1
  · subst h1
    cases e2 with
    | true =>
      have ha : a2 = false := by
        cases a2 with
        | true => exact absurd (HS.out rfl) (by decide)
        | false => rfl
      have HF : Hid (a3 = V) := Lib.hid (by rw [HV.out, ha]; simp)
      clear HV HS l2 ha
      go_enter Tryd.func52, Tryd.ntmps52
      go_wp2_with fail
      go_ret
      exact ⟨ret_bool HF.out, HK.out⟩
    | false =>
      have HF : Hid (a2 = V) := Lib.hid (by rw [HV.out]; simp)
      clear HV HS l3
      go_enter Tryd.func52, Tryd.ntmps52
      go_wp2_with fail
      go_ret
      exact ⟨ret_bool HF.out, HK.out⟩
  · have HF : Hid (decide (x1 < y1) = V) := Lib.hid (by rw [HV.out, decide_eq_false h1]; simp)
    have hb : (x1 == y1) = false := beq_eq_false_iff_ne.2 h1
    obtain ⟨d, hd⟩ : ∃ d, d = decide (x1 < y1) := ⟨_, rfl⟩
    rw [← hd] at HF
    have hd2 : decide (x1 < y1) = d := hd.symm
    have HD := Lib.hid hd2
    clear HV HS l2 l3 q2 h1 hd
    go_enter Tryd.func52, Tryd.ntmps52
    go_wp2_with fail
    go_ret
    exact ⟨ret_bool (by first | exact HF.out | (rw [HD.out]; exact HF.out)), HK.out⟩
set_option maxRecDepth 100000 in
set_option maxHeartbeats 1000000 in
theorem rFiner_any (a b : Int) (w : World) : Calls Tryd.prog 12 #[.int .i64 a, .int .i64 b] w fun e w' => e = .returned (.bool (decide (1 ≤ a ∧ b ≤ 3 ∧ a < b))) ∧ w = w' := by
  obtain ⟨V, hV⟩ : ∃ V, V = decide (1 ≤ a ∧ b ≤ 3 ∧ a < b) := ⟨_, rfl⟩
  rw [← hV]
  have HV := Lib.hid hV
  clear hV
  by_cases h1 : 1 ≤ a
  · by_cases h2 : b ≤ 3
    · have HF : Hid (decide (a < b) = V) := Lib.hid (by rw [HV.out, decide_eq_decide]; omega)
      clear HV
      go_enter Tryd.func12, Tryd.ntmps12
      go_wp2_with fail
      go_ret
      exact ⟨ret_bool HF.out, rfl⟩
    · have HF : Hid (false = V) := Lib.hid (by rw [HV.out]; exact (decide_eq_false (by omega)).symm)
      have h3 : (3 : Int) < b := by omega
      clear HV h2
      go_enter Tryd.func12, Tryd.ntmps12
      go_wp2_with fail
      go_ret
      exact ⟨ret_bool HF.out, rfl⟩
  · have HF : Hid (false = V) := Lib.hid (by rw [HV.out]; exact (decide_eq_false (by omega)).symm)
    have h3 : a < (1 : Int) := by omega
    clear HV h1
    go_enter Tryd.func12, Tryd.ntmps12
    go_wp2_with fail
    go_ret
    exact ⟨ret_bool HF.out, rfl⟩
end By
end Go.Proofs.YtpgnckjgclbepaaDoor
