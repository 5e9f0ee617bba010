/- The program's levels. Condition: the table of levels lies as its text lays it. -/
import Derived.Test.YtpgnckjgclbepaaDoorKyG
namespace Go.Proofs.YtpgnckjgclbepaaDoor
namespace By
open Go.RowKit WireN LexN RevN KeyN
set_option linter.unusedVariables false
set_option linter.unusedSimpArgs false

/-- The table of levels. -/
def coCells : List Value := [.bool false, .bool false, .bool false, .bool false, .bool false, .bool false, .bool true, .bool true, .bool false, .bool false, .bool false, .bool true, .bool false, .bool false, .bool false, .bool false]
def CO (w : World) : Prop := ∀ (i : Nat) (v : Value), coCells[i]? = some v → w.cell? ⟨0, i, none⟩ = some v
theorem CO.keep {w w' : World} (h : CO w) (hk : Kp w w') : CO w' := fun i v hv => cell_kept (h i v hv) hk
set_option maxRecDepth 100000 in
set_option maxHeartbeats 1000000 in
theorem isLevel_any (n : Int) (w : World) : Calls Tryd.prog 23 #[.int .i64 n] w fun e w' => e = .returned (.bool (decide (1 ≤ n ∧ n ≤ 3))) ∧ w = w' := by
  obtain ⟨V, hV⟩ : ∃ V, V = decide (1 ≤ n ∧ n ≤ 3) := ⟨_, rfl⟩
  rw [← hV]
  have HV0 := Lib.hid hV
  clear hV
  by_cases h1 : 1 ≤ n
  · by_cases h2 : n ≤ 3
    · have HV : Hid (V = true) := Lib.hid (by rw [HV0.out]; exact decide_eq_true ⟨h1, h2⟩)
      clear HV0
      go_enter Tryd.func23, Tryd.ntmps23
      go_wp2_with fail
      go_ret
      exact ⟨ret_bool (by rw [HV.out]), rfl⟩
    · have HV : Hid (V = false) := Lib.hid (by rw [HV0.out]; exact decide_eq_false fun h => h2 h.2)
      have i1 : (3 : Int) < n := by omega
      have H2 := Lib.hid h2
      clear h2 HV0
      go_enter Tryd.func23, Tryd.ntmps23
      go_wp2_with fail
      go_ret
      exact ⟨ret_bool (by rw [HV.out]; exact decide_eq_false (by have := H2.out; omega)), rfl⟩
  · have HV : Hid (V = false) := Lib.hid (by rw [HV0.out]; exact decide_eq_false fun h => h1 h.1)
    have i1 : n < (1 : Int) := by omega
    clear h1 HV0
    go_enter Tryd.func23, Tryd.ntmps23
    go_wp2_with fail
    go_ret
    exact ⟨ret_bool (by rw [HV.out]), rfl⟩
/-- The level of a kind. -/
def ownN (k : Int) : Nat := if k = 1 ∨ k = 2 then 1 else if k = 6 then 2 else 3
theorem ownN_le (k : Int) : 1 ≤ ownN k ∧ ownN k ≤ 3 := by unfold ownN; split <;> (try split) <;> omega
set_option maxRecDepth 100000 in
set_option maxHeartbeats 1000000 in
theorem own_any (k : Int) (w : World) : Calls Tryd.prog 32 #[.int .i64 k] w fun e w' => e = .returned (.int .i64 (ownN k : Nat)) ∧ w = w' := by
  have R : ∀ (a b : Nat), a = b → Ending.returned (.int .i64 (b : Nat)) = .returned (.int .i64 (a : Nat)) := fun a b h => by rw [h]
  have HR := Lib.hid R
  clear R
  by_cases h1 : k = 1
  · have HV : Hid (ownN k = 1) := Lib.hid (by unfold ownN; rw [if_pos (.inl h1)])
    subst h1
    go_enter Tryd.func32, Tryd.ntmps32
    go_wp2_with fail
    go_ret
    exact ⟨HR.out _ 1 HV.out, rfl⟩
  · by_cases h2 : k = 2
    · have HV : Hid (ownN k = 1) := Lib.hid (by unfold ownN; rw [if_pos (.inr h2)])
      subst h2
      clear h1
      go_enter Tryd.func32, Tryd.ntmps32
      go_wp2_with fail
      go_ret
      exact ⟨HR.out _ 1 HV.out, rfl⟩
    · by_cases h6 : k = 6
      · have HV : Hid (ownN k = 2) := Lib.hid (by unfold ownN; rw [if_neg (by omega), if_pos h6])
        subst h6
        clear h1 h2
        go_enter Tryd.func32, Tryd.ntmps32
        go_wp2_with fail
        go_ret
        exact ⟨HR.out _ 2 HV.out, rfl⟩
      · have HV : Hid (ownN k = 3) := Lib.hid (by unfold ownN; rw [if_neg (by omega), if_neg h6])
        have e1 : (k == 1) = false := beq_eq_false_iff_ne.2 h1
        have e2 : (k == 2) = false := beq_eq_false_iff_ne.2 h2
        have e6 : (k == 6) = false := beq_eq_false_iff_ne.2 h6
        clear h1 h2 h6
        go_enter Tryd.func32, Tryd.ntmps32
        go_wp2_with fail
        go_ret
        exact ⟨HR.out _ 3 HV.out, rfl⟩
set_option maxRecDepth 100000 in
set_option maxHeartbeats 1000000 in
theorem Finer_any (a b : Int) {w : World} (hc : CO w) : Calls Tryd.prog 11 #[.int .i64 a, .int .i64 b] w fun e w' => e = .returned (.bool (decide (1 ≤ a ∧ b ≤ 3 ∧ a < b))) ∧ w = w' := by
  have HA := Lib.hid (isLevel_any a w)
  have HB := Lib.hid (isLevel_any b w)
  have t0 := hc 0 _ rfl; have t1 := hc 1 _ rfl; have t2 := hc 2 _ rfl; have t3 := hc 3 _ rfl; have t4 := hc 4 _ rfl; have t5 := hc 5 _ rfl; have t6 := hc 6 _ rfl; have t7 := hc 7 _ rfl
  have t8 := hc 8 _ rfl; have t9 := hc 9 _ rfl; have t10 := hc 10 _ rfl; have t11 := hc 11 _ rfl; have t12 := hc 12 _ rfl; have t13 := hc 13 _ rfl; have t14 := hc 14 _ rfl; have t15 := hc 15 _ rfl
  obtain ⟨V, hV⟩ : ∃ V, V = decide (1 ≤ a ∧ b ≤ 3 ∧ a < b) := ⟨_, rfl⟩
  rw [← hV]
  have HV := Lib.hid hV
  clear hV hc
  by_cases ha : 1 ≤ a ∧ a ≤ 3
  · rw [decide_eq_true ha] at HA
    by_cases hb : 1 ≤ b ∧ b ≤ 3
    · rw [decide_eq_true hb] at HB
      obtain rfl | rfl | rfl : a = 1 ∨ a = 2 ∨ a = 3 := by omega
      all_goals
        obtain rfl | rfl | rfl : b = 1 ∨ b = 2 ∨ b = 3 := by omega
      all_goals
        clear ha hb
        go_enter Tryd.func11, Tryd.ntmps11
        go_wp2_with fail
        refine HA.out.mono ?_
        rintro e w1 ⟨rfl, rfl⟩
        go_wp2_with fail
        refine HB.out.mono ?_
        rintro e w1 ⟨rfl, rfl⟩
        go_wp2_with fail
        go_ret
        exact ⟨ret_bool (by rw [HV.out]; rfl), rfl⟩
    · rw [decide_eq_false hb] at HB
      have HF : Hid (V = false) := Lib.hid (by rw [HV.out]; exact decide_eq_false (by omega))
      clear ha hb t0 t1 t2 t3 t4 t5 t6 t7 t8 t9 t10 t11 t12 t13 t14 t15 HV
      go_enter Tryd.func11, Tryd.ntmps11
      go_wp2_with fail
      refine HA.out.mono ?_
      rintro e w1 ⟨rfl, rfl⟩
      go_wp2_with fail
      refine HB.out.mono ?_
      rintro e w1 ⟨rfl, rfl⟩
      go_wp2_with fail
      go_ret
      exact ⟨ret_bool HF.out.symm, rfl⟩
  · rw [decide_eq_false ha] at HA
    have HF : Hid (V = false) := Lib.hid (by rw [HV.out]; exact decide_eq_false (by omega))
    clear ha t0 t1 t2 t3 t4 t5 t6 t7 t8 t9 t10 t11 t12 t13 t14 t15 HV HB
    go_enter Tryd.func11, Tryd.ntmps11
    go_wp2_with fail
    refine HA.out.mono ?_
    rintro e w1 ⟨rfl, rfl⟩
    go_wp2_with fail
    go_ret
    exact ⟨ret_bool HF.out.symm, rfl⟩
/-- A key as a value. -/
def vK (x : Ky) : Value := .agg #[.int .i64 x.1, .string (st x.2.1), .string (st x.2.2)]
theorem upK_own (x : Ky) (n : Nat) (h1 : 1 ≤ n) (h3 : n ≤ 3) : upK n x = if ownN x.1 < n then (if n = 2 then (6, x.2.1, []) else (7, x.2.1, [])) else x := by
  unfold upK ownN
  obtain rfl | rfl | rfl : n = 1 ∨ n = 2 ∨ n = 3 := by omega
  · by_cases a : x.1 = 1 ∨ x.1 = 2 <;> by_cases b : x.1 = 6 <;> simp [a, b]
  · by_cases a : x.1 = 1 ∨ x.1 = 2 <;> by_cases b : x.1 = 6 <;> simp [a, b]
  · by_cases a : x.1 = 1 <;> by_cases b : x.1 = 2 <;> by_cases c : x.1 = 6 <;> simp [a, b, c]
set_option maxRecDepth 100000 in
set_option maxHeartbeats 1000000 in
theorem raised_any (x : Ky) (n : Nat) (h1 : 1 ≤ n) (h3 : n ≤ 3) {w : World} (hc : CO w) : Calls Tryd.prog 25 #[vK x, .int .i64 (n : Nat)] w fun e w' => e = .returned (vK (upK n x)) ∧ Kp w w' := by
  rw [upK_own x n h1 h3]
  obtain ⟨k, a, b⟩ := x
  simp only [vK]
  obtain ⟨W0, hW0⟩ : ∃ W, W = (w.alloc (.cells #[.int .i64 k, .string (st a), .string (st b)] 29)).alloc (.cells #[.int .i64 0, .string ⟨#[]⟩, .string ⟨#[]⟩] 29) := ⟨_, rfl⟩
  have HW0 := Lib.hid hW0
  have HK0 : Hid (Kp w W0) := Lib.hid (by rw [hW0]; exact Kp.alloc (kp_alloc _ _) _)
  have HO := Lib.hid (own_any k W0)
  have HF := Lib.hid (Finer_any (ownN k : Nat) (n : Nat) (hc.keep HK0.out))
  have hdec : decide ((1 : Int) ≤ (ownN k : Nat) ∧ ((n : Nat) : Int) ≤ 3 ∧ ((ownN k : Nat) : Int) < (n : Nat)) = decide (ownN k < n) := by
    have := ownN_le k
    rw [decide_eq_decide]; omega
  rw [hdec] at HF
  obtain ⟨o, ho⟩ : ∃ o, o = ownN k := ⟨_, rfl⟩
  rw [← ho] at HO HF ⊢
  clear hdec ho hc
  have b1 : Blk W0 w.heap.size 29 #[.int .i64 k, .string (st a), .string (st b)] := by rw [hW0]; exact (Blk.new _ _ _).keep (kp_alloc _ _)
  have b2 : Blk W0 (w.heap.size + 1) 29 #[.int .i64 0, .string ⟨#[]⟩, .string ⟨#[]⟩] := by
    have := Blk.new (w.alloc (.cells #[.int .i64 k, .string (st a), .string (st b)] 29)) 29 #[.int .i64 0, .string ⟨#[]⟩, .string ⟨#[]⟩]
    rw [hW0]
    simpa using this
  have c0 := b1.cell 0 rfl; have c1 := b1.cell 1 rfl; have c2 := b1.cell 2 rfl
  have d0 := b2.cell 0 rfl; have d1 := b2.cell 1 rfl; have d2 := b2.cell 2 rfl
  have f0 := b2.free 0; have f1 := b2.free 1; have f2 := b2.free 2
  -- what is stored in the result's memory
  have FIN : Hid (∀ (y1 : Int) (T1 T2 : ByteArray) (a : Act), a.defers = [] → a.tmps.getD 4 undef = .pointer (some ⟨w.heap.size + 1, 0, none⟩) → ∀ R : Ending → World → Prop, (∀ W', Kp w W' → R (.returned (.agg #[.int .i64 y1, .string T1, .string T2])) W') →
      bodyPost Tryd.prog Tryd.f25 R .ret a (((W0.setCell ⟨w.heap.size + 1, 0, none⟩ (.int .i64 y1)).setCell ⟨w.heap.size + 1, 1, none⟩ (.string T1)).setCell ⟨w.heap.size + 1, 2, none⟩ (.string T2))) := Lib.hid (by
    intro y1 T1 T2 a h0 h4 R hR
    have b3 := ((b2.set 0 (.int .i64 y1)).set 1 (.string T1)).set 2 (.string T2)
    have e0 := b3.cell 0 rfl; have e1 := b3.cell 1 rfl; have e2 := b3.cell 2 rfl
    have h4' : a.tmps[4]?.getD undef = .pointer (some ⟨w.heap.size + 1, 0, none⟩) := by simpa using h4
    refine bodyPost_ret (v := .agg #[.int .i64 y1, .string T1, .string T2]) (by simp [results, Tryd.results25, go_sem, h4', e0, e1, e2]) h0 ?_
    exact hR _ (Only.kp HK0.out ((((Only.refl (w.heap.size + 1) W0).set 0 _).set 1 _).set 2 _) (by omega)))
  clear b1 b2 hW0
  by_cases hon : o < n
  · rw [decide_eq_true hon] at HF
    by_cases hn2 : n = 2
    · subst hn2
      rw [if_pos hon, if_pos rfl]
      simp only
      rw [show st ([] : List Nat) = ⟨#[]⟩ from rfl]
      clear hon
      go_enter Tryd.func25, Tryd.ntmps25
      go_wp2_with fail
      rw [← HW0.out]
      refine HO.out.mono ?_
      rintro e w1 ⟨rfl, rfl⟩
      go_wp2_with fail
      refine HF.out.mono ?_
      rintro e w1 ⟨rfl, rfl⟩
      go_wp2_with fail
      exact FIN.out _ _ _ _ rfl rfl _ (fun W' hk => ⟨rfl, hk⟩)
    · have hq : ((n : Int) == 2) = false := beq_eq_false_iff_ne.2 (by omega)
      rw [if_pos hon, if_neg hn2]
      simp only
      rw [show st ([] : List Nat) = ⟨#[]⟩ from rfl]
      clear hon hn2
      go_enter Tryd.func25, Tryd.ntmps25
      go_wp2_with fail
      rw [← HW0.out]
      refine HO.out.mono ?_
      rintro e w1 ⟨rfl, rfl⟩
      go_wp2_with fail
      refine HF.out.mono ?_
      rintro e w1 ⟨rfl, rfl⟩
      go_wp2_with fail
      exact FIN.out _ _ _ _ rfl rfl _ (fun W' hk => ⟨rfl, hk⟩)
  · rw [decide_eq_false hon] at HF
    rw [if_neg hon]
    simp only
    clear hon
    go_enter Tryd.func25, Tryd.ntmps25
    go_wp2_with fail
    rw [← HW0.out]
    refine HO.out.mono ?_
    rintro e w1 ⟨rfl, rfl⟩
    go_wp2_with fail
    refine HF.out.mono ?_
    rintro e w1 ⟨rfl, rfl⟩
    go_wp2_with fail
    exact FIN.out _ _ _ _ rfl rfl _ (fun W' hk => ⟨rfl, hk⟩)
end By
end Go.Proofs.YtpgnckjgclbepaaDoor
