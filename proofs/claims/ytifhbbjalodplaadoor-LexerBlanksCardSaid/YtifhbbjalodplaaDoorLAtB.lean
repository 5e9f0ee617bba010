/- The program's textAt and signAt. Conditions: the place lies in the string, which has at most 16384 bytes. -/
import Derived.Test.YtifhbbjalodplaaDoorLAt
namespace Go.Proofs.YtifhbbjalodplaaDoor
namespace By
open Go.RowKit WireN LexN
set_option linter.unusedVariables false
set_option linter.unusedSimpArgs false

set_option maxRecDepth 100000 in
set_option maxHeartbeats 2000000 in
theorem textAt_any {l : List Nat} (hl : Lt l) (hlen : l.length ≤ 16384) {i : Nat} (hi : i < l.length) (hQ : at' l i = 34) (w : World) :
    Calls Tryd.prog 35 #[.string (st l), .int .i64 (i : Nat)] w (TokA (tok l i) w) := by
  have hge := spn_ge txt l (i + 1)
  have hle := spn_le txt (l := l) (i := i + 1) (by omega)
  obtain ⟨n, hn⟩ : ∃ n, n = spn txt l (i + 1) := ⟨_, rfl⟩
  obtain ⟨R, hR⟩ : ∃ R, R = TokA (tok l i) w := ⟨_, rfl⟩
  obtain ⟨L, hL⟩ : ∃ L, L = l.length := ⟨_, rfl⟩
  have qs : ∀ w, (Builtin.len_ #[9] 3 #[.string (st l)]).run Tryd.prog w = .ok (goInt L) w := fun w => by rw [hL]; exact len w
  rw [← hn] at hge hle
  have e1 : ((i + 1 : Nat) : Int) = (i : Int) + 1 := by omega
  have HB := Lib.hid (Blk.new w 42 #[.int .i64 0, .string ⟨#[]⟩, .int .i64 0, .int .i64 0])
  have HK := Lib.hid (kp_alloc w (.cells #[.int .i64 0, .string ⟨#[]⟩, .int .i64 0, .int .i64 0] 42))
  have hsp : ∀ w, Calls Tryd.prog 31 #[.string (st l), .int .i64 ((i : Int) + 1), .func (.func 42) #[] #[]] w fun e w' => e = .returned (.int .i64 (n : Nat)) ∧ w = w' := fun w => by
    rw [hn, ← e1]; exact span_any hl (by omega) fitsText (by omega) w
  have HSP := Lib.hid hsp
  have ht0 : tok l i = if n = L ∨ at' l n ≠ 34 then (Tok.zero, 0, 9) else ((3, sub l (i + 1) n, 0, i), n + 1, 0) := by
    unfold tok
    rw [if_neg (by rw [hQ]; decide), if_neg (by rw [hQ]; decide), if_pos hQ, ← hn, ← hL]
  clear hsp e1
  have hi' : (i : Int) < 16384 := by omega
  have hlL : (L : Int) ≤ 16384 := by omega
  by_cases hbad : n = L ∨ at' l n ≠ 34
  · have FIN : Hid (∀ w', Kp w w' → R (.returned (.tuple #[.agg #[.int .i64 0, .string ⟨#[]⟩, .int .i64 0, .int .i64 0], .int .i64 0, .int .i64 9])) w') := Lib.hid (fun w' hk => by
      rw [hR]
      refine ⟨?_, hk⟩
      rw [ht0, if_pos hbad]; rfl)
    rw [← hR]
    by_cases hnL : n = L
    · have hb1 : ((n : Int) == (L : Int)) = true := beq_iff_eq.2 (by omega)
      obtain ⟨S, hS⟩ : ∃ S, S = st l := ⟨_, rfl⟩
      rw [← hS] at HSP qs ⊢
      clear hR hn hS hl hbad hnL hL ht0 hQ
      go_enter Tryd.func35, Tryd.ntmps35
      go_wp2_with fail
      refine (HSP.out _).mono ?_
      rintro e w' ⟨rfl, rfl⟩
      go_wp2_with fail
      exact bodyPost_ret (by simp [results, Tryd.results35, go_sem]) rfl (FIN.out _ HK.out)
    · have hb1 : ((n : Int) == (L : Int)) = false := beq_eq_false_iff_ne.2 (by omega)
      have hx : ∀ w, (Instr.index 9 (.string (st l)) (.int .i64 (n : Int))).run Tryd.prog w = .ok (.int .u8 (at' l n : Nat)) w := fun w => idx hl (by omega) w
      have hc34 : at' l n ≠ 34 := by rcases hbad with h | h; exact absurd h hnL; exact h
      obtain ⟨c, hc⟩ : ∃ c, c = at' l n := ⟨_, rfl⟩
      rw [← hc] at hx hc34
      have hb2 : ((c : Int) != 34) = true := by rw [bne_iff_ne]; omega
      have hb3 : ((c : Int) == 34) = false := beq_eq_false_iff_ne.2 (by omega)
      obtain ⟨S, hS⟩ : ∃ S, S = st l := ⟨_, rfl⟩
      rw [← hS] at HSP qs hx ⊢
      have hnn : (n : Int) < (L : Int) := by omega
      clear hR hn hS hl hbad hnL hL ht0 hQ hc hc34
      go_enter Tryd.func35, Tryd.ntmps35
      go_wp2_with fail
      refine (HSP.out _).mono ?_
      rintro e w' ⟨rfl, rfl⟩
      go_wp2_with fail
      exact bodyPost_ret (by simp [results, Tryd.results35, go_sem]) rfl (FIN.out _ HK.out)
  · have hnL : n ≠ L := fun h => hbad (.inl h)
    have hc34 : at' l n = 34 := Classical.byContradiction fun h => hbad (.inr h)
    have FIN : Hid (∀ w', Kp w w' → R (.returned (.tuple #[.agg #[.int .i64 3, .string (st (sub l (i + 1) n)), .int .i64 0, .int .i64 (i : Nat)], .int .i64 ((n : Int) + 1), .int .i64 0])) w') := Lib.hid (fun w' hk => by
      rw [hR]
      refine ⟨?_, hk⟩
      rw [ht0, if_neg hbad]; rfl)
    have hb1 : ((n : Int) == (L : Int)) = false := beq_eq_false_iff_ne.2 (by omega)
    have hx : ∀ w, (Instr.index 9 (.string (st l)) (.int .i64 (n : Int))).run Tryd.prog w = .ok (.int .u8 34) w := fun w => by
      have := idx hl (i := n) (by omega) w
      rw [hc34] at this
      exact this
    have hcut : ∀ w, (Instr.slice 9 (.string (st l)) (some (.int .i64 ((i : Int) + 1))) (some (.int .i64 (n : Int))) none).run Tryd.prog w = .ok (.string (st (sub l (i + 1) n))) w := fun w => cut (i := i + 1) (by omega) hle w
    have HTL : Hid ((sub l (i + 1) n).length ≤ 100000) := Lib.hid (by rw [sub_len hle]; omega)
    obtain ⟨t, ht⟩ : ∃ t, t = sub l (i + 1) n := ⟨_, rfl⟩
    obtain ⟨S, hS⟩ : ∃ S, S = st l := ⟨_, rfl⟩
    obtain ⟨S2, hS2⟩ : ∃ S2, S2 = st t := ⟨_, rfl⟩
    have HT : Hid (∀ (k : Nat) (w : World), Calls Tryd.prog 41 #[.int .i64 (k : Nat), .string S2, .int .i64 (i : Nat)] w fun e w' => e = .returned (.agg #[.int .i64 (k : Nat), .string S2, .int .i64 0, .int .i64 (i : Nat)]) ∧ Kp w w') := Lib.hid (fun k w => by rw [hS2, ht]; exact token_any k _ (by rw [← ht] at HTL ⊢; exact HTL.out) i w)
    rw [← ht, ← hS2] at FIN hcut
    rw [← hS] at HSP hcut qs hx
    rw [← hR, ← hS]
    have hnn : (n : Int) < (L : Int) := by omega
    clear hR hn hS hl ht hS2 HTL hbad hnL hL ht0 hQ hc34
    go_enter Tryd.func35, Tryd.ntmps35
    go_wp2_with fail
    refine (HSP.out _).mono ?_
    rintro e w' ⟨rfl, rfl⟩
    go_wp2_with fail
    refine (HT.out 3 _).mono ?_
    rintro e w1 ⟨rfl, hk1⟩
    have hB := HB.out.keep hk1
    have HKW : Hid (Kp w w1) := Kp.trans HK.out hk1
    have c0 := hB.cell 0 rfl; have c1 := hB.cell 1 rfl; have c2 := hB.cell 2 rfl; have c3 := hB.cell 3 rfl
    have f0 := hB.free 0; have f1 := hB.free 1; have f2 := hB.free 2; have f3 := hB.free 3
    clear hB hk1
    go_wp2_with fail
    exact bodyPost_ret (by simp [results, Tryd.results35, go_sem, c0, c1, c2, c3]) rfl (FIN.out _ (kp_four HKW.out _ _ _ _))

theorem ofNat_eq {a b : Nat} (ha : a < 256) (hb : b < 256) : (UInt8.ofNat a == UInt8.ofNat b) = decide (a = b) := by
  by_cases h : a = b
  · subst h; simp
  · have : UInt8.ofNat a ≠ UInt8.ofNat b := by
      intro e
      apply h
      have := congrArg UInt8.toNat e
      simp at this
      omega
    simp [this, h]
theorem prefix_two {l : List Nat} (hl : Lt l) {i : Nat} (hi : i < l.length) : Lib.hasPrefix (st (l.drop i)).data.toList (st [61, 61]).data.toList = decide (at' l i = 61 ∧ i + 1 < l.length ∧ at' l (i + 1) = 61) := by
  unfold Lib.hasPrefix
  rw [drop_at hi]
  by_cases h1 : i + 1 < l.length
  · rw [drop_at h1]
    have e1 := ofNat_eq (a := 61) (b := at' l i) (by omega) (hl i)
    have e2 := ofNat_eq (a := 61) (b := at' l (i + 1)) (by omega) (hl (i + 1))
    show ((UInt8.ofNat 61 == UInt8.ofNat (at' l i)) && ((UInt8.ofNat 61 == UInt8.ofNat (at' l (i + 1))) && true)) = _
    rw [e1, e2]
    by_cases a : at' l i = 61 <;> by_cases b : at' l (i + 1) = 61 <;> simp [a, b, h1] <;> omega
  · rw [List.drop_eq_nil_of_le (by omega)]
    show ((UInt8.ofNat 61 == UInt8.ofNat (at' l i)) && false) = _
    simp [h1]
/-- What a sign is. -/
theorem tok_sign {l : List Nat} {i : Nat} (h : sgn (at' l i) = true) : tok l i = if at' l i = 61 ∧ i + 1 < l.length ∧ at' l (i + 1) = 61 then ((4, [61, 61], 0, i), i + 2, 0) else ((4, [at' l i], 0, i), i + 1, 0) := by
  have hm : at' l i ∈ signs := by simpa [sgn] using h
  obtain ⟨c, hc⟩ : ∃ c, c = at' l i := ⟨_, rfl⟩
  have key : letter c = false ∧ digit c = false ∧ c ≠ 34 := by
    rw [← hc] at hm
    simp only [signs, List.mem_cons, List.not_mem_nil, or_false] at hm
    rcases hm with rfl | rfl | rfl | rfl | rfl | rfl | rfl | rfl | rfl | rfl | rfl <;> decide
  unfold tok
  rw [← hc] at h ⊢
  rw [if_neg (by simp [key.1]), if_neg (by simp [key.2.1]), if_neg key.2.2]
  by_cases h2 : c = 61 ∧ i + 1 < l.length ∧ at' l (i + 1) = 61
  · rw [if_pos h2, if_pos h2]
  · rw [if_neg h2, if_neg h2, if_pos h]

set_option maxRecDepth 100000 in
set_option maxHeartbeats 2000000 in
theorem signAt_any {l : List Nat} (hl : Lt l) (hlen : l.length ≤ 16384) {i : Nat} (hi : i < l.length) (hQ : sgn (at' l i) = true) (w : World) :
    Calls Tryd.prog 36 #[.string (st l), .int .i64 (i : Nat)] w (TokA (tok l i) w) := by
  obtain ⟨R, hR⟩ : ∃ R, R = TokA (tok l i) w := ⟨_, rfl⟩
  have HB := Lib.hid (Blk.new w 42 #[.int .i64 0, .string ⟨#[]⟩, .int .i64 0, .int .i64 0])
  have HK := Lib.hid (kp_alloc w (.cells #[.int .i64 0, .string ⟨#[]⟩, .int .i64 0, .int .i64 0] 42))
  have ht0 := tok_sign hQ
  have hpr : Lib.hasPrefix (st (l.drop i)).data.toList (st [61, 61]).data.toList = decide (at' l i = 61 ∧ i + 1 < l.length ∧ at' l (i + 1) = 61) := prefix_two hl hi
  have hcf : ∀ w, (Instr.slice 9 (.string (st l)) (some (.int .i64 (i : Int))) none none).run Tryd.prog w = .ok (.string (st (l.drop i))) w := fun w => cut_from (by omega) w
  obtain ⟨D, hD⟩ : ∃ D, D = st (l.drop i) := ⟨_, rfl⟩
  rw [← hD] at hpr hcf
  have hi' : (i : Int) < 16384 := by omega
  by_cases h2 : at' l i = 61 ∧ i + 1 < l.length ∧ at' l (i + 1) = 61
  · have FIN : Hid (∀ w', Kp w w' → R (.returned (.tuple #[.agg #[.int .i64 4, .string (st (sub l i (i + 2))), .int .i64 0, .int .i64 (i : Nat)], .int .i64 ((i : Int) + 2), .int .i64 0])) w') := Lib.hid (fun w' hk => by
      rw [hR]
      refine ⟨?_, hk⟩
      rw [ht0, if_pos h2]
      have : sub l i (i + 2) = [61, 61] := by rw [sub_snoc (by omega) h2.2.1, sub_one hi, h2.1, h2.2.2]; rfl
      rw [this]; rfl)
    have HP : Hid (∀ w, Calls Tryd.prog 43 #[.string D, .string ⟨#[61, 61]⟩] w fun e w' => e = .returned (.bool true) ∧ w = w') := Lib.hid (fun w => (Tryd.strings_HasPrefix D ⟨#[61, 61]⟩ w).mono (by
      rintro e w' ⟨rfl, rfl⟩
      refine ⟨?_, rfl⟩
      have h3 : Lib.hasPrefix D.data.toList (⟨#[61, 61]⟩ : ByteArray).data.toList = Lib.hasPrefix D.data.toList (st [61, 61]).data.toList := rfl
      rw [h3, hpr, decide_eq_true h2]))
    have hcut : ∀ w, (Instr.slice 9 (.string (st l)) (some (.int .i64 (i : Int))) (some (.int .i64 ((i : Int) + 2))) none).run Tryd.prog w = .ok (.string (st (sub l i (i + 2)))) w := fun w => cut (j := i + 2) (by omega) (by omega) w
    obtain ⟨t, ht⟩ : ∃ t, t = sub l i (i + 2) := ⟨_, rfl⟩
    have HTL : Hid (t.length ≤ 100000) := Lib.hid (by rw [ht, sub_len (by omega)]; omega)
    obtain ⟨S, hS⟩ : ∃ S, S = st l := ⟨_, rfl⟩
    obtain ⟨S2, hS2⟩ : ∃ S2, S2 = st t := ⟨_, rfl⟩
    have HT : Hid (∀ (k : Nat) (w : World), Calls Tryd.prog 41 #[.int .i64 (k : Nat), .string S2, .int .i64 (i : Nat)] w fun e w' => e = .returned (.agg #[.int .i64 (k : Nat), .string S2, .int .i64 0, .int .i64 (i : Nat)]) ∧ Kp w w') := Lib.hid (fun k w => by rw [hS2]; exact token_any k _ HTL.out i w)
    rw [← ht, ← hS2] at FIN hcut
    rw [← hS] at hcut hcf
    rw [← hR, ← hS]
    clear hR hS hl ht hS2 HTL ht0 hQ h2 hpr hD
    go_enter Tryd.func36, Tryd.ntmps36
    go_wp2_with fail
    refine (HP.out _).mono ?_
    rintro e w' ⟨rfl, rfl⟩
    go_wp2_with fail
    refine (HT.out 4 _).mono ?_
    rintro e w1 ⟨rfl, hk1⟩
    have hB := HB.out.keep hk1
    have HKW : Hid (Kp w w1) := Kp.trans HK.out hk1
    have c0 := hB.cell 0 rfl; have c1 := hB.cell 1 rfl; have c2 := hB.cell 2 rfl; have c3 := hB.cell 3 rfl
    have f0 := hB.free 0; have f1 := hB.free 1; have f2 := hB.free 2; have f3 := hB.free 3
    clear hB hk1
    go_wp2_with fail
    exact bodyPost_ret (by simp [results, Tryd.results36, go_sem, c0, c1, c2, c3]) rfl (FIN.out _ (kp_four HKW.out _ _ _ _))
  · have FIN : Hid (∀ w', Kp w w' → R (.returned (.tuple #[.agg #[.int .i64 4, .string (st (sub l i (i + 1))), .int .i64 0, .int .i64 (i : Nat)], .int .i64 ((i : Int) + 1), .int .i64 0])) w') := Lib.hid (fun w' hk => by
      rw [hR]
      refine ⟨?_, hk⟩
      rw [ht0, if_neg h2, sub_one hi]; rfl)
    have HP : Hid (∀ w, Calls Tryd.prog 43 #[.string D, .string ⟨#[61, 61]⟩] w fun e w' => e = .returned (.bool false) ∧ w = w') := Lib.hid (fun w => (Tryd.strings_HasPrefix D ⟨#[61, 61]⟩ w).mono (by
      rintro e w' ⟨rfl, rfl⟩
      refine ⟨?_, rfl⟩
      have h3 : Lib.hasPrefix D.data.toList (⟨#[61, 61]⟩ : ByteArray).data.toList = Lib.hasPrefix D.data.toList (st [61, 61]).data.toList := rfl
      rw [h3, hpr, decide_eq_false h2]))
    have hcut : ∀ w, (Instr.slice 9 (.string (st l)) (some (.int .i64 (i : Int))) (some (.int .i64 ((i : Int) + 1))) none).run Tryd.prog w = .ok (.string (st (sub l i (i + 1)))) w := fun w => cut (j := i + 1) (by omega) (by omega) w
    obtain ⟨t, ht⟩ : ∃ t, t = sub l i (i + 1) := ⟨_, rfl⟩
    have HTL : Hid (t.length ≤ 100000) := Lib.hid (by rw [ht, sub_len (by omega)]; omega)
    obtain ⟨S, hS⟩ : ∃ S, S = st l := ⟨_, rfl⟩
    obtain ⟨S2, hS2⟩ : ∃ S2, S2 = st t := ⟨_, rfl⟩
    have HT : Hid (∀ (k : Nat) (w : World), Calls Tryd.prog 41 #[.int .i64 (k : Nat), .string S2, .int .i64 (i : Nat)] w fun e w' => e = .returned (.agg #[.int .i64 (k : Nat), .string S2, .int .i64 0, .int .i64 (i : Nat)]) ∧ Kp w w') := Lib.hid (fun k w => by rw [hS2]; exact token_any k _ HTL.out i w)
    rw [← ht, ← hS2] at FIN hcut
    rw [← hS] at hcut hcf
    rw [← hR, ← hS]
    clear hR hS hl ht hS2 HTL ht0 hQ h2 hpr hD
    go_enter Tryd.func36, Tryd.ntmps36
    go_wp2_with fail
    refine (HP.out _).mono ?_
    rintro e w' ⟨rfl, rfl⟩
    go_wp2_with fail
    refine (HT.out 4 _).mono ?_
    rintro e w1 ⟨rfl, hk1⟩
    have hB := HB.out.keep hk1
    have HKW : Hid (Kp w w1) := Kp.trans HK.out hk1
    have c0 := hB.cell 0 rfl; have c1 := hB.cell 1 rfl; have c2 := hB.cell 2 rfl; have c3 := hB.cell 3 rfl
    have f0 := hB.free 0; have f1 := hB.free 1; have f2 := hB.free 2; have f3 := hB.free 3
    clear hB hk1
    go_wp2_with fail
    exact bodyPost_ret (by simp [results, Tryd.results36, go_sem, c0, c1, c2, c3]) rfl (FIN.out _ (kp_four HKW.out _ _ _ _))
end By
end Go.Proofs.YtifhbbjalodplaaDoor
