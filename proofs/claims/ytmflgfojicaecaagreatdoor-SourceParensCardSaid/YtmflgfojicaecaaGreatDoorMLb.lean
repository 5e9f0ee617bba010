/- The program's token, nameAt, textAt and signAt. Conditions: the place lies in the string, which has at most 16384 bytes. -/
import Derived.Test.YtmflgfojicaecaaGreatDoorMLa
import Derived.Test.YtmflgfojicaecaaGreatDoorShelf
namespace Go.Proofs.YtmflgfojicaecaaGreatDoor
namespace By
open Go.RowKit WireN LexN
set_option linter.unusedVariables false
set_option linter.unusedSimpArgs false

/-- A token's value, and what reading a token answers. -/
def tokV (t : Tok) : Value := .agg #[.int .i64 (t.1 : Nat), .string (st t.2.1), .int .i64 (t.2.2.1 : Nat), .int .i64 (t.2.2.2 : Nat)]
def tokR (r : Tok × Nat × Nat) : Ending := .returned (.tuple #[tokV r.1, .int .i64 (r.2.1 : Nat), .int .i64 (r.2.2 : Nat)])
structure TokA (r : Tok × Nat × Nat) (w : World) (e : Ending) (w' : World) : Prop where
  e : e = tokR r
  kp : Kp w w'
/-- The struct's cells are stored. -/
theorem kp_four {w w3 : World} (h : Kp w w3) (a b c d : Value) : Kp w ((((w3.setCell ⟨w.heap.size, 0, none⟩ a).setCell ⟨w.heap.size, 1, none⟩ b).setCell ⟨w.heap.size, 2, none⟩ c).setCell ⟨w.heap.size, 3, none⟩ d) :=
  Only.kp h (((((Only.refl _ w3).set 0 a).set 1 b).set 2 c).set 3 d) (Nat.le_refl _)
def zeroT : Array Value := #[.int .i64 0, .string ⟨#[]⟩, .int .i64 0, .int .i64 0]

set_option maxRecDepth 100000 in
theorem clone_any (S : ByteArray) (hz : S.size ≤ 281474976710656) (w : World) : Calls Tryz.prog 151 #[.string S] w fun e w' => e = .returned (.string S) ∧ Kp w w' := by
  go_enter Tryz.func151, Tryz.ntmps151
  go_wp2_with fail
  refine (Tryz.stringslite_Clone S _ hz).mono ?_
  rintro e w' ⟨rfl, hk⟩
  go_wp2_with fail
  go_ret
  exact ⟨rfl, hk⟩
set_option maxRecDepth 100000 in
set_option maxHeartbeats 1000000 in
theorem token_any (k : Nat) (t : List Nat) (ht : t.length ≤ 100000) (i : Nat) (w : World) :
    Calls Tryz.prog 119 #[.int .i64 (k : Nat), .string (st t), .int .i64 (i : Nat)] w fun e w' => e = .returned (.agg #[.int .i64 (k : Nat), .string (st t), .int .i64 0, .int .i64 (i : Nat)]) ∧ Kp w w' := by
  obtain ⟨S, hS⟩ : ∃ S, S = st t := ⟨_, rfl⟩
  have hz : S.size ≤ 281474976710656 := by rw [hS, st_size]; omega
  rw [← hS]
  clear hS ht
  have HB := Lib.hid (Blk.new w 111 #[.int .i64 0, .string ⟨#[]⟩, .int .i64 0, .int .i64 0])
  have HK := Lib.hid (kp_alloc w (.cells #[.int .i64 0, .string ⟨#[]⟩, .int .i64 0, .int .i64 0] 111))
  go_enter Tryz.func119, Tryz.ntmps119
  go_wp2_with fail
  refine (clone_any S hz _).mono ?_
  rintro e w1 ⟨rfl, hk1⟩
  have hB := HB.out.keep hk1
  have HKW : Hid (Kp w w1) := Kp.trans HK.out hk1
  have c0 := hB.cell 0 rfl; have c1 := hB.cell 1 rfl; have c2 := hB.cell 2 rfl; have c3 := hB.cell 3 rfl
  have f0 := hB.free 0; have f1 := hB.free 1; have f2 := hB.free 2; have f3 := hB.free 3
  clear hB hk1
  go_wp2_with fail
  exact bodyPost_ret (by simp [results, Tryz.results119, go_sem, c0, c1, c2, c3]) rfl ⟨rfl, kp_four HKW.out _ _ _ _⟩

set_option maxRecDepth 100000 in
set_option maxHeartbeats 2000000 in
theorem nameAt_any {l : List Nat} (hl : Lt l) (hlen : l.length ≤ 16384) {i : Nat} (hi : i < l.length) (hL : letter (at' l i) = true) (w : World) :
    Calls Tryz.prog 84 #[.string (st l), .int .i64 (i : Nat)] w (TokA (tok l i) w) := by
  have hge := spn_ge inner l i
  have hle := spn_le inner (l := l) (i := i) (by omega)
  obtain ⟨n, hn⟩ : ∃ n, n = spn inner l i := ⟨_, rfl⟩
  obtain ⟨R, hR⟩ : ∃ R, R = TokA (tok l i) w := ⟨_, rfl⟩
  rw [← hn] at hge hle
  have HB := Lib.hid (Blk.new w 111 #[.int .i64 0, .string ⟨#[]⟩, .int .i64 0, .int .i64 0])
  have HK := Lib.hid (kp_alloc w (.cells #[.int .i64 0, .string ⟨#[]⟩, .int .i64 0, .int .i64 0] 111))
  have hsp : ∀ w, Calls Tryz.prog 82 #[.string (st l), .int .i64 (i : Nat), .func (.func 118) #[] #[]] w fun e w' => e = .returned (.int .i64 (n : Nat)) ∧ w = w' := fun w => by
    rw [hn]; exact span_any hl (by omega) fitsName (by omega) w
  have HSP := Lib.hid hsp
  clear hsp
  by_cases hbig : 24 < n - i
  · have FIN : Hid (∀ w', Kp w w' → R (.returned (.tuple #[.agg #[.int .i64 0, .string ⟨#[]⟩, .int .i64 0, .int .i64 0], .int .i64 0, .int .i64 2])) w') := Lib.hid (fun w' hk => by
      rw [hR]
      refine ⟨?_, hk⟩
      have e : tok l i = (Tok.zero, 0, 2) := by unfold tok; rw [if_pos hL, ← hn, if_pos hbig]
      rw [e]; rfl)
    rw [← hR]
    obtain ⟨S, hS⟩ : ∃ S, S = st l := ⟨_, rfl⟩
    rw [← hS] at HSP ⊢
    have hb : (24 : Int) < (n : Int) - (i : Int) := by omega
    have hlen' : (l.length : Int) ≤ 16384 := by omega
    clear hR hn hS hl
    go_enter Tryz.func84, Tryz.ntmps84
    go_wp2_with fail
    refine (HSP.out _).mono ?_
    rintro e w' ⟨rfl, rfl⟩
    go_wp2_with fail
    exact bodyPost_ret (by simp [results, Tryz.results84, go_sem]) rfl (FIN.out _ HK.out)
  · have FIN : Hid (∀ w', Kp w w' → R (.returned (.tuple #[.agg #[.int .i64 1, .string (st (sub l i n)), .int .i64 0, .int .i64 (i : Nat)], .int .i64 (n : Nat), .int .i64 0])) w') := Lib.hid (fun w' hk => by
      rw [hR]
      refine ⟨?_, hk⟩
      have e : tok l i = ((1, sub l i n, 0, i), n, 0) := by unfold tok; rw [if_pos hL, ← hn, if_neg hbig]
      rw [e]; rfl)
    have hcut : ∀ w, (Instr.slice 9 (.string (st l)) (some (.int .i64 (i : Int))) (some (.int .i64 (n : Int))) none).run Tryz.prog w = .ok (.string (st (sub l i n))) w := fun w => cut hge hle w
    have HTL : Hid ((sub l i n).length ≤ 100000) := Lib.hid (by rw [sub_len hle]; omega)
    obtain ⟨t, ht⟩ : ∃ t, t = sub l i n := ⟨_, rfl⟩
    obtain ⟨S, hS⟩ : ∃ S, S = st l := ⟨_, rfl⟩
    obtain ⟨S2, hS2⟩ : ∃ S2, S2 = st t := ⟨_, rfl⟩
    have HT : Hid (∀ (k : Nat) (w : World), Calls Tryz.prog 119 #[.int .i64 (k : Nat), .string S2, .int .i64 (i : Nat)] w fun e w' => e = .returned (.agg #[.int .i64 (k : Nat), .string S2, .int .i64 0, .int .i64 (i : Nat)]) ∧ Kp w w') := Lib.hid (fun k w => by rw [hS2, ht]; exact token_any k _ HTL.out i w)
    rw [← ht, ← hS2] at FIN hcut
    rw [← hS] at HSP hcut
    rw [← hR, ← hS]
    have hb : (n : Int) - (i : Int) ≤ 24 := by omega
    have hb0 : 0 ≤ (n : Int) - (i : Int) := by omega
    clear hR hn hS hl ht hS2 HTL
    go_enter Tryz.func84, Tryz.ntmps84
    go_wp2_with fail
    refine (HSP.out _).mono ?_
    rintro e w' ⟨rfl, rfl⟩
    go_wp2_with fail
    refine (HT.out 1 _).mono ?_
    rintro e w1 ⟨rfl, hk1⟩
    have hB := HB.out.keep hk1
    have HKW : Hid (Kp w w1) := Kp.trans HK.out hk1
    have c0 := hB.cell 0 rfl; have c1 := hB.cell 1 rfl; have c2 := hB.cell 2 rfl; have c3 := hB.cell 3 rfl
    have f0 := hB.free 0; have f1 := hB.free 1; have f2 := hB.free 2; have f3 := hB.free 3
    clear hB hk1
    go_wp2_with fail
    exact bodyPost_ret (by simp [results, Tryz.results84, go_sem, c0, c1, c2, c3]) rfl (FIN.out _ (kp_four HKW.out _ _ _ _))
end By
end Go.Proofs.YtmflgfojicaecaaGreatDoor

/- The program's textAt and signAt. Conditions: the place lies in the string, which has at most 16384 bytes. -/
namespace Go.Proofs.YtmflgfojicaecaaGreatDoor
namespace By
open Go.RowKit WireN LexN
set_option linter.unusedVariables false
set_option linter.unusedSimpArgs false

set_option maxRecDepth 100000 in
set_option maxHeartbeats 2000000 in
theorem textAt_any {l : List Nat} (hl : Lt l) (hlen : l.length ≤ 16384) {i : Nat} (hi : i < l.length) (hQ : at' l i = 34) (w : World) :
    Calls Tryz.prog 86 #[.string (st l), .int .i64 (i : Nat)] w (TokA (tok l i) w) := by
  have hge := spn_ge txt l (i + 1)
  have hle := spn_le txt (l := l) (i := i + 1) (by omega)
  obtain ⟨n, hn⟩ : ∃ n, n = spn txt l (i + 1) := ⟨_, rfl⟩
  obtain ⟨R, hR⟩ : ∃ R, R = TokA (tok l i) w := ⟨_, rfl⟩
  obtain ⟨L, hL⟩ : ∃ L, L = l.length := ⟨_, rfl⟩
  have qs : ∀ w, (Builtin.len_ #[9] 3 #[.string (st l)]).run Tryz.prog w = .ok (goInt L) w := fun w => by rw [hL]; exact len w
  rw [← hn] at hge hle
  have e1 : ((i + 1 : Nat) : Int) = (i : Int) + 1 := by omega
  have HB := Lib.hid (Blk.new w 111 #[.int .i64 0, .string ⟨#[]⟩, .int .i64 0, .int .i64 0])
  have HK := Lib.hid (kp_alloc w (.cells #[.int .i64 0, .string ⟨#[]⟩, .int .i64 0, .int .i64 0] 111))
  have hsp : ∀ w, Calls Tryz.prog 82 #[.string (st l), .int .i64 ((i : Int) + 1), .func (.func 121) #[] #[]] w fun e w' => e = .returned (.int .i64 (n : Nat)) ∧ w = w' := fun w => by
    rw [hn, ← e1]; exact span_any hl (by omega) fitsText (by omega) w
  have HSP := Lib.hid hsp
  have ht0 : tok l i = if n = L ∨ at' l n ≠ 34 then (Tok.zero, 0, 9) else ((3, sub l (i + 1) n, 0, i), n + 1, 0) := by
    unfold tok
    rw [if_neg (by rw [hQ]; decide), if_neg (by rw [hQ]; decide), if_pos hQ, ← hn, ← hL]
  clear hsp e1
  have hi' : (i : Int) < 16384 := by omega
  have hlL : (L : Int) ≤ 16384 := by omega
  by_cases hbad : n = L ∨ at' l n ≠ 34
  · have FIN : Hid (∀ w', Kp w w' → R (.returned (.tuple #[.agg #[.int .i64 0, .string ⟨#[]⟩, .int .i64 0, .int .i64 0], .int .i64 0, .int .i64 9])) w') := Lib.hid (fun w' hk => by
      rw [hR]
      refine ⟨?_, hk⟩
      rw [ht0, if_pos hbad]; rfl)
    rw [← hR]
    by_cases hnL : n = L
    · have hb1 : ((n : Int) == (L : Int)) = true := beq_iff_eq.2 (by omega)
      obtain ⟨S, hS⟩ : ∃ S, S = st l := ⟨_, rfl⟩
      rw [← hS] at HSP qs ⊢
      clear hR hn hS hl hbad hnL hL ht0 hQ
      go_enter Tryz.func86, Tryz.ntmps86
      go_wp2_with fail
      refine (HSP.out _).mono ?_
      rintro e w' ⟨rfl, rfl⟩
      go_wp2_with fail
      exact bodyPost_ret (by simp [results, Tryz.results86, go_sem]) rfl (FIN.out _ HK.out)
    · have hb1 : ((n : Int) == (L : Int)) = false := beq_eq_false_iff_ne.2 (by omega)
      have hx : ∀ w, (Instr.index 9 (.string (st l)) (.int .i64 (n : Int))).run Tryz.prog w = .ok (.int .u8 (at' l n : Nat)) w := fun w => idx hl (by omega) w
      have hc34 : at' l n ≠ 34 := by rcases hbad with h | h; exact absurd h hnL; exact h
      obtain ⟨c, hc⟩ : ∃ c, c = at' l n := ⟨_, rfl⟩
      rw [← hc] at hx hc34
      have hb2 : ((c : Int) != 34) = true := by rw [bne_iff_ne]; omega
      have hb3 : ((c : Int) == 34) = false := beq_eq_false_iff_ne.2 (by omega)
      obtain ⟨S, hS⟩ : ∃ S, S = st l := ⟨_, rfl⟩
      rw [← hS] at HSP qs hx ⊢
      have hnn : (n : Int) < (L : Int) := by omega
      clear hR hn hS hl hbad hnL hL ht0 hQ hc hc34
      go_enter Tryz.func86, Tryz.ntmps86
      go_wp2_with fail
      refine (HSP.out _).mono ?_
      rintro e w' ⟨rfl, rfl⟩
      go_wp2_with fail
      exact bodyPost_ret (by simp [results, Tryz.results86, go_sem]) rfl (FIN.out _ HK.out)
  · have hnL : n ≠ L := fun h => hbad (.inl h)
    have hc34 : at' l n = 34 := Classical.byContradiction fun h => hbad (.inr h)
    have FIN : Hid (∀ w', Kp w w' → R (.returned (.tuple #[.agg #[.int .i64 3, .string (st (sub l (i + 1) n)), .int .i64 0, .int .i64 (i : Nat)], .int .i64 ((n : Int) + 1), .int .i64 0])) w') := Lib.hid (fun w' hk => by
      rw [hR]
      refine ⟨?_, hk⟩
      rw [ht0, if_neg hbad]; rfl)
    have hb1 : ((n : Int) == (L : Int)) = false := beq_eq_false_iff_ne.2 (by omega)
    have hx : ∀ w, (Instr.index 9 (.string (st l)) (.int .i64 (n : Int))).run Tryz.prog w = .ok (.int .u8 34) w := fun w => by
      have := idx hl (i := n) (by omega) w
      rw [hc34] at this
      exact this
    have hcut : ∀ w, (Instr.slice 9 (.string (st l)) (some (.int .i64 ((i : Int) + 1))) (some (.int .i64 (n : Int))) none).run Tryz.prog w = .ok (.string (st (sub l (i + 1) n))) w := fun w => cut (i := i + 1) (by omega) hle w
    have HTL : Hid ((sub l (i + 1) n).length ≤ 100000) := Lib.hid (by rw [sub_len hle]; omega)
    obtain ⟨t, ht⟩ : ∃ t, t = sub l (i + 1) n := ⟨_, rfl⟩
    obtain ⟨S, hS⟩ : ∃ S, S = st l := ⟨_, rfl⟩
    obtain ⟨S2, hS2⟩ : ∃ S2, S2 = st t := ⟨_, rfl⟩
    have HT : Hid (∀ (k : Nat) (w : World), Calls Tryz.prog 119 #[.int .i64 (k : Nat), .string S2, .int .i64 (i : Nat)] w fun e w' => e = .returned (.agg #[.int .i64 (k : Nat), .string S2, .int .i64 0, .int .i64 (i : Nat)]) ∧ Kp w w') := Lib.hid (fun k w => by rw [hS2, ht]; exact token_any k _ (by rw [← ht] at HTL ⊢; exact HTL.out) i w)
    rw [← ht, ← hS2] at FIN hcut
    rw [← hS] at HSP hcut qs hx
    rw [← hR, ← hS]
    have hnn : (n : Int) < (L : Int) := by omega
    clear hR hn hS hl ht hS2 HTL hbad hnL hL ht0 hQ hc34
    go_enter Tryz.func86, Tryz.ntmps86
    go_wp2_with fail
    refine (HSP.out _).mono ?_
    rintro e w' ⟨rfl, rfl⟩
    go_wp2_with fail
    refine (HT.out 3 _).mono ?_
    rintro e w1 ⟨rfl, hk1⟩
    have hB := HB.out.keep hk1
    have HKW : Hid (Kp w w1) := Kp.trans HK.out hk1
    have c0 := hB.cell 0 rfl; have c1 := hB.cell 1 rfl; have c2 := hB.cell 2 rfl; have c3 := hB.cell 3 rfl
    have f0 := hB.free 0; have f1 := hB.free 1; have f2 := hB.free 2; have f3 := hB.free 3
    clear hB hk1
    go_wp2_with fail
    exact bodyPost_ret (by simp [results, Tryz.results86, go_sem, c0, c1, c2, c3]) rfl (FIN.out _ (kp_four HKW.out _ _ _ _))

theorem ofNat_eq {a b : Nat} (ha : a < 256) (hb : b < 256) : (UInt8.ofNat a == UInt8.ofNat b) = decide (a = b) := by
  by_cases h : a = b
  · subst h; simp
  · have : UInt8.ofNat a ≠ UInt8.ofNat b := by
      intro e
      apply h
      have := congrArg UInt8.toNat e
      simp at this
      omega
    simp [this, h]
theorem prefix_two {l : List Nat} (hl : Lt l) {i : Nat} (hi : i < l.length) : Lib.hasPrefix (st (l.drop i)).data.toList (st [61, 61]).data.toList = decide (at' l i = 61 ∧ i + 1 < l.length ∧ at' l (i + 1) = 61) := by
  unfold Lib.hasPrefix
  rw [drop_at hi]
  by_cases h1 : i + 1 < l.length
  · rw [drop_at h1]
    have e1 := ofNat_eq (a := 61) (b := at' l i) (by omega) (hl i)
    have e2 := ofNat_eq (a := 61) (b := at' l (i + 1)) (by omega) (hl (i + 1))
    show ((UInt8.ofNat 61 == UInt8.ofNat (at' l i)) && ((UInt8.ofNat 61 == UInt8.ofNat (at' l (i + 1))) && true)) = _
    rw [e1, e2]
    by_cases a : at' l i = 61 <;> by_cases b : at' l (i + 1) = 61 <;> simp [a, b, h1] <;> omega
  · rw [List.drop_eq_nil_of_le (by omega)]
    show ((UInt8.ofNat 61 == UInt8.ofNat (at' l i)) && false) = _
    simp [h1]
/-- What a sign is. -/
theorem tok_sign {l : List Nat} {i : Nat} (h : sgn (at' l i) = true) : tok l i = if at' l i = 61 ∧ i + 1 < l.length ∧ at' l (i + 1) = 61 then ((4, [61, 61], 0, i), i + 2, 0) else ((4, [at' l i], 0, i), i + 1, 0) := by
  have hm : at' l i ∈ signs := by simpa [sgn] using h
  obtain ⟨c, hc⟩ : ∃ c, c = at' l i := ⟨_, rfl⟩
  have key : letter c = false ∧ digit c = false ∧ c ≠ 34 := by
    rw [← hc] at hm
    simp only [signs, List.mem_cons, List.not_mem_nil, or_false] at hm
    rcases hm with rfl | rfl | rfl | rfl | rfl | rfl | rfl | rfl | rfl | rfl | rfl <;> decide
  unfold tok
  rw [← hc] at h ⊢
  rw [if_neg (by simp [key.1]), if_neg (by simp [key.2.1]), if_neg key.2.2]
  by_cases h2 : c = 61 ∧ i + 1 < l.length ∧ at' l (i + 1) = 61
  · rw [if_pos h2, if_pos h2]
  · rw [if_neg h2, if_neg h2, if_pos h]

set_option maxRecDepth 100000 in
set_option maxHeartbeats 2000000 in
theorem signAt_any {l : List Nat} (hl : Lt l) (hlen : l.length ≤ 16384) {i : Nat} (hi : i < l.length) (hQ : sgn (at' l i) = true) (w : World) :
    Calls Tryz.prog 87 #[.string (st l), .int .i64 (i : Nat)] w (TokA (tok l i) w) := by
  obtain ⟨R, hR⟩ : ∃ R, R = TokA (tok l i) w := ⟨_, rfl⟩
  have HB := Lib.hid (Blk.new w 111 #[.int .i64 0, .string ⟨#[]⟩, .int .i64 0, .int .i64 0])
  have HK := Lib.hid (kp_alloc w (.cells #[.int .i64 0, .string ⟨#[]⟩, .int .i64 0, .int .i64 0] 111))
  have ht0 := tok_sign hQ
  have hpr : Lib.hasPrefix (st (l.drop i)).data.toList (st [61, 61]).data.toList = decide (at' l i = 61 ∧ i + 1 < l.length ∧ at' l (i + 1) = 61) := prefix_two hl hi
  have hcf : ∀ w, (Instr.slice 9 (.string (st l)) (some (.int .i64 (i : Int))) none none).run Tryz.prog w = .ok (.string (st (l.drop i))) w := fun w => cut_from (by omega) w
  obtain ⟨D, hD⟩ : ∃ D, D = st (l.drop i) := ⟨_, rfl⟩
  rw [← hD] at hpr hcf
  have hi' : (i : Int) < 16384 := by omega
  by_cases h2 : at' l i = 61 ∧ i + 1 < l.length ∧ at' l (i + 1) = 61
  · have FIN : Hid (∀ w', Kp w w' → R (.returned (.tuple #[.agg #[.int .i64 4, .string (st (sub l i (i + 2))), .int .i64 0, .int .i64 (i : Nat)], .int .i64 ((i : Int) + 2), .int .i64 0])) w') := Lib.hid (fun w' hk => by
      rw [hR]
      refine ⟨?_, hk⟩
      rw [ht0, if_pos h2]
      have : sub l i (i + 2) = [61, 61] := by rw [sub_snoc (by omega) h2.2.1, sub_one hi, h2.1, h2.2.2]; rfl
      rw [this]; rfl)
    have HP : Hid (∀ w, Calls Tryz.prog 122 #[.string D, .string ⟨#[61, 61]⟩] w fun e w' => e = .returned (.bool true) ∧ w = w') := Lib.hid (fun w => (Tryz.strings_HasPrefix D ⟨#[61, 61]⟩ w).mono (by
      rintro e w' ⟨rfl, rfl⟩
      refine ⟨?_, rfl⟩
      have h3 : Lib.hasPrefix D.data.toList (⟨#[61, 61]⟩ : ByteArray).data.toList = Lib.hasPrefix D.data.toList (st [61, 61]).data.toList := rfl
      rw [h3, hpr, decide_eq_true h2]))
    have hcut : ∀ w, (Instr.slice 9 (.string (st l)) (some (.int .i64 (i : Int))) (some (.int .i64 ((i : Int) + 2))) none).run Tryz.prog w = .ok (.string (st (sub l i (i + 2)))) w := fun w => cut (j := i + 2) (by omega) (by omega) w
    obtain ⟨t, ht⟩ : ∃ t, t = sub l i (i + 2) := ⟨_, rfl⟩
    have HTL : Hid (t.length ≤ 100000) := Lib.hid (by rw [ht, sub_len (by omega)]; omega)
    obtain ⟨S, hS⟩ : ∃ S, S = st l := ⟨_, rfl⟩
    obtain ⟨S2, hS2⟩ : ∃ S2, S2 = st t := ⟨_, rfl⟩
    have HT : Hid (∀ (k : Nat) (w : World), Calls Tryz.prog 119 #[.int .i64 (k : Nat), .string S2, .int .i64 (i : Nat)] w fun e w' => e = .returned (.agg #[.int .i64 (k : Nat), .string S2, .int .i64 0, .int .i64 (i : Nat)]) ∧ Kp w w') := Lib.hid (fun k w => by rw [hS2]; exact token_any k _ HTL.out i w)
    rw [← ht, ← hS2] at FIN hcut
    rw [← hS] at hcut hcf
    rw [← hR, ← hS]
    clear hR hS hl ht hS2 HTL ht0 hQ h2 hpr hD
    go_enter Tryz.func87, Tryz.ntmps87
    go_wp2_with fail
    refine (HP.out _).mono ?_
    rintro e w' ⟨rfl, rfl⟩
    go_wp2_with fail
    refine (HT.out 4 _).mono ?_
    rintro e w1 ⟨rfl, hk1⟩
    have hB := HB.out.keep hk1
    have HKW : Hid (Kp w w1) := Kp.trans HK.out hk1
    have c0 := hB.cell 0 rfl; have c1 := hB.cell 1 rfl; have c2 := hB.cell 2 rfl; have c3 := hB.cell 3 rfl
    have f0 := hB.free 0; have f1 := hB.free 1; have f2 := hB.free 2; have f3 := hB.free 3
    clear hB hk1
    go_wp2_with fail
    exact bodyPost_ret (by simp [results, Tryz.results87, go_sem, c0, c1, c2, c3]) rfl (FIN.out _ (kp_four HKW.out _ _ _ _))
  · have FIN : Hid (∀ w', Kp w w' → R (.returned (.tuple #[.agg #[.int .i64 4, .string (st (sub l i (i + 1))), .int .i64 0, .int .i64 (i : Nat)], .int .i64 ((i : Int) + 1), .int .i64 0])) w') := Lib.hid (fun w' hk => by
      rw [hR]
      refine ⟨?_, hk⟩
      rw [ht0, if_neg h2, sub_one hi]; rfl)
    have HP : Hid (∀ w, Calls Tryz.prog 122 #[.string D, .string ⟨#[61, 61]⟩] w fun e w' => e = .returned (.bool false) ∧ w = w') := Lib.hid (fun w => (Tryz.strings_HasPrefix D ⟨#[61, 61]⟩ w).mono (by
      rintro e w' ⟨rfl, rfl⟩
      refine ⟨?_, rfl⟩
      have h3 : Lib.hasPrefix D.data.toList (⟨#[61, 61]⟩ : ByteArray).data.toList = Lib.hasPrefix D.data.toList (st [61, 61]).data.toList := rfl
      rw [h3, hpr, decide_eq_false h2]))
    have hcut : ∀ w, (Instr.slice 9 (.string (st l)) (some (.int .i64 (i : Int))) (some (.int .i64 ((i : Int) + 1))) none).run Tryz.prog w = .ok (.string (st (sub l i (i + 1)))) w := fun w => cut (j := i + 1) (by omega) (by omega) w
    obtain ⟨t, ht⟩ : ∃ t, t = sub l i (i + 1) := ⟨_, rfl⟩
    have HTL : Hid (t.length ≤ 100000) := Lib.hid (by rw [ht, sub_len (by omega)]; omega)
    obtain ⟨S, hS⟩ : ∃ S, S = st l := ⟨_, rfl⟩
    obtain ⟨S2, hS2⟩ : ∃ S2, S2 = st t := ⟨_, rfl⟩
    have HT : Hid (∀ (k : Nat) (w : World), Calls Tryz.prog 119 #[.int .i64 (k : Nat), .string S2, .int .i64 (i : Nat)] w fun e w' => e = .returned (.agg #[.int .i64 (k : Nat), .string S2, .int .i64 0, .int .i64 (i : Nat)]) ∧ Kp w w') := Lib.hid (fun k w => by rw [hS2]; exact token_any k _ HTL.out i w)
    rw [← ht, ← hS2] at FIN hcut
    rw [← hS] at hcut hcf
    rw [← hR, ← hS]
    clear hR hS hl ht hS2 HTL ht0 hQ h2 hpr hD
    go_enter Tryz.func87, Tryz.ntmps87
    go_wp2_with fail
    refine (HP.out _).mono ?_
    rintro e w' ⟨rfl, rfl⟩
    go_wp2_with fail
    refine (HT.out 4 _).mono ?_
    rintro e w1 ⟨rfl, hk1⟩
    have hB := HB.out.keep hk1
    have HKW : Hid (Kp w w1) := Kp.trans HK.out hk1
    have c0 := hB.cell 0 rfl; have c1 := hB.cell 1 rfl; have c2 := hB.cell 2 rfl; have c3 := hB.cell 3 rfl
    have f0 := hB.free 0; have f1 := hB.free 1; have f2 := hB.free 2; have f3 := hB.free 3
    clear hB hk1
    go_wp2_with fail
    exact bodyPost_ret (by simp [results, Tryz.results87, go_sem, c0, c1, c2, c3]) rfl (FIN.out _ (kp_four HKW.out _ _ _ _))
end By
end Go.Proofs.YtmflgfojicaecaaGreatDoor

/- The program's numberAt. Conditions: the place lies in the string, which has at most 16384 bytes. -/
namespace Go.Proofs.YtmflgfojicaecaaGreatDoor
namespace By
open Go.RowKit WireN LexN
set_option linter.unusedVariables false
set_option linter.unusedSimpArgs false

theorem sl_cell' {w : World} {ao : Option Addr} {len cap : Nat} {xs : List Nat} (h : Sl w (.slice ao len cap) xs) (hx : 0 < len) :
    ∃ b off, ao = some ⟨b, off, none⟩ ∧ ∀ i : Nat, i < len → w.cell? ⟨b, off + i, none⟩ = some (.int .u8 (at' xs i : Nat)) := by
  obtain ⟨⟨ao', cap', e, h2, h3, h4, h5⟩, hl, hs⟩ := h
  simp only [Value.slice.injEq] at e
  obtain ⟨rfl, rfl, rfl⟩ := e
  exact h4.cells hx
theorem tok_digit {l : List Nat} {i : Nat} (h : digit (at' l i) = true) : tok l i = if 9007199254740992 < digits (sub l i (spn digit l i)) then (Tok.zero, 0, 3) else ((2, [], digits (sub l i (spn digit l i)), i), spn digit l i, 0) := by
  have hl : letter (at' l i) = false := by
    simp only [digit, Bool.and_eq_true, decide_eq_true_eq] at h
    simp [letter]; omega
  unfold tok
  rw [if_neg (by simp [hl]), if_pos h]
theorem digits_step {ds : List Nat} {k : Nat} (h : k < ds.length) : digits (ds.take (k + 1)) = 10 * digits (ds.take k) + (at' ds k - 48) := by
  rw [List.take_succ_eq_append_getElem h, digits_snoc]
  simp [at', h]
theorem digits_take (ds : List Nat) (k : Nat) : digits (ds.take k) ≤ digits ds := by
  have := digits_mono (ds.take k) (ds.drop k)
  rwa [List.take_append_drop] at this

set_option maxRecDepth 100000 in
set_option maxHeartbeats 2000000 in
theorem numberAt_any {l : List Nat} (hl : Lt l) (hlen : l.length ≤ 16384) {i : Nat} (hi : i < l.length) (hQ : digit (at' l i) = true) (w : World) :
    Calls Tryz.prog 85 #[.string (st l), .int .i64 (i : Nat)] w (TokA (tok l i) w) := by
  have hge := spn_ge digit l i
  have hle := spn_le digit (l := l) (i := i) (by omega)
  have ht0 := tok_digit hQ
  have hall := spn_all digit l (spn digit l i - i) i (by omega)
  obtain ⟨n, hn⟩ : ∃ n, n = spn digit l i := ⟨_, rfl⟩
  obtain ⟨R, hR⟩ : ∃ R, R = TokA (tok l i) w := ⟨_, rfl⟩
  rw [← hn] at hge hle ht0 hall
  have hsp : ∀ w, Calls Tryz.prog 82 #[.string (st l), .int .i64 (i : Nat), .func (.func 120) #[] #[]] w fun e w' => e = .returned (.int .i64 (n : Nat)) ∧ w = w' := fun w => by
    rw [hn]; exact span_any hl (by omega) fitsDigit (by omega) w
  have HSP := Lib.hid hsp
  have hcut : ∀ w, (Instr.slice 9 (.string (st l)) (some (.int .i64 (i : Int))) (some (.int .i64 (n : Int))) none).run Tryz.prog w = .ok (.string (st (sub l i n))) w := fun w => cut hge hle w
  have hdl := sub_len (l := l) (i := i) (j := n) hle
  have hda : ∀ k, k < n - i → digit (at' (sub l i n) k) = true := fun k hk => by rw [sub_at hle hk]; exact hall _ (by omega) (by omega)
  have hdt : Lt (sub l i n) := fun k => by
    by_cases hk : k < n - i
    · show at' (sub l i n) k < 256
      rw [sub_at hle hk]; exact hl _
    · rw [List.getElem?_eq_none (by omega)]; decide
  obtain ⟨ds, hds⟩ : ∃ ds, ds = sub l i n := ⟨_, rfl⟩
  rw [← hds] at hcut hdl hda hdt ht0
  have hm : n - i ≤ 16384 := by omega
  obtain ⟨m, hme⟩ : ∃ m, m = n - i := ⟨_, rfl⟩
  rw [← hme] at hdl hda hm
  have HDL := Lib.hid hdl; have HDA := Lib.hid hda
  have hB0 := Blk.new w 111 #[.int .i64 0, .string ⟨#[]⟩, .int .i64 0, .int .i64 0]
  have hK0 := kp_alloc w (.cells #[.int .i64 0, .string ⟨#[]⟩, .int .i64 0, .int .i64 0] 111)
  obtain ⟨S, hS⟩ : ∃ S, S = st l := ⟨_, rfl⟩
  obtain ⟨S2, hS2⟩ : ∃ S2, S2 = st ds := ⟨_, rfl⟩
  have hz2 : S2.size = m := by rw [hS2, st_size, hdl]
  have hsl := fun w => sl_bytesWorld w S2 (by omega)
  have hqc : ∀ w, (convert 9 69 (.string S2)).run Tryz.prog w = .ok (.slice (some ⟨w.heap.size, 0, none⟩) m (grownCap w m 0 5)) (Lib.bytesWorld w 5 S2) := fun w => by
    rw [Lib.run_convert_string_bytes w 9 69 5 S2 Tryz.underlying9 Tryz.underlying69 Tryz.underlying5, hz2]
  have hbs : bs S2 = ds := by rw [hS2]; exact bs_st hdt
  rw [hbs, hz2] at hsl
  have FINE : Hid (∀ (w' : World) (k : Nat), Kp w w' → 9007199254740992 < digits (ds.take k) → R (.returned (.tuple #[.agg #[.int .i64 0, .string ⟨#[]⟩, .int .i64 0, .int .i64 0], .int .i64 0, .int .i64 3])) w') := Lib.hid (fun w' k hk hb => by
    rw [hR]
    refine ⟨?_, hk⟩
    have := digits_take ds k
    rw [ht0, if_pos (by omega)]; rfl)
  have FIN : Hid (∀ (w' : World) (v : Nat), Kp w w' → v = digits ds → v ≤ 9007199254740992 → R (.returned (.tuple #[.agg #[.int .i64 2, .string ⟨#[]⟩, .int .i64 (v : Nat), .int .i64 (i : Nat)], .int .i64 (n : Nat), .int .i64 0])) w') := Lib.hid (fun w' v hk hv hb => by
    rw [hR]
    refine ⟨?_, hk⟩
    rw [ht0, ← hv, if_neg (by omega)]; rfl)
  rw [← hS2] at hcut
  rw [← hS] at HSP hcut
  rw [← hR, ← hS]
  have HKW : ∀ w1, Kp (w.alloc (.cells #[.int .i64 0, .string ⟨#[]⟩, .int .i64 0, .int .i64 0] 111)) w1 → Kp w w1 ∧ Blk w1 w.heap.size 111 #[.int .i64 0, .string ⟨#[]⟩, .int .i64 0, .int .i64 0] := fun w1 hk => ⟨Kp.trans hK0 hk, hB0.keep hk⟩
  have HKW' := Lib.hid HKW
  have HSL := Lib.hid hsl
  have hz1 : (w.alloc (.cells #[.int .i64 0, .string ⟨#[]⟩, .int .i64 0, .int .i64 0] 111)).heap.size = w.heap.size + 1 := by simp
  have hi' : (i : Int) ≤ 16384 := by omega
  have hn' : (n : Int) ≤ 16384 := by omega
  clear HKW hsl hR hn hS hl hds hS2 ht0 hQ hB0 hK0 hz2 hbs hda hdl hall hsp hdt hz1 hme
  go_enter Tryz.func85, Tryz.ntmps85
  go_wp2_with fail
  refine (HSP.out _).mono ?_
  rintro e w' ⟨rfl, rfl⟩
  go_wp2_with fail
  have hs1 := HSL.out (w.alloc (.cells #[.int .i64 0, .string ⟨#[]⟩, .int .i64 0, .int .i64 0] 111))
  have hkb := HKW'.out _ (kp_bytesWorld (w.alloc (.cells #[.int .i64 0, .string ⟨#[]⟩, .int .i64 0, .int .i64 0] 111)) 5 S2)
  rw [show (w.alloc (.cells #[.int .i64 0, .string ⟨#[]⟩, .int .i64 0, .int .i64 0] 111)).heap.size = w.heap.size + 1 by simp] at hs1
  obtain ⟨W1, hW1⟩ : ∃ W1, W1 = Lib.bytesWorld (w.alloc (.cells #[.int .i64 0, .string ⟨#[]⟩, .int .i64 0, .int .i64 0] 111)) 5 S2 := ⟨_, rfl⟩
  obtain ⟨cap, hcap⟩ : ∃ cap, cap = grownCap (w.alloc (.cells #[.int .i64 0, .string ⟨#[]⟩, .int .i64 0, .int .i64 0] 111)) m 0 5 := ⟨_, rfl⟩
  rw [← hW1, ← hcap] at hs1
  rw [← hW1] at hkb
  rw [← hW1, ← hcap]
  have HS1 := Lib.hid hs1; have HKB := Lib.hid hkb.1
  have hB := hkb.2
  have c0 := hB.cell 0 rfl; have c1 := hB.cell 1 rfl; have c2 := hB.cell 2 rfl; have c3 := hB.cell 3 rfl
  have f0 := hB.free 0; have f1 := hB.free 1; have f2 := hB.free 2; have f3 := hB.free 3
  clear hs1 hkb hW1 hcap hcut hqc hB
  go_loop [5, 7, 19] (fun r v q => r = .int .i64 (n : Nat) ∧ ∃ k : Nat, q = .int .i64 k ∧ k ≤ m ∧ v = .int .i64 (digits (ds.take k) : Nat) ∧ digits (ds.take k) ≤ 9007199254740992) (fun _ _ q => m - (intOf q).toNat)
  case atStart => exact ⟨rfl, 0, rfl, Nat.zero_le _, rfl, by simp [digits]⟩
  case round =>
    obtain ⟨rfl, k, rfl, hk, rfl, hv⟩ := hrel
    obtain ⟨V, hV⟩ : ∃ V, V = digits (ds.take k) := ⟨_, rfl⟩
    rw [← hV] at hv ⊢
    have HV := Lib.hid hV
    have hVi : (V : Int) ≤ 9007199254740992 := by omega
    clear hV hv
    by_cases hkm : k < m
    · obtain ⟨b, off, e, hcell⟩ := sl_cell' HS1.out (by omega)
      injection e with e
      injection e with e1 e2
      subst e1 e2
      have hc1 := hcell k hkm
      rw [Nat.zero_add] at hc1
      have hdg := HDA.out k hkm
      have HST : Hid (digits (ds.take (k + 1)) = 10 * V + (at' ds k - 48)) := Lib.hid (by rw [HV.out]; exact digits_step (by have := HDL.out; omega))
      obtain ⟨c, hc⟩ : ∃ c, c = at' ds k := ⟨_, rfl⟩
      rw [← hc] at hc1 hdg HST
      have hcb : 48 ≤ c ∧ c ≤ 57 := by simpa [digit] using hdg
      have hci : (48 : Int) ≤ (c : Int) := by omega
      have hci2 : (c : Int) ≤ 57 := by omega
      clear hcell hc hdg
      by_cases hbig : (9007199254740992 : Int) < 10 * (V : Int) + ((c : Int) - 48)
      · have FE : Hid (9007199254740992 < digits (ds.take (k + 1))) := Lib.hid (by rw [HST.out]; omega)
        clear hcb
        go_wp2_with fail
        exact bodyPost_ret (by simp [results, Tryz.results85, go_sem, c0, c1, c2, c3]) rfl (FINE.out _ (k + 1) (kp_four HKB.out _ _ _ _) FE.out)
      · have hsm : 10 * (V : Int) + ((c : Int) - 48) ≤ 9007199254740992 := by omega
        have FB : Hid (digits (ds.take (k + 1)) ≤ 9007199254740992) := Lib.hid (by rw [HST.out]; omega)
        have FV : Hid (10 * (V : Int) + ((c : Int) - 48) = ((digits (ds.take (k + 1)) : Nat) : Int)) := Lib.hid (by rw [HST.out]; omega)
        clear hcb hbig
        go_wp2_with fail
        go_round
        case rel => exact ⟨rfl, k + 1, by go_num, by omega, vint FV.out, FB.out⟩
        case measure => simp [intOf]; omega
    · have FV : Hid (V = digits ds) := Lib.hid (by rw [HV.out, List.take_of_length_le (by have := HDL.out; omega)])
      have FB : Hid (V ≤ 9007199254740992) := Lib.hid (by omega)
      go_wp2_with fail
      exact bodyPost_ret (by simp [results, Tryz.results85, go_sem, c0, c1, c2, c3]) rfl (FIN.out _ V (kp_four HKB.out _ _ _ _) FV.out FB.out)
end By
end Go.Proofs.YtmflgfojicaecaaGreatDoor
