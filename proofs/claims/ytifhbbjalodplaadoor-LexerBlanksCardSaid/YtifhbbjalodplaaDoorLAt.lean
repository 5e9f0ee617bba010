/- The program's token, nameAt, textAt and signAt. Conditions: the place lies in the string, which has at most 16384 bytes. -/
import Derived.Test.YtifhbbjalodplaaDoorLSpan
import Derived.Test.YtifhbbjalodplaaDoorShelf
namespace Go.Proofs.YtifhbbjalodplaaDoor
namespace By
open Go.RowKit WireN LexN
set_option linter.unusedVariables false
set_option linter.unusedSimpArgs false

/-- A token's value, and what reading a token answers. -/
def tokV (t : Tok) : Value := .agg #[.int .i64 (t.1 : Nat), .string (st t.2.1), .int .i64 (t.2.2.1 : Nat), .int .i64 (t.2.2.2 : Nat)]
def tokR (r : Tok × Nat × Nat) : Ending := .returned (.tuple #[tokV r.1, .int .i64 (r.2.1 : Nat), .int .i64 (r.2.2 : Nat)])
structure TokA (r : Tok × Nat × Nat) (w : World) (e : Ending) (w' : World) : Prop where
  e : e = tokR r
  kp : Kp w w'
/-- The struct's cells are stored. -/
theorem kp_four {w w3 : World} (h : Kp w w3) (a b c d : Value) : Kp w ((((w3.setCell ⟨w.heap.size, 0, none⟩ a).setCell ⟨w.heap.size, 1, none⟩ b).setCell ⟨w.heap.size, 2, none⟩ c).setCell ⟨w.heap.size, 3, none⟩ d) :=
  Only.kp h (((((Only.refl _ w3).set 0 a).set 1 b).set 2 c).set 3 d) (Nat.le_refl _)
def zeroT : Array Value := #[.int .i64 0, .string ⟨#[]⟩, .int .i64 0, .int .i64 0]

set_option maxRecDepth 100000 in
theorem clone_any (S : ByteArray) (hz : S.size ≤ 281474976710656) (w : World) : Calls Tryd.prog 47 #[.string S] w fun e w' => e = .returned (.string S) ∧ Kp w w' := by
  go_enter Tryd.func47, Tryd.ntmps47
  go_wp2_with fail
  refine (Tryd.stringslite_Clone S _ hz).mono ?_
  rintro e w' ⟨rfl, hk⟩
  go_wp2_with fail
  go_ret
  exact ⟨rfl, hk⟩
set_option maxRecDepth 100000 in
set_option maxHeartbeats 1000000 in
theorem token_any (k : Nat) (t : List Nat) (ht : t.length ≤ 100000) (i : Nat) (w : World) :
    Calls Tryd.prog 41 #[.int .i64 (k : Nat), .string (st t), .int .i64 (i : Nat)] w fun e w' => e = .returned (.agg #[.int .i64 (k : Nat), .string (st t), .int .i64 0, .int .i64 (i : Nat)]) ∧ Kp w w' := by
  obtain ⟨S, hS⟩ : ∃ S, S = st t := ⟨_, rfl⟩
  have hz : S.size ≤ 281474976710656 := by rw [hS, st_size]; omega
  rw [← hS]
  clear hS ht
  have HB := Lib.hid (Blk.new w 42 #[.int .i64 0, .string ⟨#[]⟩, .int .i64 0, .int .i64 0])
  have HK := Lib.hid (kp_alloc w (.cells #[.int .i64 0, .string ⟨#[]⟩, .int .i64 0, .int .i64 0] 42))
  go_enter Tryd.func41, Tryd.ntmps41
  go_wp2_with fail
  refine (clone_any S hz _).mono ?_
  rintro e w1 ⟨rfl, hk1⟩
  have hB := HB.out.keep hk1
  have HKW : Hid (Kp w w1) := Kp.trans HK.out hk1
  have c0 := hB.cell 0 rfl; have c1 := hB.cell 1 rfl; have c2 := hB.cell 2 rfl; have c3 := hB.cell 3 rfl
  have f0 := hB.free 0; have f1 := hB.free 1; have f2 := hB.free 2; have f3 := hB.free 3
  clear hB hk1
  go_wp2_with fail
  exact bodyPost_ret (by simp [results, Tryd.results41, go_sem, c0, c1, c2, c3]) rfl ⟨rfl, kp_four HKW.out _ _ _ _⟩

set_option maxRecDepth 100000 in
set_option maxHeartbeats 2000000 in
theorem nameAt_any {l : List Nat} (hl : Lt l) (hlen : l.length ≤ 16384) {i : Nat} (hi : i < l.length) (hL : letter (at' l i) = true) (w : World) :
    Calls Tryd.prog 33 #[.string (st l), .int .i64 (i : Nat)] w (TokA (tok l i) w) := by
  have hge := spn_ge inner l i
  have hle := spn_le inner (l := l) (i := i) (by omega)
  obtain ⟨n, hn⟩ : ∃ n, n = spn inner l i := ⟨_, rfl⟩
  obtain ⟨R, hR⟩ : ∃ R, R = TokA (tok l i) w := ⟨_, rfl⟩
  rw [← hn] at hge hle
  have HB := Lib.hid (Blk.new w 42 #[.int .i64 0, .string ⟨#[]⟩, .int .i64 0, .int .i64 0])
  have HK := Lib.hid (kp_alloc w (.cells #[.int .i64 0, .string ⟨#[]⟩, .int .i64 0, .int .i64 0] 42))
  have hsp : ∀ w, Calls Tryd.prog 31 #[.string (st l), .int .i64 (i : Nat), .func (.func 23) #[] #[]] w fun e w' => e = .returned (.int .i64 (n : Nat)) ∧ w = w' := fun w => by
    rw [hn]; exact span_any hl (by omega) fitsName (by omega) w
  have HSP := Lib.hid hsp
  clear hsp
  by_cases hbig : 24 < n - i
  · have FIN : Hid (∀ w', Kp w w' → R (.returned (.tuple #[.agg #[.int .i64 0, .string ⟨#[]⟩, .int .i64 0, .int .i64 0], .int .i64 0, .int .i64 2])) w') := Lib.hid (fun w' hk => by
      rw [hR]
      refine ⟨?_, hk⟩
      have e : tok l i = (Tok.zero, 0, 2) := by unfold tok; rw [if_pos hL, ← hn, if_pos hbig]
      rw [e]; rfl)
    rw [← hR]
    obtain ⟨S, hS⟩ : ∃ S, S = st l := ⟨_, rfl⟩
    rw [← hS] at HSP ⊢
    have hb : (24 : Int) < (n : Int) - (i : Int) := by omega
    have hlen' : (l.length : Int) ≤ 16384 := by omega
    clear hR hn hS hl
    go_enter Tryd.func33, Tryd.ntmps33
    go_wp2_with fail
    refine (HSP.out _).mono ?_
    rintro e w' ⟨rfl, rfl⟩
    go_wp2_with fail
    exact bodyPost_ret (by simp [results, Tryd.results33, go_sem]) rfl (FIN.out _ HK.out)
  · have FIN : Hid (∀ w', Kp w w' → R (.returned (.tuple #[.agg #[.int .i64 1, .string (st (sub l i n)), .int .i64 0, .int .i64 (i : Nat)], .int .i64 (n : Nat), .int .i64 0])) w') := Lib.hid (fun w' hk => by
      rw [hR]
      refine ⟨?_, hk⟩
      have e : tok l i = ((1, sub l i n, 0, i), n, 0) := by unfold tok; rw [if_pos hL, ← hn, if_neg hbig]
      rw [e]; rfl)
    have hcut : ∀ w, (Instr.slice 9 (.string (st l)) (some (.int .i64 (i : Int))) (some (.int .i64 (n : Int))) none).run Tryd.prog w = .ok (.string (st (sub l i n))) w := fun w => cut hge hle w
    have HTL : Hid ((sub l i n).length ≤ 100000) := Lib.hid (by rw [sub_len hle]; omega)
    obtain ⟨t, ht⟩ : ∃ t, t = sub l i n := ⟨_, rfl⟩
    obtain ⟨S, hS⟩ : ∃ S, S = st l := ⟨_, rfl⟩
    obtain ⟨S2, hS2⟩ : ∃ S2, S2 = st t := ⟨_, rfl⟩
    have HT : Hid (∀ (k : Nat) (w : World), Calls Tryd.prog 41 #[.int .i64 (k : Nat), .string S2, .int .i64 (i : Nat)] w fun e w' => e = .returned (.agg #[.int .i64 (k : Nat), .string S2, .int .i64 0, .int .i64 (i : Nat)]) ∧ Kp w w') := Lib.hid (fun k w => by rw [hS2, ht]; exact token_any k _ HTL.out i w)
    rw [← ht, ← hS2] at FIN hcut
    rw [← hS] at HSP hcut
    rw [← hR, ← hS]
    have hb : (n : Int) - (i : Int) ≤ 24 := by omega
    have hb0 : 0 ≤ (n : Int) - (i : Int) := by omega
    clear hR hn hS hl ht hS2 HTL
    go_enter Tryd.func33, Tryd.ntmps33
    go_wp2_with fail
    refine (HSP.out _).mono ?_
    rintro e w' ⟨rfl, rfl⟩
    go_wp2_with fail
    refine (HT.out 1 _).mono ?_
    rintro e w1 ⟨rfl, hk1⟩
    have hB := HB.out.keep hk1
    have HKW : Hid (Kp w w1) := Kp.trans HK.out hk1
    have c0 := hB.cell 0 rfl; have c1 := hB.cell 1 rfl; have c2 := hB.cell 2 rfl; have c3 := hB.cell 3 rfl
    have f0 := hB.free 0; have f1 := hB.free 1; have f2 := hB.free 2; have f3 := hB.free 3
    clear hB hk1
    go_wp2_with fail
    exact bodyPost_ret (by simp [results, Tryd.results33, go_sem, c0, c1, c2, c3]) rfl (FIN.out _ (kp_four HKW.out _ _ _ _))
end By
end Go.Proofs.YtifhbbjalodplaaDoor
