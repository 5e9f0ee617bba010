/- The laws' comparison of the tokens of both sides, and the cut of a string. Condition: none beyond a string's length. -/
import Derived.Test.YtifhbbjalodplaaDoorLRToks
namespace Go.Proofs.YtifhbbjalodplaaDoor
namespace By
open Go.RowKit WireN LexN
set_option linter.unusedVariables false
set_option linter.unusedSimpArgs false

theorem toks_len (l : List Nat) : (toks l).1.length ≤ 16385 := by
  have key : ∀ (n i : Nat), (lexF l n i).1.length ≤ n := by
    intro n
    induction n with
    | zero => intro i; simp [lexF]
    | succ n ih =>
      intro i
      unfold lexF
      split
      · simp
      · split
        · have := ih (i + 1); omega
        · split
          · have := ih (spn line l i); omega
          · split
            · unfold aheadL
              have := ih (tok l i).2.1
              split
              · simp only [List.length_append, List.length_singleton]; omega
              · omega
            · simp
  unfold toks
  split
  · simp
  · have := key (l.length + 1 - 0) 0
    show (lexF l (l.length + 1 - 0) 0).1.length ≤ _
    omega
set_option maxRecDepth 100000 in
set_option maxHeartbeats 2000000 in
theorem same_any {l : List Nat} (hl : Lt l) (w : World) : Calls Tryd.prog 10 #[.string (st l)] w fun e w' => e = .returned (.bool true) ∧ Kp w w' := by
  have HA := Lib.hid (fun w => Tokens_any hl w)
  have HB := Lib.hid (fun w => rTokens_any hl w)
  have HLEN := Lib.hid (toks_len l)
  obtain ⟨S, hS⟩ : ∃ S, S = st l := ⟨_, rfl⟩
  obtain ⟨r, hr⟩ : ∃ r, r = toks l := ⟨_, rfl⟩
  rw [← hS, ← hr] at HA HB
  rw [← hr] at HLEN
  rw [← hS]
  obtain ⟨ts, at0, e0⟩ := r
  simp only at HLEN
  clear hS hr hl
  go_enter Tryd.func10, Tryd.ntmps10
  go_wp2_with fail
  refine (HA.out _).mono ?_
  rintro e w1 ⟨v1, u1, rfl, hr1, hk1⟩
  simp only
  obtain ⟨ao1, c1, hv1, hc1⟩ := hr1.form
  have HR1 := Lib.hid hr1; have HK1 := Lib.hid (Kp.trans hk1 hr1.kp)
  simp only at hv1 hc1
  obtain ⟨n, hn⟩ : ∃ n, n = ts.length := ⟨_, rfl⟩
  have HNN := Lib.hid hn
  rw [← hn] at hv1 hc1
  subst hv1
  have hc1i : (n : Int) ≤ (c1 : Int) := by omega
  clear hr1 hk1 hn hc1
  go_wp2_with fail
  refine (HB.out _).mono ?_
  rintro e w2 ⟨v2, u2, rfl, hr2, hk2⟩
  simp only
  obtain ⟨ao2, c2, hv2, hc2⟩ := hr2.form
  have HR2 := Lib.hid hr2; have HKW := Lib.hid (Kp.trans hk2 hr2.kp)
  simp only at hv2 hc2
  rw [← HNN.out] at hv2 hc2
  subst hv2
  have hc2i : (n : Int) ≤ (c2 : Int) := by omega
  have HR1' := Lib.hid (HR1.out.keep HKW.out)
  have HK2 := Lib.hid (Kp.trans HK1.out HKW.out)
  have hnb : (n : Int) ≤ 16385 := by have := HLEN.out; have := HNN.out; omega
  have q1 : ((at0 : Int) != (at0 : Int)) = false := by simp
  have q2 : ((e0 : Int) != (e0 : Int)) = false := by simp
  have q3 : ((n : Int) != (n : Int)) = false := by simp
  clear hr2 hk2 hc2
  go_wp2_with fail
  go_loopw [39] (fun q wr => ∃ k : Nat, q = .int .i64 k ∧ k ≤ n ∧ Kp w2 wr) (fun q _ => n - (intOf q).toNat)
  case atStart => exact ⟨0, rfl, Nat.zero_le _, Kp.refl _⟩
  case round =>
    obtain ⟨k, rfl, hk, hkp⟩ := hrel
    rename World => wx
    have HKP := Lib.hid hkp
    clear hkp
    by_cases hkn : k < n
    · obtain ⟨g1, d1, e1, -, -, -, hcell1⟩ := (HR1'.out.keep HKP.out).cell (by have := HNN.out; omega)
      obtain ⟨g2, d2, e2, -, -, -, hcell2⟩ := (HR2.out.keep HKP.out).cell (by have := HNN.out; omega)
      injection e1 with e1a e1b e1c
      injection e2 with e2a e2b e2c
      subst e1a e1c e2a e2c
      have hkl : k < ts.length := by have := HNN.out; omega
      obtain ⟨⟨K, TX, NM, AT⟩, ht⟩ : ∃ t, t = ts[k] := ⟨_, rfl⟩
      have htk : ts[k]? = some (K, TX, NM, AT) := by rw [ht]; exact List.getElem?_eq_getElem hkl
      have a0 : wx.cell? ⟨g1, k * 4, none⟩ = some (.int .i64 (K : Nat)) := hcell1 k _ htk 0 _ rfl
      have a1 : wx.cell? ⟨g1, k * 4 + 1, none⟩ = some (.string (st TX)) := hcell1 k _ htk 1 _ rfl
      have a2 : wx.cell? ⟨g1, k * 4 + 2, none⟩ = some (.int .i64 (NM : Nat)) := hcell1 k _ htk 2 _ rfl
      have a3 : wx.cell? ⟨g1, k * 4 + 3, none⟩ = some (.int .i64 (AT : Nat)) := hcell1 k _ htk 3 _ rfl
      have b0 : wx.cell? ⟨g2, k * 4, none⟩ = some (.int .i64 (K : Nat)) := hcell2 k _ htk 0 _ rfl
      have b1 : wx.cell? ⟨g2, k * 4 + 1, none⟩ = some (.string (st TX)) := hcell2 k _ htk 1 _ rfl
      have b2 : wx.cell? ⟨g2, k * 4 + 2, none⟩ = some (.int .i64 (NM : Nat)) := hcell2 k _ htk 2 _ rfl
      have b3 : wx.cell? ⟨g2, k * 4 + 3, none⟩ = some (.int .i64 (AT : Nat)) := hcell2 k _ htk 3 _ rfl
      obtain ⟨SX, hSX⟩ : ∃ SX, SX = st TX := ⟨_, rfl⟩
      rw [← hSX] at a1 b1
      clear hcell1 hcell2 ht htk hSX hkl e1b e2b
      go_wp2_with fail
      go_quiet (fail)
      go_wp2_with fail
      exact ⟨⟨k + 1, by go_num, by omega, Kp.trans HKP.out (Kp.drewN _ _)⟩, by simp [intOf]; omega⟩
    · go_wp2_with fail
      go_ret
      exact ⟨rfl, Kp.trans HK2.out HKP.out⟩
set_option maxRecDepth 100000 in
set_option maxHeartbeats 400000 in
theorem limited_any {l : List Nat} (w : World) : Calls Tryd.prog 9 #[.string (st l)] w fun e w' => e = .returned (.string (st (l.take 2000))) ∧ w = w' := by
  obtain ⟨n, hn⟩ : ∃ n, n = l.length := ⟨_, rfl⟩
  have qs : ∀ w, (Builtin.len_ #[9] 3 #[.string (st l)]).run Tryd.prog w = .ok (goInt n) w := fun w => by rw [hn]; exact len w
  by_cases h : n ≤ 2000
  · have hi : (n : Int) ≤ 2000 := by omega
    rw [List.take_of_length_le (by omega)]
    obtain ⟨S, hS⟩ : ∃ S, S = st l := ⟨_, rfl⟩
    rw [← hS] at qs ⊢
    clear hS hn h
    go_enter Tryd.func9, Tryd.ntmps9
    go_wp2_with fail
    go_ret
    exact ⟨rfl, rfl⟩
  · have hi : (2000 : Int) < (n : Int) := by omega
    have hcut : ∀ w, (Instr.slice 9 (.string (st l)) none (some (.int .i64 2000)) none).run Tryd.prog w = .ok (.string (st (l.take 2000))) w := fun w => cut_to (j := 2000) (by omega) w
    obtain ⟨X, hX⟩ : ∃ X, X = st (l.take 2000) := ⟨_, rfl⟩
    obtain ⟨S, hS⟩ : ∃ S, S = st l := ⟨_, rfl⟩
    rw [← hS] at qs hcut ⊢
    rw [← hX] at hcut ⊢
    clear hS hn h hX
    go_enter Tryd.func9, Tryd.ntmps9
    go_wp2_with fail
    go_ret
    exact ⟨rfl, rfl⟩
/-- Strings put together. -/
theorem st_append (a b : List Nat) : st a ++ st b = st (a ++ b) := by
  apply ByteArray.ext
  apply Array.ext'
  simp [st]
/-- a + b -/
theorem add_st {a b : List Nat} (h : a.length + b.length ≤ 1000000) (w : World) : (Op.stringOp .add (st a) (st b)).run Tryd.prog w = .ok (.string (st (a ++ b))) w := by
  rw [run_string_add_sum w (st a) (st b) (by rw [st_size, st_size]; omega), st_append]
end By
end Go.Proofs.YtifhbbjalodplaaDoor
