/- The reference's token. Conditions: the place lies in the string, which has at most 16384 bytes. -/
import Derived.Test.YtifhbbjalodplaaDoorLSkip
import Derived.Lib.SlBytesConst
namespace Go.Proofs.YtifhbbjalodplaaDoor
namespace By
open Go.RowKit WireN LexN
set_option linter.unusedVariables false
set_option linter.unusedSimpArgs false
set_option maxRecDepth 100000 in
set_option maxHeartbeats 4000000 in
theorem rtok_letter {l : List Nat} (hl : Lt l) (hlen : l.length ≤ 16384) {i : Nat} (hi : i < l.length) (hQ : letter (at' l i) = true) (w : World) :
    Calls Tryd.prog 38 #[.string (st l), .int .i64 (i : Nat)] w (TokA (tok l i) w) := by
  obtain ⟨n, hn⟩ : ∃ n, n = l.length := ⟨_, rfl⟩
  have HN := Lib.hid hn
  have qs : ∀ w, (Builtin.len_ #[9] 3 #[.string (st l)]).run Tryd.prog w = .ok (goInt n) w := fun w => by rw [hn]; exact len w
  have HI := Lib.hid hi
  have hni : (i : Int) < (n : Int) := by omega
  have hn16 : (n : Int) ≤ 16384 := by omega
  have hx0 : ∀ w, (Instr.index 9 (.string (st l)) (.int .i64 (i : Int))).run Tryd.prog w = .ok (.int .u8 (at' l i : Nat)) w := fun w => idx hl hi w
  have HK := Lib.hid (kp_alloc w (.cells #[.int .i64 0, .string ⟨#[]⟩, .int .i64 0, .int .i64 0] 42))
  have HKA : Hid (∀ cs, Kp w (w.alloc (.cells cs 42))) := Lib.hid (fun cs => kp_alloc w _)
  obtain ⟨c, hc⟩ : ∃ c, c = at' l i := ⟨_, rfl⟩
  have HC := Lib.hid hc
  rw [← hc] at hx0
  obtain ⟨R, hR⟩ : ∃ R, R = TokA (tok l i) w := ⟨_, rfl⟩
  obtain ⟨S, hS⟩ : ∃ S, S = st l := ⟨_, rfl⟩
  have HS := Lib.hid hS; have HL := Lib.hid hl
  rw [← hS] at qs hx0
  rw [← hc] at hQ
  have HLT := Lib.hid hQ
  rw [← hR, ← hS]
  have HR := Lib.hid hR
  clear hn hc hR hS hl hi hlen hQ
  go_enter Tryd.func38, Tryd.ntmps38
  go_wp2_with fail
  refine (letter_any c _).mono ?_
  rintro e w' ⟨rfl, rfl⟩
  rw [HLT.out]
  go_wp2_with fail
  clear hx0
  go_loop [5] (fun v => ∃ k : Nat, v = .int .i64 k ∧ i ≤ k ∧ k ≤ n ∧ spn inner l k = spn inner l i) (fun v => n - (intOf v).toNat)
  case atStart => exact ⟨i, rfl, Nat.le_refl _, by omega, rfl⟩
  case round =>
    obtain ⟨k, rfl, hik, hk, hsp⟩ := hrel
    have HSP := Lib.hid hsp; have HIK := Lib.hid hik
    clear hsp hik
    by_cases hkn : k < n
    · skip
      have hx : ∀ w, (Instr.index 9 (.string S) (.int .i64 (k : Int))).run Tryd.prog w = .ok (.int .u8 (at' l k : Nat)) w := fun w => by rw [HS.out]; exact idx HL.out (by have := HN.out; omega) w
      have HKL : Hid (k < l.length) := Lib.hid (by have := HN.out; omega)
      obtain ⟨d, hd⟩ : ∃ d, d = at' l k := ⟨_, rfl⟩
      have HD := Lib.hid hd
      rw [← hd] at hx
      clear hd
      go_wp2_with fail
      refine (inner_any d _).mono ?_
      rintro e w' ⟨rfl, rfl⟩
      by_cases hb : inner d = true
      · have HST : Hid (spn inner l (k + 1) = spn inner l i) := Lib.hid (by rw [← HSP.out]; exact (spn_step HKL.out (by rw [← HD.out]; exact hb)).symm)
        rw [hb]
        clear hb
        go_wp2_with fail
        go_round
        case rel => exact ⟨k + 1, by go_num, by have := HIK.out; omega, by omega, HST.out⟩
        case measure => simp [intOf]; omega
      · have hb : inner d = false := by simpa using hb
        have HE : Hid (k = spn inner l i) := Lib.hid (by rw [← HSP.out, spn_no (by rw [← HD.out]; exact hb) HKL.out])
        rw [hb]
        clear hb
        by_cases hbig : 24 < k - i
        · have hb : (24 : Int) < (k : Int) - (i : Int) := by omega
          have HF : Hid (R (.returned (.tuple #[.agg #[.int .i64 0, .string ⟨#[]⟩, .int .i64 0, .int .i64 0], .int .i64 0, .int .i64 2])) (w.alloc (.cells #[.int .i64 0, .string ⟨#[]⟩, .int .i64 0, .int .i64 0] 42))) := Lib.hid (by
            rw [HR.out]
            refine ⟨?_, HK.out⟩
            have e : tok l i = (Tok.zero, 0, 2) := by unfold tok; rw [if_pos (by rw [← HC.out]; exact HLT.out), ← HE.out, if_pos hbig]
            rw [e]; rfl)
          clear hbig
          go_wp2_with fail
          exact bodyPost_ret (by simp [results, Tryd.results38, go_sem]) rfl (HF.out)
        · have hb : (k : Int) - (i : Int) ≤ 24 := by omega
          have hcut : ∀ w, (Instr.slice 9 (.string S) (some (.int .i64 (i : Int))) (some (.int .i64 (k : Int))) none).run Tryd.prog w = .ok (.string (st (sub l i k))) w := fun w => by rw [HS.out]; exact cut (by have := HIK.out; omega) (by have := HN.out; omega) w
          have hik0 : 0 ≤ (k : Int) - (i : Int) := by have := HIK.out; omega
          have HF : Hid (R (.returned (.tuple #[.agg #[.int .i64 1, .string (st (sub l i k)), .int .i64 0, .int .i64 (i : Nat)], .int .i64 (k : Nat), .int .i64 0])) (w.alloc (.cells #[.int .i64 1, .string (st (sub l i k)), .int .i64 0, .int .i64 (i : Nat)] 42))) := Lib.hid (by
            rw [HR.out]
            refine ⟨?_, HKA.out _⟩
            have e : tok l i = ((1, sub l i k, 0, i), k, 0) := by unfold tok; rw [if_pos (by rw [← HC.out]; exact HLT.out), ← HE.out, if_neg hbig]
            rw [e]; rfl)
          obtain ⟨X, hX⟩ : ∃ X, X = st (sub l i k) := ⟨_, rfl⟩
          rw [← hX] at hcut HF
          clear hbig hX
          go_wp2_with fail
          exact bodyPost_ret (by simp [results, Tryd.results38, go_sem]) rfl (HF.out)
    · have HE : Hid (k = spn inner l i) := Lib.hid (by rw [← HSP.out, spn_end (by have := HN.out; omega)])
      by_cases hbig : 24 < k - i
      · have hb : (24 : Int) < (k : Int) - (i : Int) := by omega
        have HF : Hid (R (.returned (.tuple #[.agg #[.int .i64 0, .string ⟨#[]⟩, .int .i64 0, .int .i64 0], .int .i64 0, .int .i64 2])) (w.alloc (.cells #[.int .i64 0, .string ⟨#[]⟩, .int .i64 0, .int .i64 0] 42))) := Lib.hid (by
          rw [HR.out]
          refine ⟨?_, HK.out⟩
          have e : tok l i = (Tok.zero, 0, 2) := by unfold tok; rw [if_pos (by rw [← HC.out]; exact HLT.out), ← HE.out, if_pos hbig]
          rw [e]; rfl)
        clear hbig
        go_wp2_with fail
        exact bodyPost_ret (by simp [results, Tryd.results38, go_sem]) rfl (HF.out)
      · have hb : (k : Int) - (i : Int) ≤ 24 := by omega
        have hcut : ∀ w, (Instr.slice 9 (.string S) (some (.int .i64 (i : Int))) (some (.int .i64 (k : Int))) none).run Tryd.prog w = .ok (.string (st (sub l i k))) w := fun w => by rw [HS.out]; exact cut (by have := HIK.out; omega) (by have := HN.out; omega) w
        have hik0 : 0 ≤ (k : Int) - (i : Int) := by have := HIK.out; omega
        have HF : Hid (R (.returned (.tuple #[.agg #[.int .i64 1, .string (st (sub l i k)), .int .i64 0, .int .i64 (i : Nat)], .int .i64 (k : Nat), .int .i64 0])) (w.alloc (.cells #[.int .i64 1, .string (st (sub l i k)), .int .i64 0, .int .i64 (i : Nat)] 42))) := Lib.hid (by
          rw [HR.out]
          refine ⟨?_, HKA.out _⟩
          have e : tok l i = ((1, sub l i k, 0, i), k, 0) := by unfold tok; rw [if_pos (by rw [← HC.out]; exact HLT.out), ← HE.out, if_neg hbig]
          rw [e]; rfl)
        obtain ⟨X, hX⟩ : ∃ X, X = st (sub l i k) := ⟨_, rfl⟩
        rw [← hX] at hcut HF
        clear hbig hX
        go_wp2_with fail
        exact bodyPost_ret (by simp [results, Tryd.results38, go_sem]) rfl (HF.out)
set_option maxRecDepth 100000 in
set_option maxHeartbeats 4000000 in
theorem rtok_digit {l : List Nat} (hl : Lt l) (hlen : l.length ≤ 16384) {i : Nat} (hi : i < l.length) (hQ : digit (at' l i) = true) (w : World) :
    Calls Tryd.prog 38 #[.string (st l), .int .i64 (i : Nat)] w (TokA (tok l i) w) := by
  obtain ⟨n, hn⟩ : ∃ n, n = l.length := ⟨_, rfl⟩
  have HN := Lib.hid hn
  have qs : ∀ w, (Builtin.len_ #[9] 3 #[.string (st l)]).run Tryd.prog w = .ok (goInt n) w := fun w => by rw [hn]; exact len w
  have HI := Lib.hid hi
  have hni : (i : Int) < (n : Int) := by omega
  have hn16 : (n : Int) ≤ 16384 := by omega
  have hx0 : ∀ w, (Instr.index 9 (.string (st l)) (.int .i64 (i : Int))).run Tryd.prog w = .ok (.int .u8 (at' l i : Nat)) w := fun w => idx hl hi w
  have HK := Lib.hid (kp_alloc w (.cells #[.int .i64 0, .string ⟨#[]⟩, .int .i64 0, .int .i64 0] 42))
  have HKA : Hid (∀ cs, Kp w (w.alloc (.cells cs 42))) := Lib.hid (fun cs => kp_alloc w _)
  obtain ⟨c, hc⟩ : ∃ c, c = at' l i := ⟨_, rfl⟩
  have HC := Lib.hid hc
  rw [← hc] at hx0
  obtain ⟨R, hR⟩ : ∃ R, R = TokA (tok l i) w := ⟨_, rfl⟩
  obtain ⟨S, hS⟩ : ∃ S, S = st l := ⟨_, rfl⟩
  have HS := Lib.hid hS; have HL := Lib.hid hl
  rw [← hS] at qs hx0
  rw [← hc] at hQ
  have HDG := Lib.hid hQ
  have hcb : 48 ≤ c ∧ c ≤ 57 := by simpa [digit] using hQ
  have HLT : Hid (letter c = false) := Lib.hid (by simp [letter]; omega)
  have i1 : (48 : Int) ≤ (c : Int) := by omega
  have i2 : (c : Int) ≤ 57 := by omega
  rw [← hR, ← hS]
  have HR := Lib.hid hR
  clear hn hc hR hS hl hi hlen hQ hcb
  go_enter Tryd.func38, Tryd.ntmps38
  go_wp2_with fail
  refine (letter_any c _).mono ?_
  rintro e w' ⟨rfl, rfl⟩
  rw [HLT.out]
  go_wp2_with fail
  clear hx0 i1 i2
  go_loop [5, 8] (fun v u => ∃ k N : Nat, v = .int .i64 k ∧ i ≤ k ∧ k ≤ n ∧ spn digit l k = spn digit l i ∧ u = .int .i64 N ∧ N ≤ 100000000000000000 ∧ (N ≤ 9007199254740992 → N = digits (sub l i k)) ∧ (9007199254740992 < N → 9007199254740992 < digits (sub l i k))) (fun v _ => n - (intOf v).toNat)
  case atStart => exact ⟨i, 0, rfl, Nat.le_refl _, by omega, rfl, rfl, by omega, fun _ => by rw [sub_self]; rfl, fun h => absurd h (by omega)⟩
  case round =>
    obtain ⟨k, N, rfl, hik, hk, hsp, rfl, hNb, hvs, hvb⟩ := hrel
    have HSP := Lib.hid hsp; have HIK := Lib.hid hik; have HVS := Lib.hid hvs; have HVB := Lib.hid hvb
    have hNi : (N : Int) ≤ 100000000000000000 := by omega
    clear hsp hik hvs hvb
    by_cases hkn : k < n
    · skip
      have hx : ∀ w, (Instr.index 9 (.string S) (.int .i64 (k : Int))).run Tryd.prog w = .ok (.int .u8 (at' l k : Nat)) w := fun w => by rw [HS.out]; exact idx HL.out (by have := HN.out; omega) w
      have HKL : Hid (k < l.length) := Lib.hid (by have := HN.out; omega)
      obtain ⟨d, hd⟩ : ∃ d, d = at' l k := ⟨_, rfl⟩
      have HD := Lib.hid hd
      rw [← hd] at hx
      clear hd
      by_cases h1 : 48 ≤ d
      · have j1 : (48 : Int) ≤ (d : Int) := by omega
        by_cases h2 : d ≤ 57
        · have j2 : (d : Int) ≤ 57 := by omega
          have hdg : digit d = true := by simp [digit, h1, h2]
          have HST : Hid (spn digit l (k + 1) = spn digit l i) := Lib.hid (by rw [← HSP.out]; exact (spn_step HKL.out (by rw [← HD.out]; exact hdg)).symm)
          have HSN : Hid (digits (sub l i (k + 1)) = 10 * digits (sub l i k) + (d - 48)) := Lib.hid (by rw [sub_snoc HIK.out HKL.out, digits_snoc, HD.out])
          by_cases hsm : (N : Int) ≤ 9007199254740992
          · have HV1 : Hid (((N : Int) * 10 + ((d : Int) - 48)) = ((N * 10 + (d - 48) : Nat) : Int)) := Lib.hid (by omega)
            have HV2 : Hid (N * 10 + (d - 48) = digits (sub l i (k + 1))) := Lib.hid (by rw [HSN.out, ← HVS.out (by omega)]; omega)
            have HV3 : Hid (N * 10 + (d - 48) ≤ 100000000000000000) := Lib.hid (by omega)
            clear h1 h2 hdg hNb
            go_wp2_with fail
            go_round
            case rel => exact ⟨k + 1, N * 10 + (d - 48), by go_num, by have := HIK.out; omega, by omega, HST.out, vint HV1.out, HV3.out, fun _ => HV2.out, fun h => by rw [← HV2.out]; exact h⟩
            case measure => simp [intOf]; omega
          · have hsb : (9007199254740992 : Int) < (N : Int) := by omega
            have HV2 : Hid (9007199254740992 < digits (sub l i (k + 1))) := Lib.hid (by rw [HSN.out]; have := HVB.out (by omega); omega)
            have HV3 : Hid (N ≤ 100000000000000000) := Lib.hid hNb
            clear h1 h2 hdg hNb hsm
            go_wp2_with fail
            go_round
            case rel => exact ⟨k + 1, N, by go_num, by have := HIK.out; omega, by omega, HST.out, rfl, HV3.out, fun h => absurd h (by omega), fun _ => HV2.out⟩
            case measure => simp [intOf]; omega
        · have j2 : (57 : Int) < (d : Int) := by omega
          have j3 : decide ((d : Int) ≤ 57) = false := by simp; omega
          have hdg : digit d = false := by simp [digit, h2]
          have HE : Hid (k = spn digit l i) := Lib.hid (by rw [← HSP.out, spn_no (by rw [← HD.out]; exact hdg) HKL.out])
          clear h1 h2 hdg hNb
          by_cases hbig : 9007199254740992 < (N : Int)
          · have HF : Hid (R (.returned (.tuple #[.agg #[.int .i64 0, .string ⟨#[]⟩, .int .i64 0, .int .i64 0], .int .i64 0, .int .i64 3])) (w.alloc (.cells #[.int .i64 0, .string ⟨#[]⟩, .int .i64 0, .int .i64 0] 42))) := Lib.hid (by
              rw [HR.out]
              refine ⟨?_, HK.out⟩
              rw [tok_digit (by rw [← HC.out]; exact HDG.out), ← HE.out, if_pos (HVB.out (by omega))]; rfl)
            go_wp2_with fail
            exact bodyPost_ret (by simp [results, Tryd.results38, go_sem]) rfl (HF.out)
          · have hsm : (N : Int) ≤ 9007199254740992 := by omega
            have HF : Hid (R (.returned (.tuple #[.agg #[.int .i64 2, .string ⟨#[]⟩, .int .i64 (N : Nat), .int .i64 (i : Nat)], .int .i64 (k : Nat), .int .i64 0])) (w.alloc (.cells #[.int .i64 2, .string ⟨#[]⟩, .int .i64 (N : Nat), .int .i64 (i : Nat)] 42))) := Lib.hid (by
              rw [HR.out]
              refine ⟨?_, HKA.out _⟩
              have hv := HVS.out (by omega)
              rw [tok_digit (by rw [← HC.out]; exact HDG.out), ← HE.out, if_neg (by omega), ← hv]; rfl)
            clear hbig
            go_wp2_with fail
            exact bodyPost_ret (by simp [results, Tryd.results38, go_sem]) rfl (HF.out)
      · have j1 : (d : Int) < 48 := by omega
        have j3 : decide ((48 : Int) ≤ (d : Int)) = false := by simp; omega
        have hdg : digit d = false := by simp [digit, h1]
        have HE : Hid (k = spn digit l i) := Lib.hid (by rw [← HSP.out, spn_no (by rw [← HD.out]; exact hdg) HKL.out])
        clear h1 hdg hNb
        by_cases hbig : 9007199254740992 < (N : Int)
        · have HF : Hid (R (.returned (.tuple #[.agg #[.int .i64 0, .string ⟨#[]⟩, .int .i64 0, .int .i64 0], .int .i64 0, .int .i64 3])) (w.alloc (.cells #[.int .i64 0, .string ⟨#[]⟩, .int .i64 0, .int .i64 0] 42))) := Lib.hid (by
            rw [HR.out]
            refine ⟨?_, HK.out⟩
            rw [tok_digit (by rw [← HC.out]; exact HDG.out), ← HE.out, if_pos (HVB.out (by omega))]; rfl)
          go_wp2_with fail
          exact bodyPost_ret (by simp [results, Tryd.results38, go_sem]) rfl (HF.out)
        · have hsm : (N : Int) ≤ 9007199254740992 := by omega
          have HF : Hid (R (.returned (.tuple #[.agg #[.int .i64 2, .string ⟨#[]⟩, .int .i64 (N : Nat), .int .i64 (i : Nat)], .int .i64 (k : Nat), .int .i64 0])) (w.alloc (.cells #[.int .i64 2, .string ⟨#[]⟩, .int .i64 (N : Nat), .int .i64 (i : Nat)] 42))) := Lib.hid (by
            rw [HR.out]
            refine ⟨?_, HKA.out _⟩
            have hv := HVS.out (by omega)
            rw [tok_digit (by rw [← HC.out]; exact HDG.out), ← HE.out, if_neg (by omega), ← hv]; rfl)
          clear hbig
          go_wp2_with fail
          exact bodyPost_ret (by simp [results, Tryd.results38, go_sem]) rfl (HF.out)
    · have HE : Hid (k = spn digit l i) := Lib.hid (by rw [← HSP.out, spn_end (by have := HN.out; omega)])
      clear hNb
      by_cases hbig : 9007199254740992 < (N : Int)
      · have HF : Hid (R (.returned (.tuple #[.agg #[.int .i64 0, .string ⟨#[]⟩, .int .i64 0, .int .i64 0], .int .i64 0, .int .i64 3])) (w.alloc (.cells #[.int .i64 0, .string ⟨#[]⟩, .int .i64 0, .int .i64 0] 42))) := Lib.hid (by
          rw [HR.out]
          refine ⟨?_, HK.out⟩
          rw [tok_digit (by rw [← HC.out]; exact HDG.out), ← HE.out, if_pos (HVB.out (by omega))]; rfl)
        go_wp2_with fail
        exact bodyPost_ret (by simp [results, Tryd.results38, go_sem]) rfl (HF.out)
      · have hsm : (N : Int) ≤ 9007199254740992 := by omega
        have HF : Hid (R (.returned (.tuple #[.agg #[.int .i64 2, .string ⟨#[]⟩, .int .i64 (N : Nat), .int .i64 (i : Nat)], .int .i64 (k : Nat), .int .i64 0])) (w.alloc (.cells #[.int .i64 2, .string ⟨#[]⟩, .int .i64 (N : Nat), .int .i64 (i : Nat)] 42))) := Lib.hid (by
          rw [HR.out]
          refine ⟨?_, HKA.out _⟩
          have hv := HVS.out (by omega)
          rw [tok_digit (by rw [← HC.out]; exact HDG.out), ← HE.out, if_neg (by omega), ← hv]; rfl)
        clear hbig
        go_wp2_with fail
        exact bodyPost_ret (by simp [results, Tryd.results38, go_sem]) rfl (HF.out)
theorem tok_text {l : List Nat} {i k : Nat} (h : at' l i = 34) (hk : k = spn txt l (i + 1)) : tok l i = if k = l.length ∨ at' l k ≠ 34 then (Tok.zero, 0, 9) else ((3, sub l (i + 1) k, 0, i), k + 1, 0) := by
  unfold tok
  rw [if_neg (by rw [h]; decide), if_neg (by rw [h]; decide), if_pos h, ← hk]
set_option maxRecDepth 100000 in
set_option maxHeartbeats 4000000 in
theorem rtok_text {l : List Nat} (hl : Lt l) (hlen : l.length ≤ 16384) {i : Nat} (hi : i < l.length) (hQ : at' l i = 34) (w : World) :
    Calls Tryd.prog 38 #[.string (st l), .int .i64 (i : Nat)] w (TokA (tok l i) w) := by
  obtain ⟨n, hn⟩ : ∃ n, n = l.length := ⟨_, rfl⟩
  have HN := Lib.hid hn
  have qs : ∀ w, (Builtin.len_ #[9] 3 #[.string (st l)]).run Tryd.prog w = .ok (goInt n) w := fun w => by rw [hn]; exact len w
  have HI := Lib.hid hi
  have hni : (i : Int) < (n : Int) := by omega
  have hn16 : (n : Int) ≤ 16384 := by omega
  have hx0 : ∀ w, (Instr.index 9 (.string (st l)) (.int .i64 (i : Int))).run Tryd.prog w = .ok (.int .u8 (at' l i : Nat)) w := fun w => idx hl hi w
  have HK := Lib.hid (kp_alloc w (.cells #[.int .i64 0, .string ⟨#[]⟩, .int .i64 0, .int .i64 0] 42))
  have HKA : Hid (∀ cs, Kp w (w.alloc (.cells cs 42))) := Lib.hid (fun cs => kp_alloc w _)
  obtain ⟨c, hc⟩ : ∃ c, c = at' l i := ⟨_, rfl⟩
  have HC := Lib.hid hc
  rw [← hc] at hx0
  obtain ⟨R, hR⟩ : ∃ R, R = TokA (tok l i) w := ⟨_, rfl⟩
  obtain ⟨S, hS⟩ : ∃ S, S = st l := ⟨_, rfl⟩
  have HS := Lib.hid hS; have HL := Lib.hid hl
  rw [← hS] at qs hx0
  rw [← hc] at hQ
  have HQ := Lib.hid hQ
  have HLT : Hid (letter c = false) := Lib.hid (by rw [hQ]; decide)
  have i1 : (c : Int) < 48 := by omega
  have i3 : decide ((48 : Int) ≤ (c : Int)) = false := by simp; omega
  have i2 : ((c : Int) == 34) = true := beq_iff_eq.2 (by omega)
  rw [← hR, ← hS]
  have HR := Lib.hid hR
  clear hn hc hR hS hl hi hlen hQ
  go_enter Tryd.func38, Tryd.ntmps38
  go_wp2_with fail
  refine (letter_any c _).mono ?_
  rintro e w' ⟨rfl, rfl⟩
  rw [HLT.out]
  go_wp2_with fail
  clear hx0 i1 i2 i3
  go_loop [5] (fun v => ∃ k : Nat, v = .int .i64 k ∧ i + 1 ≤ k ∧ k ≤ n ∧ spn txt l k = spn txt l (i + 1)) (fun v => n - (intOf v).toNat)
  case atStart => exact ⟨i + 1, by go_num, Nat.le_refl _, by omega, rfl⟩
  case round =>
    obtain ⟨k, rfl, hik, hk, hsp⟩ := hrel
    have HSP := Lib.hid hsp; have HIK := Lib.hid hik
    have hik2 : (i : Int) + 1 ≤ (k : Int) := by omega
    clear hsp hik
    by_cases hkn : k < n
    · have hknb : ((k : Int) == (n : Int)) = false := beq_eq_false_iff_ne.2 (by omega)
      have hx : ∀ w, (Instr.index 9 (.string S) (.int .i64 (k : Int))).run Tryd.prog w = .ok (.int .u8 (at' l k : Nat)) w := fun w => by rw [HS.out]; exact idx HL.out (by have := HN.out; omega) w
      have HKL : Hid (k < l.length) := Lib.hid (by have := HN.out; omega)
      obtain ⟨d, hd⟩ : ∃ d, d = at' l k := ⟨_, rfl⟩
      have HD := Lib.hid hd
      rw [← hd] at hx
      clear hd
      by_cases h1 : 32 ≤ d
      · have j1 : (32 : Int) ≤ (d : Int) := by omega
        by_cases h2 : d ≤ 126
        · have j2 : (d : Int) ≤ 126 := by omega
          by_cases h3 : d = 34
          · have j3 : ((d : Int) != 34) = false := by rw [h3]; rfl
            have j4 : ((d : Int) == 34) = true := by rw [h3]; rfl
            have HE : Hid (k = spn txt l (i + 1)) := Lib.hid (by rw [← HSP.out, spn_no (by rw [← HD.out, h3]; decide) HKL.out])
            have hcut : ∀ w, (Instr.slice 9 (.string S) (some (.int .i64 ((i : Int) + 1))) (some (.int .i64 (k : Int))) none).run Tryd.prog w = .ok (.string (st (sub l (i + 1) k))) w := fun w => by
              rw [HS.out]; exact cut (i := i + 1) (by have := HIK.out; omega) (by have := HN.out; omega) w
            have HF : Hid (R (.returned (.tuple #[.agg #[.int .i64 3, .string (st (sub l (i + 1) k)), .int .i64 0, .int .i64 (i : Nat)], .int .i64 ((k : Int) + 1), .int .i64 0])) (w.alloc (.cells #[.int .i64 3, .string (st (sub l (i + 1) k)), .int .i64 0, .int .i64 (i : Nat)] 42))) := Lib.hid (by
              rw [HR.out]
              refine ⟨?_, HKA.out _⟩
              have hk2 := HKL.out
              rw [tok_text (by rw [← HC.out]; exact HQ.out) HE.out, if_neg (by rw [← HD.out]; omega)]; rfl)
            obtain ⟨X, hX⟩ : ∃ X, X = st (sub l (i + 1) k) := ⟨_, rfl⟩
            rw [← hX] at hcut HF
            clear hX h1 h2 h3
            go_wp2_with fail
            exact bodyPost_ret (by simp [results, Tryd.results38, go_sem]) rfl (HF.out)
          · have j3 : ((d : Int) != 34) = true := by rw [bne_iff_ne]; omega
            have j4 : ((d : Int) == 34) = false := beq_eq_false_iff_ne.2 (by omega)
            have HST : Hid (spn txt l (k + 1) = spn txt l (i + 1)) := Lib.hid (by rw [← HSP.out]; exact (spn_step HKL.out (by rw [← HD.out]; simp [txt, h1, h2, h3])).symm)
            clear h1 h2 h3
            go_wp2_with fail
            go_round
            case rel => exact ⟨k + 1, by go_num, by have := HIK.out; omega, by omega, HST.out⟩
            case measure => simp [intOf]; omega
        · have j2 : (126 : Int) < (d : Int) := by omega
          have j5 : decide ((d : Int) ≤ 126) = false := by simp; omega
          have j3 : ((d : Int) != 34) = true := by rw [bne_iff_ne]; omega
          have j4 : ((d : Int) == 34) = false := beq_eq_false_iff_ne.2 (by omega)
          have HE : Hid (k = spn txt l (i + 1)) := Lib.hid (by rw [← HSP.out, spn_no (by rw [← HD.out]; simp [txt, h2]) HKL.out])
          have HD34 : Hid (d ≠ 34) := Lib.hid (by omega)
          have HF : Hid (R (.returned (.tuple #[.agg #[.int .i64 0, .string ⟨#[]⟩, .int .i64 0, .int .i64 0], .int .i64 0, .int .i64 9])) (w.alloc (.cells #[.int .i64 0, .string ⟨#[]⟩, .int .i64 0, .int .i64 0] 42))) := Lib.hid (by
            rw [HR.out]
            refine ⟨?_, HK.out⟩
            rw [tok_text (by rw [← HC.out]; exact HQ.out) HE.out, if_pos (.inr (by rw [← HD.out]; exact HD34.out))]; rfl)
          clear h1 h2
          go_wp2_with fail
          exact bodyPost_ret (by simp [results, Tryd.results38, go_sem]) rfl (HF.out)
      · have j1 : (d : Int) < 32 := by omega
        have j5 : decide ((32 : Int) ≤ (d : Int)) = false := by simp; omega
        have j3 : ((d : Int) != 34) = true := by rw [bne_iff_ne]; omega
        have j4 : ((d : Int) == 34) = false := beq_eq_false_iff_ne.2 (by omega)
        have HE : Hid (k = spn txt l (i + 1)) := Lib.hid (by rw [← HSP.out, spn_no (by rw [← HD.out]; simp [txt, h1]) HKL.out])
        have HD34 : Hid (d ≠ 34) := Lib.hid (by omega)
        have HF : Hid (R (.returned (.tuple #[.agg #[.int .i64 0, .string ⟨#[]⟩, .int .i64 0, .int .i64 0], .int .i64 0, .int .i64 9])) (w.alloc (.cells #[.int .i64 0, .string ⟨#[]⟩, .int .i64 0, .int .i64 0] 42))) := Lib.hid (by
          rw [HR.out]
          refine ⟨?_, HK.out⟩
          rw [tok_text (by rw [← HC.out]; exact HQ.out) HE.out, if_pos (.inr (by rw [← HD.out]; exact HD34.out))]; rfl)
        clear h1
        go_wp2_with fail
        exact bodyPost_ret (by simp [results, Tryd.results38, go_sem]) rfl (HF.out)
    · have hknb : ((k : Int) == (n : Int)) = true := beq_iff_eq.2 (by omega)
      have HE : Hid (k = spn txt l (i + 1)) := Lib.hid (by rw [← HSP.out, spn_end (by have := HN.out; omega)])
      have HKN : Hid (k = l.length) := Lib.hid (by have := HN.out; omega)
      have HF : Hid (R (.returned (.tuple #[.agg #[.int .i64 0, .string ⟨#[]⟩, .int .i64 0, .int .i64 0], .int .i64 0, .int .i64 9])) (w.alloc (.cells #[.int .i64 0, .string ⟨#[]⟩, .int .i64 0, .int .i64 0] 42))) := Lib.hid (by
        rw [HR.out]
        refine ⟨?_, HK.out⟩
        rw [tok_text (by rw [← HC.out]; exact HQ.out) HE.out, if_pos (.inl HKN.out)]; rfl)
      go_wp2_with fail
      exact bodyPost_ret (by simp [results, Tryd.results38, go_sem]) rfl (HF.out)
theorem tok_other {l : List Nat} {i : Nat} (h1 : letter (at' l i) = false) (h2 : digit (at' l i) = false) (h3 : at' l i ≠ 34) : tok l i = if at' l i = 61 ∧ i + 1 < l.length ∧ at' l (i + 1) = 61 then ((4, [61, 61], 0, i), i + 2, 0) else if sgn (at' l i) = true then ((4, [at' l i], 0, i), i + 1, 0) else (Tok.zero, 0, 9) := by
  unfold tok
  rw [if_neg (by simp [h1]), if_neg (by simp [h2]), if_neg h3]
set_option maxRecDepth 100000 in
set_option maxHeartbeats 4000000 in
theorem rtok_two {l : List Nat} (hl : Lt l) (hlen : l.length ≤ 16384) {i : Nat} (hi : i < l.length) (h1 : letter (at' l i) = false) (h2 : digit (at' l i) = false) (h3 : at' l i ≠ 34) (h4 : at' l i = 61 ∧ i + 1 < l.length ∧ at' l (i + 1) = 61) (w : World) :
    Calls Tryd.prog 38 #[.string (st l), .int .i64 (i : Nat)] w (TokA (tok l i) w) := by
  obtain ⟨n, hn⟩ : ∃ n, n = l.length := ⟨_, rfl⟩
  have HN := Lib.hid hn
  have qs : ∀ w, (Builtin.len_ #[9] 3 #[.string (st l)]).run Tryd.prog w = .ok (goInt n) w := fun w => by rw [hn]; exact len w
  have HI := Lib.hid hi
  have hni : (i : Int) < (n : Int) := by omega
  have hn16 : (n : Int) ≤ 16384 := by omega
  have hx0 : ∀ w, (Instr.index 9 (.string (st l)) (.int .i64 (i : Int))).run Tryd.prog w = .ok (.int .u8 (at' l i : Nat)) w := fun w => idx hl hi w
  have HK := Lib.hid (kp_alloc w (.cells #[.int .i64 0, .string ⟨#[]⟩, .int .i64 0, .int .i64 0] 42))
  have HKA : Hid (∀ cs, Kp w (w.alloc (.cells cs 42))) := Lib.hid (fun cs => kp_alloc w _)
  obtain ⟨c, hc⟩ : ∃ c, c = at' l i := ⟨_, rfl⟩
  have HC := Lib.hid hc
  rw [← hc] at hx0
  obtain ⟨R, hR⟩ : ∃ R, R = TokA (tok l i) w := ⟨_, rfl⟩
  obtain ⟨S, hS⟩ : ∃ S, S = st l := ⟨_, rfl⟩
  have HS := Lib.hid hS; have HL := Lib.hid hl
  rw [← hS] at qs hx0
  have ht0 := tok_other h1 h2 h3
  rw [← hc] at h1 h2 h3 ht0
  have HLT := Lib.hid h1
  have hq : ((c : Int) == 34) = false := beq_eq_false_iff_ne.2 (by omega)
  have hdg : c < 48 ∨ 57 < c := by
    rcases Nat.lt_or_ge c 48 with h | h
    · exact .inl h
    · right
      rcases Nat.lt_or_ge 57 c with h4 | h4
      · exact h4
      · simp [digit, h, h4] at h2
  rw [← hc] at h4
  have HF : Hid (R (.returned (.tuple #[.agg #[.int .i64 4, .string ⟨#[61, 61]⟩, .int .i64 0, .int .i64 (i : Nat)], .int .i64 ((i : Int) + 2), .int .i64 0])) (w.alloc (.cells #[.int .i64 4, .string ⟨#[61, 61]⟩, .int .i64 0, .int .i64 (i : Nat)] 42))) := Lib.hid (by
    rw [hR]
    refine ⟨?_, HKA.out _⟩
    rw [ht0, if_pos h4]; rfl)
  have b61 : ((c : Int) == 61) = true := beq_iff_eq.2 (by omega)
  have hin : (i : Int) + 1 < (n : Int) := by omega
  have hx1 : ∀ w, (Instr.index 9 (.string S) (.int .i64 ((i : Int) + 1))).run Tryd.prog w = .ok (.int .u8 61) w := fun w => by
    have h := idx hl (i := i + 1) h4.2.1 w
    rw [h4.2.2] at h
    rw [hS]; exact h
  rw [← hR, ← hS]
  have HR := Lib.hid hR
  rcases hdg with hdg | hdg
  · have i1 : (c : Int) < 48 := by omega
    have i2 : decide ((48 : Int) ≤ (c : Int)) = false := by simp; omega
    clear hn hc hR hS hl hi hlen h1 h2 h3 hdg ht0 h4
    go_enter Tryd.func38, Tryd.ntmps38
    go_wp2_with fail
    refine (letter_any c _).mono ?_
    rintro e w' ⟨rfl, rfl⟩
    rw [HLT.out]
    go_wp2_with fail
    exact bodyPost_ret (by simp [results, Tryd.results38, go_sem]) rfl (HF.out)
  · have i1 : (57 : Int) < (c : Int) := by omega
    have i0 : (48 : Int) ≤ (c : Int) := by omega
    have i2 : decide ((c : Int) ≤ 57) = false := by simp; omega
    clear hn hc hR hS hl hi hlen h1 h2 h3 hdg ht0 h4
    go_enter Tryd.func38, Tryd.ntmps38
    go_wp2_with fail
    refine (letter_any c _).mono ?_
    rintro e w' ⟨rfl, rfl⟩
    rw [HLT.out]
    go_wp2_with fail
    exact bodyPost_ret (by simp [results, Tryd.results38, go_sem]) rfl (HF.out)
set_option maxRecDepth 100000 in
set_option maxHeartbeats 4000000 in
theorem rtok_one {l : List Nat} (hl : Lt l) (hlen : l.length ≤ 16384) {i : Nat} (hi : i < l.length) (h1 : letter (at' l i) = false) (h2 : digit (at' l i) = false) (h3 : at' l i ≠ 34) (h4 : ¬ (at' l i = 61 ∧ i + 1 < l.length ∧ at' l (i + 1) = 61)) (w : World) :
    Calls Tryd.prog 38 #[.string (st l), .int .i64 (i : Nat)] w (TokA (tok l i) w) := by
  obtain ⟨n, hn⟩ : ∃ n, n = l.length := ⟨_, rfl⟩
  have HN := Lib.hid hn
  have qs : ∀ w, (Builtin.len_ #[9] 3 #[.string (st l)]).run Tryd.prog w = .ok (goInt n) w := fun w => by rw [hn]; exact len w
  have HI := Lib.hid hi
  have hni : (i : Int) < (n : Int) := by omega
  have hn16 : (n : Int) ≤ 16384 := by omega
  have hx0 : ∀ w, (Instr.index 9 (.string (st l)) (.int .i64 (i : Int))).run Tryd.prog w = .ok (.int .u8 (at' l i : Nat)) w := fun w => idx hl hi w
  have HK := Lib.hid (kp_alloc w (.cells #[.int .i64 0, .string ⟨#[]⟩, .int .i64 0, .int .i64 0] 42))
  have HKA : Hid (∀ cs, Kp w (w.alloc (.cells cs 42))) := Lib.hid (fun cs => kp_alloc w _)
  obtain ⟨c, hc⟩ : ∃ c, c = at' l i := ⟨_, rfl⟩
  have HC := Lib.hid hc
  rw [← hc] at hx0
  obtain ⟨R, hR⟩ : ∃ R, R = TokA (tok l i) w := ⟨_, rfl⟩
  obtain ⟨S, hS⟩ : ∃ S, S = st l := ⟨_, rfl⟩
  have HS := Lib.hid hS; have HL := Lib.hid hl
  rw [← hS] at qs hx0
  have ht0 := tok_other h1 h2 h3
  rw [← hc] at h1 h2 h3 ht0
  have HLT := Lib.hid h1
  have hq : ((c : Int) == 34) = false := beq_eq_false_iff_ne.2 (by omega)
  have hdg : c < 48 ∨ 57 < c := by
    rcases Nat.lt_or_ge c 48 with h | h
    · exact .inl h
    · right
      rcases Nat.lt_or_ge 57 c with h4 | h4
      · exact h4
      · simp [digit, h, h4] at h2
  rw [← hc] at h4
  rw [if_neg h4] at ht0
  obtain ⟨X, hX⟩ : ∃ X, X = st (sub l i (i + 1)) := ⟨_, rfl⟩
  have hcut : ∀ w, (Instr.slice 9 (.string S) (some (.int .i64 (i : Int))) (some (.int .i64 ((i : Int) + 1))) none).run Tryd.prog w = .ok (.string X) w := fun w => by rw [hS, hX]; exact cut (j := i + 1) (by omega) (by omega) w
  have HFS : Hid (sgn c = true → ∀ w', Kp w w' → R (.returned (.tuple #[.agg #[.int .i64 4, .string X, .int .i64 0, .int .i64 (i : Nat)], .int .i64 ((i : Int) + 1), .int .i64 0])) w') := Lib.hid (fun h w' hk => by
    rw [hR]
    refine ⟨?_, hk⟩
    rw [ht0, if_pos h, hX, sub_one hi, ← hc]; rfl)
  have HFN : Hid ((signs.take 11).contains c = false → ∀ w', Kp w w' → R (.returned (.tuple #[.agg #[.int .i64 0, .string ⟨#[]⟩, .int .i64 0, .int .i64 0], .int .i64 0, .int .i64 9])) w') := Lib.hid (fun h w' hk => by
    rw [hR]
    refine ⟨?_, hk⟩
    rw [ht0, if_neg (show ¬ sgn c = true by rw [show sgn c = (signs.take 11).contains c from rfl, h]; decide)]; rfl)
  obtain ⟨w1, hw1⟩ : ∃ w1, w1 = w.alloc (.cells #[.int .i64 0, .string ⟨#[]⟩, .int .i64 0, .int .i64 0] 42) := ⟨_, rfl⟩
  have hz1 : w1.heap.size = w.heap.size + 1 := by rw [hw1]; simp
  have hcv : (convert 43 43 (.slice (some ⟨w.heap.size + 1, 0, none⟩) 11 11)).run Tryd.prog ((w.alloc (.cells #[.int .i64 0, .string ⟨#[]⟩, .int .i64 0, .int .i64 0] 42)).alloc (.cells #[.int .u8 59, .int .u8 44, .int .u8 40, .int .u8 41, .int .u8 43, .int .u8 45, .int .u8 42, .int .u8 47, .int .u8 37, .int .u8 60, .int .u8 61] 5)) = .ok (.slice (some ⟨w.heap.size + 1, 0, none⟩) 11 11) ((w.alloc (.cells #[.int .i64 0, .string ⟨#[]⟩, .int .i64 0, .int .i64 0] 42)).alloc (.cells #[.int .u8 59, .int .u8 44, .int .u8 40, .int .u8 41, .int .u8 43, .int .u8 45, .int .u8 42, .int .u8 47, .int .u8 37, .int .u8 60, .int .u8 61] 5 (11, 12))) := by
    have h := Lib.run_convert_bytes_const w1 43 5 #[.int .u8 59, .int .u8 44, .int .u8 40, .int .u8 41, .int .u8 43, .int .u8 45, .int .u8 42, .int .u8 47, .int .u8 37, .int .u8 60, .int .u8 61] 11 11 Tryd.underlying43 Tryd.underlying5
    rw [hz1, hw1] at h
    exact h
  have HBT : Hid (Blk ((w.alloc (.cells #[.int .i64 0, .string ⟨#[]⟩, .int .i64 0, .int .i64 0] 42)).alloc (.cells #[.int .u8 59, .int .u8 44, .int .u8 40, .int .u8 41, .int .u8 43, .int .u8 45, .int .u8 42, .int .u8 47, .int .u8 37, .int .u8 60, .int .u8 61] 5 (11, 12))) w.heap.size 42 #[.int .i64 0, .string ⟨#[]⟩, .int .i64 0, .int .i64 0]) := Lib.hid ((Blk.new w _ _).keep (kp_alloc _ _))
  have HKT : Hid (Kp w ((w.alloc (.cells #[.int .i64 0, .string ⟨#[]⟩, .int .i64 0, .int .i64 0] 42)).alloc (.cells #[.int .u8 59, .int .u8 44, .int .u8 40, .int .u8 41, .int .u8 43, .int .u8 45, .int .u8 42, .int .u8 47, .int .u8 37, .int .u8 60, .int .u8 61] 5 (11, 12)))) := Lib.hid (Kp.trans HK.out (kp_alloc _ _))
  have HCS : Hid (∀ k, k < 11 → ((w.alloc (.cells #[.int .i64 0, .string ⟨#[]⟩, .int .i64 0, .int .i64 0] 42)).alloc (.cells #[.int .u8 59, .int .u8 44, .int .u8 40, .int .u8 41, .int .u8 43, .int .u8 45, .int .u8 42, .int .u8 47, .int .u8 37, .int .u8 60, .int .u8 61] 5 (11, 12))).cell? ⟨w.heap.size + 1, k, none⟩ = some (.int .u8 (at' signs k : Nat))) := Lib.hid (fun k hk => by
    rw [← hw1, ← hz1]
    refine (cell_of_row _ w1.heap.size k _ _ (11, 12) (heap_alloc_new w1 _)).trans ?_
    have key : ∀ k : Fin 11, (#[.int .u8 59, .int .u8 44, .int .u8 40, .int .u8 41, .int .u8 43, .int .u8 45, .int .u8 42, .int .u8 47, .int .u8 37, .int .u8 60, .int .u8 61] : Array Value)[k.val]? = some (.int .u8 (at' signs k.val : Nat)) := by
      intro k
      match k with
      | 0 => rfl
      | 1 => rfl
      | 2 => rfl
      | 3 => rfl
      | 4 => rfl
      | 5 => rfl
      | 6 => rfl
      | 7 => rfl
      | 8 => rfl
      | 9 => rfl
      | 10 => rfl
    exact key ⟨k, hk⟩)
  have hcase : c ≠ 61 ∨ (c = 61 ∧ ¬ i + 1 < n) ∨ (c = 61 ∧ i + 1 < n ∧ at' l (i + 1) ≠ 61) := by
    by_cases e1 : c = 61
    · by_cases e2 : i + 1 < n
      · exact .inr (.inr ⟨e1, e2, fun e3 => h4 ⟨e1, by rw [← hn]; exact e2, e3⟩⟩)
      · exact .inr (.inl ⟨e1, e2⟩)
    · exact .inl e1
  clear hw1 hz1 h4 hX
  rw [← hR, ← hS]
  have HR := Lib.hid hR
  rcases hcase with hcase | ⟨hcase, hge⟩ | ⟨hcase, hlt, hne⟩
  · rcases hdg with hdg | hdg
    · skip
      have i1 : (c : Int) < 48 := by omega
      have i2 : decide ((48 : Int) ≤ (c : Int)) = false := by simp; omega
      have b61 : ((c : Int) == 61) = false := beq_eq_false_iff_ne.2 (by omega)
      clear hcase
      clear hn hc hR hS hl hi hlen h1 h2 h3 hdg ht0
      go_enter Tryd.func38, Tryd.ntmps38
      go_wp2_with fail
      refine (letter_any c _).mono ?_
      rintro e w' ⟨rfl, rfl⟩
      rw [HLT.out]
      go_wp2_with fail
      clear hcv
      go_loop [158] (fun v => ∃ k : Nat, v = .int .i64 k ∧ k ≤ 11 ∧ (signs.take k).contains c = false) (fun v => 11 - (intOf v).toNat)
      case atStart => exact ⟨0, rfl, by omega, rfl⟩
      case round =>
        obtain ⟨k, rfl, hk, hnc⟩ := hrel
        have HNC := Lib.hid hnc
        clear hnc
        by_cases hk11 : k < 11
        · have hcc := HCS.out k hk11
          have hdb : at' signs k < 256 := by
            have key : ∀ k : Fin 11, at' signs k.val < 256 := by decide +kernel
            exact key ⟨k, hk11⟩
          have HTK : Hid (signs.take (k + 1) = signs.take k ++ [at' signs k]) := Lib.hid (by
            rw [List.take_succ_eq_append_getElem (show k < signs.length from hk11)]
            congr 2
            simp [at', show k < signs.length from hk11])
          have HMEM : Hid (at' signs k ∈ signs) := Lib.hid (by
            have key : ∀ k : Fin 11, at' signs k.val ∈ signs := by decide +kernel
            exact key ⟨k, hk11⟩)
          obtain ⟨d, hd⟩ : ∃ d, d = at' signs k := ⟨_, rfl⟩
          rw [← hd] at hcc hdb HTK HMEM
          clear hd
          by_cases hcd : c = d
          · have e1 : ((c : Int) == (d : Int)) = true := beq_iff_eq.2 (by omega)
            have HF : Hid (R (.returned (.tuple #[.agg #[.int .i64 4, .string X, .int .i64 0, .int .i64 (i : Nat)], .int .i64 ((i : Int) + 1), .int .i64 0])) ((w.alloc (.cells #[.int .i64 4, .string X, .int .i64 0, .int .i64 (i : Nat)] 42)).alloc (.cells #[.int .u8 59, .int .u8 44, .int .u8 40, .int .u8 41, .int .u8 43, .int .u8 45, .int .u8 42, .int .u8 47, .int .u8 37, .int .u8 60, .int .u8 61] 5 (11, 12)))) := Lib.hid (HFS.out (by
              have h := HMEM.out
              rw [← hcd] at h
              simp [sgn, h]) _ (Kp.trans (HKA.out _) (kp_alloc _ _)))
            clear hcd
            go_wp2_with fail
            exact bodyPost_ret (by simp [results, Tryd.results38, go_sem]) rfl (HF.out)
          · have e1 : ((c : Int) == (d : Int)) = false := beq_eq_false_iff_ne.2 (by omega)
            have HN2 : Hid ((signs.take (k + 1)).contains c = false) := Lib.hid (by
              rw [HTK.out]
              have h := HNC.out
              simp only [List.contains_eq_mem, List.mem_append, List.mem_singleton, decide_eq_false_iff_not] at h ⊢
              rintro (h5 | h5)
              · exact h h5
              · exact hcd h5)
            clear hcd
            go_wp2_with fail
            go_round
            case rel => exact ⟨k + 1, by go_num, by omega, HN2.out⟩
            case measure => simp [intOf]; omega
        · have HF := Lib.hid (HFN.out (by
            have h := HNC.out
            rw [show k = 11 by omega] at h
            exact h) _ HKT.out)
          go_wp2_with fail
          exact bodyPost_ret (by simp [results, Tryd.results38, go_sem]) rfl (HF.out)
    · skip
      have i1 : (57 : Int) < (c : Int) := by omega
      have i0 : (48 : Int) ≤ (c : Int) := by omega
      have i2 : decide ((c : Int) ≤ 57) = false := by simp; omega
      have b61 : ((c : Int) == 61) = false := beq_eq_false_iff_ne.2 (by omega)
      clear hcase
      clear hn hc hR hS hl hi hlen h1 h2 h3 hdg ht0
      go_enter Tryd.func38, Tryd.ntmps38
      go_wp2_with fail
      refine (letter_any c _).mono ?_
      rintro e w' ⟨rfl, rfl⟩
      rw [HLT.out]
      go_wp2_with fail
      clear hcv
      go_loop [158] (fun v => ∃ k : Nat, v = .int .i64 k ∧ k ≤ 11 ∧ (signs.take k).contains c = false) (fun v => 11 - (intOf v).toNat)
      case atStart => exact ⟨0, rfl, by omega, rfl⟩
      case round =>
        obtain ⟨k, rfl, hk, hnc⟩ := hrel
        have HNC := Lib.hid hnc
        clear hnc
        by_cases hk11 : k < 11
        · have hcc := HCS.out k hk11
          have hdb : at' signs k < 256 := by
            have key : ∀ k : Fin 11, at' signs k.val < 256 := by decide +kernel
            exact key ⟨k, hk11⟩
          have HTK : Hid (signs.take (k + 1) = signs.take k ++ [at' signs k]) := Lib.hid (by
            rw [List.take_succ_eq_append_getElem (show k < signs.length from hk11)]
            congr 2
            simp [at', show k < signs.length from hk11])
          have HMEM : Hid (at' signs k ∈ signs) := Lib.hid (by
            have key : ∀ k : Fin 11, at' signs k.val ∈ signs := by decide +kernel
            exact key ⟨k, hk11⟩)
          obtain ⟨d, hd⟩ : ∃ d, d = at' signs k := ⟨_, rfl⟩
          rw [← hd] at hcc hdb HTK HMEM
          clear hd
          by_cases hcd : c = d
          · have e1 : ((c : Int) == (d : Int)) = true := beq_iff_eq.2 (by omega)
            have HF : Hid (R (.returned (.tuple #[.agg #[.int .i64 4, .string X, .int .i64 0, .int .i64 (i : Nat)], .int .i64 ((i : Int) + 1), .int .i64 0])) ((w.alloc (.cells #[.int .i64 4, .string X, .int .i64 0, .int .i64 (i : Nat)] 42)).alloc (.cells #[.int .u8 59, .int .u8 44, .int .u8 40, .int .u8 41, .int .u8 43, .int .u8 45, .int .u8 42, .int .u8 47, .int .u8 37, .int .u8 60, .int .u8 61] 5 (11, 12)))) := Lib.hid (HFS.out (by
              have h := HMEM.out
              rw [← hcd] at h
              simp [sgn, h]) _ (Kp.trans (HKA.out _) (kp_alloc _ _)))
            clear hcd
            go_wp2_with fail
            exact bodyPost_ret (by simp [results, Tryd.results38, go_sem]) rfl (HF.out)
          · have e1 : ((c : Int) == (d : Int)) = false := beq_eq_false_iff_ne.2 (by omega)
            have HN2 : Hid ((signs.take (k + 1)).contains c = false) := Lib.hid (by
              rw [HTK.out]
              have h := HNC.out
              simp only [List.contains_eq_mem, List.mem_append, List.mem_singleton, decide_eq_false_iff_not] at h ⊢
              rintro (h5 | h5)
              · exact h h5
              · exact hcd h5)
            clear hcd
            go_wp2_with fail
            go_round
            case rel => exact ⟨k + 1, by go_num, by omega, HN2.out⟩
            case measure => simp [intOf]; omega
        · have HF := Lib.hid (HFN.out (by
            have h := HNC.out
            rw [show k = 11 by omega] at h
            exact h) _ HKT.out)
          go_wp2_with fail
          exact bodyPost_ret (by simp [results, Tryd.results38, go_sem]) rfl (HF.out)
  · subst hcase
    have hge2 : (n : Int) ≤ (i : Int) + 1 := by omega
    have hge3 : decide ((i : Int) + 1 < (n : Int)) = false := by simp; omega
    clear hge hq
    clear hn hc hR hS hl hi hlen h1 h2 h3 hdg ht0
    go_enter Tryd.func38, Tryd.ntmps38
    go_wp2_with fail
    refine (letter_any 61 _).mono ?_
    rintro e w' ⟨rfl, rfl⟩
    rw [HLT.out]
    go_wp2_with fail
    clear hcv
    go_loop [158] (fun v => ∃ k : Nat, v = .int .i64 k ∧ k ≤ 11 ∧ (signs.take k).contains 61 = false) (fun v => 11 - (intOf v).toNat)
    case atStart => exact ⟨0, rfl, by omega, rfl⟩
    case round =>
      obtain ⟨k, rfl, hk, hnc⟩ := hrel
      have HNC := Lib.hid hnc
      clear hnc
      by_cases hk11 : k < 11
      · have hcc := HCS.out k hk11
        have hdb : at' signs k < 256 := by
          have key : ∀ k : Fin 11, at' signs k.val < 256 := by decide +kernel
          exact key ⟨k, hk11⟩
        have HTK : Hid (signs.take (k + 1) = signs.take k ++ [at' signs k]) := Lib.hid (by
          rw [List.take_succ_eq_append_getElem (show k < signs.length from hk11)]
          congr 2
          simp [at', show k < signs.length from hk11])
        have HMEM : Hid (at' signs k ∈ signs) := Lib.hid (by
          have key : ∀ k : Fin 11, at' signs k.val ∈ signs := by decide +kernel
          exact key ⟨k, hk11⟩)
        obtain ⟨d, hd⟩ : ∃ d, d = at' signs k := ⟨_, rfl⟩
        rw [← hd] at hcc hdb HTK HMEM
        clear hd
        by_cases hcd : 61 = d
        · have e1 : ((61 : Int) == (d : Int)) = true := beq_iff_eq.2 (by omega)
          have HF : Hid (R (.returned (.tuple #[.agg #[.int .i64 4, .string X, .int .i64 0, .int .i64 (i : Nat)], .int .i64 ((i : Int) + 1), .int .i64 0])) ((w.alloc (.cells #[.int .i64 4, .string X, .int .i64 0, .int .i64 (i : Nat)] 42)).alloc (.cells #[.int .u8 59, .int .u8 44, .int .u8 40, .int .u8 41, .int .u8 43, .int .u8 45, .int .u8 42, .int .u8 47, .int .u8 37, .int .u8 60, .int .u8 61] 5 (11, 12)))) := Lib.hid (HFS.out (by
            have h := HMEM.out
            rw [← hcd] at h
            simp [sgn, h]) _ (Kp.trans (HKA.out _) (kp_alloc _ _)))
          clear hcd
          go_wp2_with fail
          exact bodyPost_ret (by simp [results, Tryd.results38, go_sem]) rfl (HF.out)
        · have e1 : ((61 : Int) == (d : Int)) = false := beq_eq_false_iff_ne.2 (by omega)
          have HN2 : Hid ((signs.take (k + 1)).contains 61 = false) := Lib.hid (by
            rw [HTK.out]
            have h := HNC.out
            simp only [List.contains_eq_mem, List.mem_append, List.mem_singleton, decide_eq_false_iff_not] at h ⊢
            rintro (h5 | h5)
            · exact h h5
            · exact hcd h5)
          clear hcd
          go_wp2_with fail
          go_round
          case rel => exact ⟨k + 1, by go_num, by omega, HN2.out⟩
          case measure => simp [intOf]; omega
      · have HF := Lib.hid (HFN.out (by
          have h := HNC.out
          rw [show k = 11 by omega] at h
          exact h) _ HKT.out)
        go_wp2_with fail
        exact bodyPost_ret (by simp [results, Tryd.results38, go_sem]) rfl (HF.out)
  · subst hcase
    have hlt2 : (i : Int) + 1 < (n : Int) := by omega
    have hx1 : ∀ w, (Instr.index 9 (.string S) (.int .i64 ((i : Int) + 1))).run Tryd.prog w = .ok (.int .u8 (at' l (i + 1) : Nat)) w := fun w => by rw [hS]; exact idx hl (i := i + 1) (by omega) w
    obtain ⟨d2, hd2⟩ : ∃ d2, d2 = at' l (i + 1) := ⟨_, rfl⟩
    rw [← hd2] at hx1 hne
    have b2 : ((d2 : Int) == 61) = false := beq_eq_false_iff_ne.2 (by omega)
    clear hlt hne hd2 hq
    clear hn hc hR hS hl hi hlen h1 h2 h3 hdg ht0
    go_enter Tryd.func38, Tryd.ntmps38
    go_wp2_with fail
    refine (letter_any 61 _).mono ?_
    rintro e w' ⟨rfl, rfl⟩
    rw [HLT.out]
    go_wp2_with fail
    clear hcv
    go_loop [158] (fun v => ∃ k : Nat, v = .int .i64 k ∧ k ≤ 11 ∧ (signs.take k).contains 61 = false) (fun v => 11 - (intOf v).toNat)
    case atStart => exact ⟨0, rfl, by omega, rfl⟩
    case round =>
      obtain ⟨k, rfl, hk, hnc⟩ := hrel
      have HNC := Lib.hid hnc
      clear hnc
      by_cases hk11 : k < 11
      · have hcc := HCS.out k hk11
        have hdb : at' signs k < 256 := by
          have key : ∀ k : Fin 11, at' signs k.val < 256 := by decide +kernel
          exact key ⟨k, hk11⟩
        have HTK : Hid (signs.take (k + 1) = signs.take k ++ [at' signs k]) := Lib.hid (by
          rw [List.take_succ_eq_append_getElem (show k < signs.length from hk11)]
          congr 2
          simp [at', show k < signs.length from hk11])
        have HMEM : Hid (at' signs k ∈ signs) := Lib.hid (by
          have key : ∀ k : Fin 11, at' signs k.val ∈ signs := by decide +kernel
          exact key ⟨k, hk11⟩)
        obtain ⟨d, hd⟩ : ∃ d, d = at' signs k := ⟨_, rfl⟩
        rw [← hd] at hcc hdb HTK HMEM
        clear hd
        by_cases hcd : 61 = d
        · have e1 : ((61 : Int) == (d : Int)) = true := beq_iff_eq.2 (by omega)
          have HF : Hid (R (.returned (.tuple #[.agg #[.int .i64 4, .string X, .int .i64 0, .int .i64 (i : Nat)], .int .i64 ((i : Int) + 1), .int .i64 0])) ((w.alloc (.cells #[.int .i64 4, .string X, .int .i64 0, .int .i64 (i : Nat)] 42)).alloc (.cells #[.int .u8 59, .int .u8 44, .int .u8 40, .int .u8 41, .int .u8 43, .int .u8 45, .int .u8 42, .int .u8 47, .int .u8 37, .int .u8 60, .int .u8 61] 5 (11, 12)))) := Lib.hid (HFS.out (by
            have h := HMEM.out
            rw [← hcd] at h
            simp [sgn, h]) _ (Kp.trans (HKA.out _) (kp_alloc _ _)))
          clear hcd
          go_wp2_with fail
          exact bodyPost_ret (by simp [results, Tryd.results38, go_sem]) rfl (HF.out)
        · have e1 : ((61 : Int) == (d : Int)) = false := beq_eq_false_iff_ne.2 (by omega)
          have HN2 : Hid ((signs.take (k + 1)).contains 61 = false) := Lib.hid (by
            rw [HTK.out]
            have h := HNC.out
            simp only [List.contains_eq_mem, List.mem_append, List.mem_singleton, decide_eq_false_iff_not] at h ⊢
            rintro (h5 | h5)
            · exact h h5
            · exact hcd h5)
          clear hcd
          go_wp2_with fail
          go_round
          case rel => exact ⟨k + 1, by go_num, by omega, HN2.out⟩
          case measure => simp [intOf]; omega
      · have HF := Lib.hid (HFN.out (by
          have h := HNC.out
          rw [show k = 11 by omega] at h
          exact h) _ HKT.out)
        go_wp2_with fail
        exact bodyPost_ret (by simp [results, Tryd.results38, go_sem]) rfl (HF.out)
theorem rtoken_any {l : List Nat} (hl : Lt l) (hlen : l.length ≤ 16384) {i : Nat} (hi : i < l.length) (w : World) :
    Calls Tryd.prog 38 #[.string (st l), .int .i64 (i : Nat)] w (TokA (tok l i) w) := by
  by_cases h1 : letter (at' l i) = true
  · exact rtok_letter hl hlen hi h1 w
  · have h1 : letter (at' l i) = false := by simpa using h1
    by_cases h2 : digit (at' l i) = true
    · exact rtok_digit hl hlen hi h2 w
    · have h2 : digit (at' l i) = false := by simpa using h2
      by_cases h3 : at' l i = 34
      · exact rtok_text hl hlen hi h3 w
      · by_cases h4 : at' l i = 61 ∧ i + 1 < l.length ∧ at' l (i + 1) = 61
        · exact rtok_two hl hlen hi h1 h2 h3 h4 w
        · exact rtok_one hl hlen hi h1 h2 h3 h4 w
end By
end Go.Proofs.YtifhbbjalodplaaDoor

