/- The reference's skip: the place of the next byte that is not blank and begins no comment. Condition: the string has at most 16384 bytes. -/
import Derived.Test.YtifhbbjalodplaaDoorLAwake
namespace Go.Proofs.YtifhbbjalodplaaDoor
namespace By
open Go.RowKit WireN LexN
set_option linter.unusedVariables false
set_option linter.unusedSimpArgs false

def SkipR (l : List Nat) (i : Nat) (w : World) (e : Ending) (w' : World) : Prop := ∃ q : Nat, e = .returned (.int .i64 q) ∧ i ≤ q ∧ q ≤ l.length ∧ lex l q = lex l i ∧ (q < l.length → LexN.blank (at' l q) = false ∧ at' l q ≠ 35) ∧ w = w'
theorem blank_of {c : Nat} (h : c = 32 ∨ c = 9 ∨ c = 10 ∨ c = 13) : LexN.blank c = true := by
  rcases h with rfl | rfl | rfl | rfl <;> decide
theorem blank_not {c : Nat} (h1 : c ≠ 32) (h2 : c ≠ 9) (h3 : c ≠ 10) (h4 : c ≠ 13) : LexN.blank c = false := by
  simp [LexN.blank, h1, h2, h3, h4]
set_option maxRecDepth 100000 in
set_option maxHeartbeats 2000000 in
theorem skip_any {l : List Nat} (hl : Lt l) (hlen : l.length ≤ 16384) {i : Nat} (hi : i ≤ l.length) (w : World) :
    Calls Tryd.prog 37 #[.string (st l), .int .i64 (i : Nat)] w (SkipR l i w) := by
  obtain ⟨n, hn⟩ : ∃ n, n = l.length := ⟨_, rfl⟩
  have HN := Lib.hid hn
  have qs : ∀ w, (Builtin.len_ #[9] 3 #[.string (st l)]).run Tryd.prog w = .ok (goInt n) w := fun w => by rw [hn]; exact len w
  rw [← hn] at hlen hi
  have HI := Lib.hid hi
  have FIN : Hid (∀ q : Nat, i ≤ q → q ≤ n → lex l q = lex l i → (q < n → LexN.blank (at' l q) = false ∧ at' l q ≠ 35) → SkipR l i w (.returned (.int .i64 q)) w) := Lib.hid (fun q h1 h2 h3 h4 => ⟨q, rfl, h1, by rw [← hn]; exact h2, h3, by rw [← hn]; exact h4, rfl⟩)
  obtain ⟨R, hR⟩ : ∃ R, R = SkipR l i w := ⟨_, rfl⟩
  obtain ⟨S, hS⟩ : ∃ S, S = st l := ⟨_, rfl⟩
  have HS := Lib.hid hS; have HL := Lib.hid hl
  rw [← hR] at FIN ⊢
  rw [← hS] at qs ⊢
  clear hn hR hS hl
  go_enter Tryd.func37, Tryd.ntmps37
  go_wp2_with fail
  go_loop [1] (fun v => ∃ k : Nat, v = .int .i64 k ∧ i ≤ k ∧ k ≤ n ∧ lex l k = lex l i) (fun v => n - (intOf v).toNat)
  case atStart => exact ⟨i, rfl, Nat.le_refl _, HI.out, rfl⟩
  case round =>
    obtain ⟨k, rfl, hik, hk, hlex⟩ := hrel
    have HLEX := Lib.hid hlex; have HIK := Lib.hid hik
    clear hlex hik
    by_cases hkn : k < n
    · have hx : ∀ w, (Instr.index 9 (.string S) (.int .i64 (k : Int))).run Tryd.prog w = .ok (.int .u8 (at' l k : Nat)) w := fun w => by rw [HS.out]; exact idx HL.out (by have := HN.out; omega) w
      have HKL : Hid (k < l.length) := Lib.hid (by have := HN.out; omega)
      obtain ⟨c, hc⟩ : ∃ c, c = at' l k := ⟨_, rfl⟩
      have HC := Lib.hid hc
      rw [← hc] at hx
      clear hc
      by_cases h32 : c = 32
      · have HB : Hid (lex l (k + 1) = lex l i) := Lib.hid (by rw [← HLEX.out]; exact (lex_blank HKL.out (by rw [← HC.out]; exact blank_of (by omega))).symm)
        have b32 : ((c : Int) == 32) = true := beq_iff_eq.2 (by omega)
        clear h32
        go_wp2_with fail
        go_round
        case rel => exact ⟨k + 1, by go_num, by have := HIK.out; omega, by omega, HB.out⟩
        case measure => simp [intOf]; omega
      · skip
        by_cases h9 : c = 9
        · have HB : Hid (lex l (k + 1) = lex l i) := Lib.hid (by rw [← HLEX.out]; exact (lex_blank HKL.out (by rw [← HC.out]; exact blank_of (by omega))).symm)
          have b32 : ((c : Int) == 32) = false := beq_eq_false_iff_ne.2 (by omega)
          have b9 : ((c : Int) == 9) = true := beq_iff_eq.2 (by omega)
          clear h32 h9
          go_wp2_with fail
          go_round
          case rel => exact ⟨k + 1, by go_num, by have := HIK.out; omega, by omega, HB.out⟩
          case measure => simp [intOf]; omega
        · skip
          by_cases h10 : c = 10
          · have HB : Hid (lex l (k + 1) = lex l i) := Lib.hid (by rw [← HLEX.out]; exact (lex_blank HKL.out (by rw [← HC.out]; exact blank_of (by omega))).symm)
            have b32 : ((c : Int) == 32) = false := beq_eq_false_iff_ne.2 (by omega)
            have b9 : ((c : Int) == 9) = false := beq_eq_false_iff_ne.2 (by omega)
            have b10 : ((c : Int) == 10) = true := beq_iff_eq.2 (by omega)
            clear h32 h9 h10
            go_wp2_with fail
            go_round
            case rel => exact ⟨k + 1, by go_num, by have := HIK.out; omega, by omega, HB.out⟩
            case measure => simp [intOf]; omega
          · skip
            by_cases h13 : c = 13
            · have HB : Hid (lex l (k + 1) = lex l i) := Lib.hid (by rw [← HLEX.out]; exact (lex_blank HKL.out (by rw [← HC.out]; exact blank_of (by omega))).symm)
              have b32 : ((c : Int) == 32) = false := beq_eq_false_iff_ne.2 (by omega)
              have b9 : ((c : Int) == 9) = false := beq_eq_false_iff_ne.2 (by omega)
              have b10 : ((c : Int) == 10) = false := beq_eq_false_iff_ne.2 (by omega)
              have b13 : ((c : Int) == 13) = true := beq_iff_eq.2 (by omega)
              clear h32 h9 h10 h13
              go_wp2_with fail
              go_round
              case rel => exact ⟨k + 1, by go_num, by have := HIK.out; omega, by omega, HB.out⟩
              case measure => simp [intOf]; omega
            · skip
              have b32 : ((c : Int) == 32) = false := beq_eq_false_iff_ne.2 (by omega)
              have b9 : ((c : Int) == 9) = false := beq_eq_false_iff_ne.2 (by omega)
              have b10 : ((c : Int) == 10) = false := beq_eq_false_iff_ne.2 (by omega)
              have b13 : ((c : Int) == 13) = false := beq_eq_false_iff_ne.2 (by omega)
              by_cases h35 : c = 35
              · have b35 : ((c : Int) == 35) = true := beq_iff_eq.2 (by omega)
                have HSP := Lib.hid (spn_line HKL.out (by rw [← HC.out]; exact h35))
                have HB : Hid (lex l (spn line l k) = lex l i) := Lib.hid (by rw [← HLEX.out]; exact (lex_comment HKL.out (by rw [← HC.out]; exact h35)).symm)
                clear h32 h9 h10 h13 h35
                go_wp2_with fail
                go_loop [1] (fun v => ∃ j : Nat, v = .int .i64 j ∧ k ≤ j ∧ j ≤ n ∧ spn line l j = spn line l k) (fun v => n - (intOf v).toNat)
                case atStart => exact ⟨k, rfl, Nat.le_refl _, by omega, rfl⟩
                case round =>
                  clear hx b32 b9 b10 b13 b35
                  obtain ⟨j, rfl, hkj, hj, hsp⟩ := hrel
                  have HJ := Lib.hid hsp; have HKJ := Lib.hid hkj
                  clear hsp hkj
                  by_cases hjn : j < n
                  · have hx : ∀ w, (Instr.index 9 (.string S) (.int .i64 (j : Int))).run Tryd.prog w = .ok (.int .u8 (at' l j : Nat)) w := fun w => by rw [HS.out]; exact idx HL.out (by have := HN.out; omega) w
                    have HJL : Hid (j < l.length) := Lib.hid (by have := HN.out; omega)
                    obtain ⟨d, hd⟩ : ∃ d, d = at' l j := ⟨_, rfl⟩
                    have HD := Lib.hid hd
                    rw [← hd] at hx
                    clear hd
                    by_cases h10 : d = 10
                    · have q1 : ((d : Int) != 10) = false := by rw [h10]; rfl
                      have q2 : ((d : Int) == 10) = true := by rw [h10]; rfl
                      have HE : Hid (j = spn line l k) := Lib.hid (by rw [← HJ.out, spn_no (by rw [← HD.out, h10]; decide) HJL.out])
                      have HB2 : Hid (lex l j = lex l i) := Lib.hid (by rw [HE.out]; exact HB.out)
                      have HGT : Hid (k < j) := Lib.hid (by rw [HE.out]; exact HSP.out.1)
                      clear h10
                      go_wp2_with fail
                      go_round
                      case rel => exact ⟨j, rfl, by have := HIK.out; have := HGT.out; omega, by omega, HB2.out⟩
                      case measure => have := HGT.out; simp [intOf]; omega
                    · have q1 : ((d : Int) != 10) = true := by rw [bne_iff_ne]; omega
                      have q2 : ((d : Int) == 10) = false := beq_eq_false_iff_ne.2 (by omega)
                      have HST : Hid (spn line l (j + 1) = spn line l k) := Lib.hid (by rw [← HJ.out]; exact (spn_step HJL.out (by rw [← HD.out]; simp [line, h10])).symm)
                      clear h10
                      go_wp2_with fail
                      go_round
                      case rel => exact ⟨j + 1, by go_num, by have := HKJ.out; omega, by omega, HST.out⟩
                      case measure => simp [intOf]; omega
                  · have HE : Hid (j = spn line l k) := Lib.hid (by rw [← HJ.out, spn_end (by have := HN.out; omega)])
                    have HB2 : Hid (lex l j = lex l i) := Lib.hid (by rw [HE.out]; exact HB.out)
                    have HGT : Hid (k < j) := Lib.hid (by rw [HE.out]; exact HSP.out.1)
                    go_wp2_with fail
                    go_round
                    case rel => exact ⟨j, rfl, by have := HIK.out; have := HGT.out; omega, by omega, HB2.out⟩
                    case measure => have := HGT.out; simp [intOf]; omega
              · have b35 : ((c : Int) == 35) = false := beq_eq_false_iff_ne.2 (by omega)
                have HF := Lib.hid (FIN.out k HIK.out (by omega) HLEX.out (fun _ => by rw [← HC.out]; exact ⟨blank_not h32 h9 h10 h13, h35⟩))
                clear h32 h9 h10 h13 h35
                go_wp2_with fail
                try go_ret
                exact HF.out
    · have HF := Lib.hid (FIN.out k HIK.out (by omega) HLEX.out (fun h => absurd h (by omega)))
      go_wp2_with fail
      try go_ret
      exact HF.out
end By
end Go.Proofs.YtifhbbjalodplaaDoor

