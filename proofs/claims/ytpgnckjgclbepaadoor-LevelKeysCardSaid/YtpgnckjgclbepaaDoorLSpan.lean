/- The program's span. Conditions: the place lies in the string, the string has at most a million bytes, the function tells what is named. -/
import Derived.Test.YtpgnckjgclbepaaDoorLPred
namespace Go.Proofs.YtpgnckjgclbepaaDoor
namespace By
open Go.RowKit WireN LexN
set_option linter.unusedVariables false
set_option linter.unusedSimpArgs false

structure Fits (f : Nat) (p : Nat → Bool) : Prop where
  enter : ∀ (args : Array Value) (w : World), (callFunc f args).run Tryd.prog w = .ok (.enter f args) w
  any : ∀ (c : Nat) (w : World), Calls Tryd.prog f #[.int .u8 (c : Nat)] w fun e w' => e = .returned (.bool (p c)) ∧ w = w'
theorem fitsName : Fits 42 inner := ⟨Tryd.call42, isOfName_any⟩
theorem fitsDigit : Fits 56 digit := ⟨Tryd.call56, isDigit_any⟩
theorem fitsPart : Fits 45 part' := ⟨Tryd.call45, isOfPart_any⟩
set_option maxRecDepth 100000 in
set_option maxHeartbeats 1000000 in
theorem span_any {l : List Nat} (hl : Lt l) (hlen : l.length ≤ 1000000) {f : Nat} {p : Nat → Bool} (hf : Fits f p) {i : Nat} (hi : i ≤ l.length) (w : World) :
    Calls Tryd.prog 55 #[.string (st l), .int .i64 (i : Nat), .func (.func f) #[] #[]] w fun e w' => e = .returned (.int .i64 (spn p l i : Nat)) ∧ w = w' := by
  have HL := Lib.hid hl; have HF := Lib.hid hf; have hin := hf.enter
  obtain ⟨n, hn⟩ : ∃ n, n = l.length := ⟨_, rfl⟩
  have HN := Lib.hid hn
  have qs : ∀ w, (Builtin.len_ #[9] 3 #[.string (st l)]).run Tryd.prog w = .ok (goInt n) w := fun w => by rw [hn]; exact len w
  rw [← hn] at hlen hi
  obtain ⟨S, hS⟩ : ∃ S, S = st l := ⟨_, rfl⟩
  have HS := Lib.hid hS
  rw [← hS] at qs ⊢
  clear hl hf hn hS
  go_enter Tryd.func55, Tryd.ntmps55
  go_wp2_with fail
  go_loop [1] (fun v => ∃ k : Nat, v = .int .i64 k ∧ k ≤ n ∧ spn p l k = spn p l i) (fun v => n - (intOf v).toNat)
  case atStart => exact ⟨i, rfl, hi, rfl⟩
  case round =>
    obtain ⟨k, rfl, hk, hr⟩ := hrel
    have HR := Lib.hid hr
    clear hr
    by_cases hkn : k < n
    · have hx : ∀ w, (Instr.index 9 (.string S) (.int .i64 (k : Int))).run Tryd.prog w = .ok (.int .u8 (at' l k : Nat)) w := fun w => by rw [HS.out]; exact idx HL.out (by have := HN.out; omega) w
      obtain ⟨c, hc⟩ : ∃ c, c = at' l k := ⟨_, rfl⟩
      rw [← hc] at hx
      have HC := Lib.hid hc
      clear hc
      go_wp2_with fail
      refine (HF.out.any c _).mono ?_
      rintro e w' ⟨rfl, rfl⟩
      by_cases hp : p c = true
      · have HP := Lib.hid hp
        rw [HP.out]
        clear hp
        go_wp2_with fail
        go_round
        case rel => exact ⟨k + 1, by go_num, by omega, by rw [← HR.out]; exact (spn_step (by have := HN.out; omega) (by rw [← HC.out]; exact HP.out)).symm⟩
        case measure => simp [intOf]; omega
      · have hp : p c = false := by simpa using hp
        have HP := Lib.hid hp
        rw [HP.out]
        clear hp
        go_wp2_with fail
        go_ret
        exact ⟨by (rw [← HR.out, spn_no (by rw [← HC.out]; exact HP.out) (by have := HN.out; omega)]) <;> rfl, rfl⟩
    · go_wp2_with fail
      go_ret
      exact ⟨by (rw [← HR.out, spn_end (by have := HN.out; omega)]) <;> rfl, rfl⟩
end By
end Go.Proofs.YtpgnckjgclbepaaDoor
