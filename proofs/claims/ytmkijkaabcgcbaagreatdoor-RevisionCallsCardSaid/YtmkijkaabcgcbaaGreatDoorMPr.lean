/- The program's and the reference's predicates on bytes. No condition. -/
import Derived.Test.YtmkijkaabcgcbaaGreatDoorLStr
namespace Go.Proofs.YtmkijkaabcgcbaaGreatDoor
namespace By
open Go.RowKit WireN LexN
set_option linter.unusedVariables false
set_option linter.unusedSimpArgs false

set_option maxRecDepth 100000 in
set_option maxHeartbeats 400000 in
theorem isLetter_any (c : Nat) (w : World) : Calls Tryz.prog 102 #[.int .u8 (c : Nat)] w fun e w' => e = .returned (.bool (letter c)) ∧ w = w' := by
  by_cases h1 : 97 ≤ c
  · by_cases h2 : c ≤ 122
    · have HE : Hid (letter c = true) := by show _ = _; simp [letter, h1, h2]
      have i1 : (97 : Int) ≤ (c : Int) := by omega
      have i2 : (c : Int) ≤ 122 := by omega
      clear h1 h2
      go_enter Tryz.func102, Tryz.ntmps102
      go_wp2_with fail
      go_ret
      exact ⟨ret_bool HE.out.symm, rfl⟩
    · have HE : Hid (letter c = false) := by show _ = _; simp [letter, h1, h2]
      have i1 : (97 : Int) ≤ (c : Int) := by omega
      have i2 : (122 : Int) < (c : Int) := by omega
      have i3 : decide ((c : Int) ≤ 122) = false := by simp; omega
      clear h1 h2
      go_enter Tryz.func102, Tryz.ntmps102
      go_wp2_with fail
      go_ret
      exact ⟨ret_bool HE.out.symm, rfl⟩
  · have HE : Hid (letter c = false) := by show _ = _; simp [letter, h1]
    have i1 : (c : Int) < 97 := by omega
    clear h1
    go_enter Tryz.func102, Tryz.ntmps102
    go_wp2_with fail
    go_ret
    exact ⟨ret_bool HE.out.symm, rfl⟩
set_option maxRecDepth 100000 in
set_option maxHeartbeats 400000 in
theorem isDigit_any (c : Nat) (w : World) : Calls Tryz.prog 103 #[.int .u8 (c : Nat)] w fun e w' => e = .returned (.bool (digit c)) ∧ w = w' := by
  by_cases h1 : 48 ≤ c
  · by_cases h2 : c ≤ 57
    · have HE : Hid (digit c = true) := by show _ = _; simp [digit, h1, h2]
      have i1 : (48 : Int) ≤ (c : Int) := by omega
      have i2 : (c : Int) ≤ 57 := by omega
      clear h1 h2
      go_enter Tryz.func103, Tryz.ntmps103
      go_wp2_with fail
      go_ret
      exact ⟨ret_bool HE.out.symm, rfl⟩
    · have HE : Hid (digit c = false) := by show _ = _; simp [digit, h1, h2]
      have i1 : (48 : Int) ≤ (c : Int) := by omega
      have i2 : (57 : Int) < (c : Int) := by omega
      have i3 : decide ((c : Int) ≤ 57) = false := by simp; omega
      clear h1 h2
      go_enter Tryz.func103, Tryz.ntmps103
      go_wp2_with fail
      go_ret
      exact ⟨ret_bool HE.out.symm, rfl⟩
  · have HE : Hid (digit c = false) := by show _ = _; simp [digit, h1]
    have i1 : (c : Int) < 48 := by omega
    clear h1
    go_enter Tryz.func103, Tryz.ntmps103
    go_wp2_with fail
    go_ret
    exact ⟨ret_bool HE.out.symm, rfl⟩
set_option maxRecDepth 100000 in
set_option maxHeartbeats 400000 in
theorem letter_any (c : Nat) (w : World) : Calls Tryz.prog 81 #[.int .u8 (c : Nat)] w fun e w' => e = .returned (.bool (letter c)) ∧ w = w' := by
  by_cases h1 : 97 ≤ c
  · by_cases h2 : c ≤ 122
    · have HE : Hid (letter c = true) := by show _ = _; simp [letter, h1, h2]
      have i1 : (97 : Int) ≤ (c : Int) := by omega
      have i2 : (c : Int) ≤ 122 := by omega
      clear h1 h2
      go_enter Tryz.func81, Tryz.ntmps81
      go_wp2_with fail
      go_ret
      exact ⟨ret_bool HE.out.symm, rfl⟩
    · have HE : Hid (letter c = false) := by show _ = _; simp [letter, h1, h2]
      have i1 : (97 : Int) ≤ (c : Int) := by omega
      have i2 : (122 : Int) < (c : Int) := by omega
      have i3 : decide ((c : Int) ≤ 122) = false := by simp; omega
      clear h1 h2
      go_enter Tryz.func81, Tryz.ntmps81
      go_wp2_with fail
      go_ret
      exact ⟨ret_bool HE.out.symm, rfl⟩
  · have HE : Hid (letter c = false) := by show _ = _; simp [letter, h1]
    have i1 : (c : Int) < 97 := by omega
    clear h1
    go_enter Tryz.func81, Tryz.ntmps81
    go_wp2_with fail
    go_ret
    exact ⟨ret_bool HE.out.symm, rfl⟩
set_option maxRecDepth 100000 in
set_option maxHeartbeats 400000 in
theorem isOfName_any (c : Nat) (w : World) : Calls Tryz.prog 84 #[.int .u8 (c : Nat)] w fun e w' => e = .returned (.bool (inner c)) ∧ w = w' := by
  by_cases h1 : letter c = true
  · have HE : Hid (inner c = true) := by show _ = _; simp [inner, h1]
    have HL := Lib.hid h1; clear h1
    go_enter Tryz.func84, Tryz.ntmps84
    go_wp2_with fail
    refine (isLetter_any c _).mono ?_
    rintro e w' ⟨rfl, rfl⟩
    rw [HL.out]
    go_wp2_with fail
    go_ret
    exact ⟨ret_bool HE.out.symm, rfl⟩
  · have h1 : letter c = false := by simpa using h1
    by_cases h2 : digit c = true
    · have HE : Hid (inner c = true) := by show _ = _; simp [inner, h2]
      have HL := Lib.hid h1; have HD := Lib.hid h2; clear h1 h2
      go_enter Tryz.func84, Tryz.ntmps84
      go_wp2_with fail
      refine (isLetter_any c _).mono ?_
      rintro e w' ⟨rfl, rfl⟩
      rw [HL.out]
      go_wp2_with fail
      refine (isDigit_any c _).mono ?_
      rintro e w' ⟨rfl, rfl⟩
      rw [HD.out]
      go_wp2_with fail
      go_ret
      exact ⟨ret_bool HE.out.symm, rfl⟩
    · have h2 : digit c = false := by simpa using h2
      have HL := Lib.hid h1; have HD := Lib.hid h2
      obtain ⟨b, hb⟩ : ∃ b, b = ((c : Int) == 95) := ⟨_, rfl⟩
      have HE : Hid (inner c = b) := by
        show _ = _
        rw [hb]
        by_cases h3 : c = 95
        · simp [inner, h1, h2, h3]
        · have : ((c : Int) == 95) = false := beq_eq_false_iff_ne.2 (by omega)
          rw [this]; simp [inner, h1, h2, h3]
      have i1 : ((c : Int) == 95) = b := hb.symm
      clear h1 h2 hb
      go_enter Tryz.func84, Tryz.ntmps84
      go_wp2_with fail
      refine (isLetter_any c _).mono ?_
      rintro e w' ⟨rfl, rfl⟩
      rw [HL.out]
      go_wp2_with fail
      refine (isDigit_any c _).mono ?_
      rintro e w' ⟨rfl, rfl⟩
      rw [HD.out]
      go_wp2_with fail
      go_ret
      exact ⟨ret_bool HE.out.symm, rfl⟩
set_option maxRecDepth 100000 in
set_option maxHeartbeats 400000 in
theorem isOfPart_any (c : Nat) (w : World) : Calls Tryz.prog 65 #[.int .u8 (c : Nat)] w fun e w' => e = .returned (.bool (part' c)) ∧ w = w' := by
  by_cases h1 : inner c = true
  · have HE : Hid (part' c = true) := by show _ = _; simp [part', h1]
    have HL := Lib.hid h1; clear h1
    go_enter Tryz.func65, Tryz.ntmps65
    go_wp2_with fail
    refine (isOfName_any c _).mono ?_
    rintro e w' ⟨rfl, rfl⟩
    rw [HL.out]
    go_wp2_with fail
    go_ret
    exact ⟨ret_bool HE.out.symm, rfl⟩
  · have h1 : inner c = false := by simpa using h1
    have HL := Lib.hid h1
    obtain ⟨b, hb⟩ : ∃ b, b = ((c : Int) == 46) := ⟨_, rfl⟩
    have HE : Hid (part' c = b) := by
      show _ = _
      rw [hb]
      by_cases h3 : c = 46
      · simp [part', h1, h3]
      · have : ((c : Int) == 46) = false := beq_eq_false_iff_ne.2 (by omega)
        rw [this]; simp [part', h1, h3]
    have i1 : ((c : Int) == 46) = b := hb.symm
    clear h1 hb
    go_enter Tryz.func65, Tryz.ntmps65
    go_wp2_with fail
    refine (isOfName_any c _).mono ?_
    rintro e w' ⟨rfl, rfl⟩
    rw [HL.out]
    go_wp2_with fail
    go_ret
    exact ⟨ret_bool HE.out.symm, rfl⟩
set_option maxRecDepth 100000 in
set_option maxHeartbeats 400000 in
theorem inner_any (c : Nat) (w : World) : Calls Tryz.prog 59 #[.int .u8 (c : Nat)] w fun e w' => e = .returned (.bool (inner c)) ∧ w = w' := by
  by_cases h1 : letter c = true
  · have HE : Hid (inner c = true) := by show _ = _; simp [inner, h1]
    have HL := Lib.hid h1; clear h1
    go_enter Tryz.func59, Tryz.ntmps59
    go_wp2_with fail
    refine (letter_any c _).mono ?_
    rintro e w' ⟨rfl, rfl⟩
    rw [HL.out]
    go_wp2_with fail
    go_ret
    exact ⟨ret_bool HE.out.symm, rfl⟩
  · have h1 : letter c = false := by simpa using h1
    obtain ⟨b, hb⟩ : ∃ b, b = ((c : Int) == 95) := ⟨_, rfl⟩
    have hb' : (c == 95) = b := by
      rw [hb]
      by_cases h3 : c = 95
      · simp [h3]
      · have : ((c : Int) == 95) = false := beq_eq_false_iff_ne.2 (by omega)
        rw [this]; simp [h3]
    have i3 : ((c : Int) == 95) = b := hb.symm
    by_cases h2 : 48 ≤ c
    · by_cases h3 : c ≤ 57
      · have HE : Hid (inner c = true) := by show _ = _; simp [inner, digit, h1, h2, h3]
        have HL := Lib.hid h1
        have i1 : (48 : Int) ≤ (c : Int) := by omega
        have i2 : (c : Int) ≤ 57 := by omega
        clear h1 h2 h3 hb hb'
        go_enter Tryz.func59, Tryz.ntmps59
        go_wp2_with fail
        refine (letter_any c _).mono ?_
        rintro e w' ⟨rfl, rfl⟩
        rw [HL.out]
        go_wp2_with fail
        go_ret
        exact ⟨ret_bool HE.out.symm, rfl⟩
      · have HE : Hid (inner c = b) := by show _ = _; simp [inner, digit, h1, h2, h3, hb']
        have HL := Lib.hid h1
        have i1 : (48 : Int) ≤ (c : Int) := by omega
        have i2 : (57 : Int) < (c : Int) := by omega
        have i4 : decide ((c : Int) ≤ 57) = false := by simp; omega
        clear h1 h2 h3 hb hb'
        go_enter Tryz.func59, Tryz.ntmps59
        go_wp2_with fail
        refine (letter_any c _).mono ?_
        rintro e w' ⟨rfl, rfl⟩
        rw [HL.out]
        go_wp2_with fail
        go_ret
        exact ⟨ret_bool HE.out.symm, rfl⟩
    · have HE : Hid (inner c = b) := by show _ = _; simp [inner, digit, h1, h2, hb']
      have HL := Lib.hid h1
      have i1 : (c : Int) < 48 := by omega
      clear h1 h2 hb hb'
      go_enter Tryz.func59, Tryz.ntmps59
      go_wp2_with fail
      refine (letter_any c _).mono ?_
      rintro e w' ⟨rfl, rfl⟩
      rw [HL.out]
      go_wp2_with fail
      go_ret
      exact ⟨ret_bool HE.out.symm, rfl⟩
end By
end Go.Proofs.YtmkijkaabcgcbaaGreatDoor

/- The program's span. Conditions: the place lies in the string, the string has at most a million bytes, the function tells what is named. -/
namespace Go.Proofs.YtmkijkaabcgcbaaGreatDoor
namespace By
open Go.RowKit WireN LexN
set_option linter.unusedVariables false
set_option linter.unusedSimpArgs false

structure Fits (f : Nat) (p : Nat → Bool) : Prop where
  enter : ∀ (args : Array Value) (w : World), (callFunc f args).run Tryz.prog w = .ok (.enter f args) w
  any : ∀ (c : Nat) (w : World), Calls Tryz.prog f #[.int .u8 (c : Nat)] w fun e w' => e = .returned (.bool (p c)) ∧ w = w'
theorem fitsName : Fits 84 inner := ⟨Tryz.call84, isOfName_any⟩
theorem fitsDigit : Fits 103 digit := ⟨Tryz.call103, isDigit_any⟩
theorem fitsPart : Fits 65 part' := ⟨Tryz.call65, isOfPart_any⟩
set_option maxRecDepth 100000 in
set_option maxHeartbeats 1000000 in
theorem span_any {l : List Nat} (hl : Lt l) (hlen : l.length ≤ 1000000) {f : Nat} {p : Nat → Bool} (hf : Fits f p) {i : Nat} (hi : i ≤ l.length) (w : World) :
    Calls Tryz.prog 83 #[.string (st l), .int .i64 (i : Nat), .func (.func f) #[] #[]] w fun e w' => e = .returned (.int .i64 (spn p l i : Nat)) ∧ w = w' := by
  have HL := Lib.hid hl; have HF := Lib.hid hf; have hin := hf.enter
  obtain ⟨n, hn⟩ : ∃ n, n = l.length := ⟨_, rfl⟩
  have HN := Lib.hid hn
  have qs : ∀ w, (Builtin.len_ #[9] 3 #[.string (st l)]).run Tryz.prog w = .ok (goInt n) w := fun w => by rw [hn]; exact len w
  rw [← hn] at hlen hi
  obtain ⟨S, hS⟩ : ∃ S, S = st l := ⟨_, rfl⟩
  have HS := Lib.hid hS
  rw [← hS] at qs ⊢
  clear hl hf hn hS
  go_enter Tryz.func83, Tryz.ntmps83
  go_wp2_with fail
  go_loop [1] (fun v => ∃ k : Nat, v = .int .i64 k ∧ k ≤ n ∧ spn p l k = spn p l i) (fun v => n - (intOf v).toNat)
  case atStart => exact ⟨i, rfl, hi, rfl⟩
  case round =>
    obtain ⟨k, rfl, hk, hr⟩ := hrel
    have HR := Lib.hid hr
    clear hr
    by_cases hkn : k < n
    · have hx : ∀ w, (Instr.index 9 (.string S) (.int .i64 (k : Int))).run Tryz.prog w = .ok (.int .u8 (at' l k : Nat)) w := fun w => by rw [HS.out]; exact idx HL.out (by have := HN.out; omega) w
      obtain ⟨c, hc⟩ : ∃ c, c = at' l k := ⟨_, rfl⟩
      rw [← hc] at hx
      have HC := Lib.hid hc
      clear hc
      go_wp2_with fail
      refine (HF.out.any c _).mono ?_
      rintro e w' ⟨rfl, rfl⟩
      by_cases hp : p c = true
      · have HP := Lib.hid hp
        rw [HP.out]
        clear hp
        go_wp2_with fail
        go_round
        case rel => exact ⟨k + 1, by go_num, by omega, by rw [← HR.out]; exact (spn_step (by have := HN.out; omega) (by rw [← HC.out]; exact HP.out)).symm⟩
        case measure => simp [intOf]; omega
      · have hp : p c = false := by simpa using hp
        have HP := Lib.hid hp
        rw [HP.out]
        clear hp
        go_wp2_with fail
        go_ret
        exact ⟨by (rw [← HR.out, spn_no (by rw [← HC.out]; exact HP.out) (by have := HN.out; omega)]) <;> rfl, rfl⟩
    · go_wp2_with fail
      go_ret
      exact ⟨by (rw [← HR.out, spn_end (by have := HN.out; omega)]) <;> rfl, rfl⟩
end By
end Go.Proofs.YtmkijkaabcgcbaaGreatDoor
