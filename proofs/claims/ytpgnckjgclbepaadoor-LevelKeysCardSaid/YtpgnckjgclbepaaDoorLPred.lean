/- The program's and the reference's predicates on bytes. No condition. -/
import Derived.Test.YtpgnckjgclbepaaDoorLStr
namespace Go.Proofs.YtpgnckjgclbepaaDoor
namespace By
open Go.RowKit WireN LexN
set_option linter.unusedVariables false
set_option linter.unusedSimpArgs false

set_option maxRecDepth 100000 in
set_option maxHeartbeats 400000 in
theorem isLetter_any (c : Nat) (w : World) : Calls Tryd.prog 43 #[.int .u8 (c : Nat)] w fun e w' => e = .returned (.bool (letter c)) ∧ w = w' := by
  by_cases h1 : 97 ≤ c
  · by_cases h2 : c ≤ 122
    · have HE : Hid (letter c = true) := by show _ = _; simp [letter, h1, h2]
      have i1 : (97 : Int) ≤ (c : Int) := by omega
      have i2 : (c : Int) ≤ 122 := by omega
      clear h1 h2
      go_enter Tryd.func43, Tryd.ntmps43
      go_wp2_with fail
      go_ret
      exact ⟨ret_bool HE.out.symm, rfl⟩
    · have HE : Hid (letter c = false) := by show _ = _; simp [letter, h1, h2]
      have i1 : (97 : Int) ≤ (c : Int) := by omega
      have i2 : (122 : Int) < (c : Int) := by omega
      have i3 : decide ((c : Int) ≤ 122) = false := by simp; omega
      clear h1 h2
      go_enter Tryd.func43, Tryd.ntmps43
      go_wp2_with fail
      go_ret
      exact ⟨ret_bool HE.out.symm, rfl⟩
  · have HE : Hid (letter c = false) := by show _ = _; simp [letter, h1]
    have i1 : (c : Int) < 97 := by omega
    clear h1
    go_enter Tryd.func43, Tryd.ntmps43
    go_wp2_with fail
    go_ret
    exact ⟨ret_bool HE.out.symm, rfl⟩
set_option maxRecDepth 100000 in
set_option maxHeartbeats 400000 in
theorem isDigit_any (c : Nat) (w : World) : Calls Tryd.prog 56 #[.int .u8 (c : Nat)] w fun e w' => e = .returned (.bool (digit c)) ∧ w = w' := by
  by_cases h1 : 48 ≤ c
  · by_cases h2 : c ≤ 57
    · have HE : Hid (digit c = true) := by show _ = _; simp [digit, h1, h2]
      have i1 : (48 : Int) ≤ (c : Int) := by omega
      have i2 : (c : Int) ≤ 57 := by omega
      clear h1 h2
      go_enter Tryd.func56, Tryd.ntmps56
      go_wp2_with fail
      go_ret
      exact ⟨ret_bool HE.out.symm, rfl⟩
    · have HE : Hid (digit c = false) := by show _ = _; simp [digit, h1, h2]
      have i1 : (48 : Int) ≤ (c : Int) := by omega
      have i2 : (57 : Int) < (c : Int) := by omega
      have i3 : decide ((c : Int) ≤ 57) = false := by simp; omega
      clear h1 h2
      go_enter Tryd.func56, Tryd.ntmps56
      go_wp2_with fail
      go_ret
      exact ⟨ret_bool HE.out.symm, rfl⟩
  · have HE : Hid (digit c = false) := by show _ = _; simp [digit, h1]
    have i1 : (c : Int) < 48 := by omega
    clear h1
    go_enter Tryd.func56, Tryd.ntmps56
    go_wp2_with fail
    go_ret
    exact ⟨ret_bool HE.out.symm, rfl⟩
set_option maxRecDepth 100000 in
set_option maxHeartbeats 400000 in
theorem letter_any (c : Nat) (w : World) : Calls Tryd.prog 53 #[.int .u8 (c : Nat)] w fun e w' => e = .returned (.bool (letter c)) ∧ w = w' := by
  by_cases h1 : 97 ≤ c
  · by_cases h2 : c ≤ 122
    · have HE : Hid (letter c = true) := by show _ = _; simp [letter, h1, h2]
      have i1 : (97 : Int) ≤ (c : Int) := by omega
      have i2 : (c : Int) ≤ 122 := by omega
      clear h1 h2
      go_enter Tryd.func53, Tryd.ntmps53
      go_wp2_with fail
      go_ret
      exact ⟨ret_bool HE.out.symm, rfl⟩
    · have HE : Hid (letter c = false) := by show _ = _; simp [letter, h1, h2]
      have i1 : (97 : Int) ≤ (c : Int) := by omega
      have i2 : (122 : Int) < (c : Int) := by omega
      have i3 : decide ((c : Int) ≤ 122) = false := by simp; omega
      clear h1 h2
      go_enter Tryd.func53, Tryd.ntmps53
      go_wp2_with fail
      go_ret
      exact ⟨ret_bool HE.out.symm, rfl⟩
  · have HE : Hid (letter c = false) := by show _ = _; simp [letter, h1]
    have i1 : (c : Int) < 97 := by omega
    clear h1
    go_enter Tryd.func53, Tryd.ntmps53
    go_wp2_with fail
    go_ret
    exact ⟨ret_bool HE.out.symm, rfl⟩
set_option maxRecDepth 100000 in
set_option maxHeartbeats 400000 in
theorem isOfName_any (c : Nat) (w : World) : Calls Tryd.prog 42 #[.int .u8 (c : Nat)] w fun e w' => e = .returned (.bool (inner c)) ∧ w = w' := by
  by_cases h1 : letter c = true
  · have HE : Hid (inner c = true) := by show _ = _; simp [inner, h1]
    have HL := Lib.hid h1; clear h1
    go_enter Tryd.func42, Tryd.ntmps42
    go_wp2_with fail
    refine (isLetter_any c _).mono ?_
    rintro e w' ⟨rfl, rfl⟩
    rw [HL.out]
    go_wp2_with fail
    go_ret
    exact ⟨ret_bool HE.out.symm, rfl⟩
  · have h1 : letter c = false := by simpa using h1
    by_cases h2 : digit c = true
    · have HE : Hid (inner c = true) := by show _ = _; simp [inner, h2]
      have HL := Lib.hid h1; have HD := Lib.hid h2; clear h1 h2
      go_enter Tryd.func42, Tryd.ntmps42
      go_wp2_with fail
      refine (isLetter_any c _).mono ?_
      rintro e w' ⟨rfl, rfl⟩
      rw [HL.out]
      go_wp2_with fail
      refine (isDigit_any c _).mono ?_
      rintro e w' ⟨rfl, rfl⟩
      rw [HD.out]
      go_wp2_with fail
      go_ret
      exact ⟨ret_bool HE.out.symm, rfl⟩
    · have h2 : digit c = false := by simpa using h2
      have HL := Lib.hid h1; have HD := Lib.hid h2
      obtain ⟨b, hb⟩ : ∃ b, b = ((c : Int) == 95) := ⟨_, rfl⟩
      have HE : Hid (inner c = b) := by
        show _ = _
        rw [hb]
        by_cases h3 : c = 95
        · simp [inner, h1, h2, h3]
        · have : ((c : Int) == 95) = false := beq_eq_false_iff_ne.2 (by omega)
          rw [this]; simp [inner, h1, h2, h3]
      have i1 : ((c : Int) == 95) = b := hb.symm
      clear h1 h2 hb
      go_enter Tryd.func42, Tryd.ntmps42
      go_wp2_with fail
      refine (isLetter_any c _).mono ?_
      rintro e w' ⟨rfl, rfl⟩
      rw [HL.out]
      go_wp2_with fail
      refine (isDigit_any c _).mono ?_
      rintro e w' ⟨rfl, rfl⟩
      rw [HD.out]
      go_wp2_with fail
      go_ret
      exact ⟨ret_bool HE.out.symm, rfl⟩
set_option maxRecDepth 100000 in
set_option maxHeartbeats 400000 in
theorem isOfPart_any (c : Nat) (w : World) : Calls Tryd.prog 45 #[.int .u8 (c : Nat)] w fun e w' => e = .returned (.bool (part' c)) ∧ w = w' := by
  by_cases h1 : inner c = true
  · have HE : Hid (part' c = true) := by show _ = _; simp [part', h1]
    have HL := Lib.hid h1; clear h1
    go_enter Tryd.func45, Tryd.ntmps45
    go_wp2_with fail
    refine (isOfName_any c _).mono ?_
    rintro e w' ⟨rfl, rfl⟩
    rw [HL.out]
    go_wp2_with fail
    go_ret
    exact ⟨ret_bool HE.out.symm, rfl⟩
  · have h1 : inner c = false := by simpa using h1
    have HL := Lib.hid h1
    obtain ⟨b, hb⟩ : ∃ b, b = ((c : Int) == 46) := ⟨_, rfl⟩
    have HE : Hid (part' c = b) := by
      show _ = _
      rw [hb]
      by_cases h3 : c = 46
      · simp [part', h1, h3]
      · have : ((c : Int) == 46) = false := beq_eq_false_iff_ne.2 (by omega)
        rw [this]; simp [part', h1, h3]
    have i1 : ((c : Int) == 46) = b := hb.symm
    clear h1 hb
    go_enter Tryd.func45, Tryd.ntmps45
    go_wp2_with fail
    refine (isOfName_any c _).mono ?_
    rintro e w' ⟨rfl, rfl⟩
    rw [HL.out]
    go_wp2_with fail
    go_ret
    exact ⟨ret_bool HE.out.symm, rfl⟩
set_option maxRecDepth 100000 in
set_option maxHeartbeats 400000 in
theorem inner_any (c : Nat) (w : World) : Calls Tryd.prog 54 #[.int .u8 (c : Nat)] w fun e w' => e = .returned (.bool (inner c)) ∧ w = w' := by
  by_cases h1 : letter c = true
  · have HE : Hid (inner c = true) := by show _ = _; simp [inner, h1]
    have HL := Lib.hid h1; clear h1
    go_enter Tryd.func54, Tryd.ntmps54
    go_wp2_with fail
    refine (letter_any c _).mono ?_
    rintro e w' ⟨rfl, rfl⟩
    rw [HL.out]
    go_wp2_with fail
    go_ret
    exact ⟨ret_bool HE.out.symm, rfl⟩
  · have h1 : letter c = false := by simpa using h1
    obtain ⟨b, hb⟩ : ∃ b, b = ((c : Int) == 95) := ⟨_, rfl⟩
    have hb' : (c == 95) = b := by
      rw [hb]
      by_cases h3 : c = 95
      · simp [h3]
      · have : ((c : Int) == 95) = false := beq_eq_false_iff_ne.2 (by omega)
        rw [this]; simp [h3]
    have i3 : ((c : Int) == 95) = b := hb.symm
    by_cases h2 : 48 ≤ c
    · by_cases h3 : c ≤ 57
      · have HE : Hid (inner c = true) := by show _ = _; simp [inner, digit, h1, h2, h3]
        have HL := Lib.hid h1
        have i1 : (48 : Int) ≤ (c : Int) := by omega
        have i2 : (c : Int) ≤ 57 := by omega
        clear h1 h2 h3 hb hb'
        go_enter Tryd.func54, Tryd.ntmps54
        go_wp2_with fail
        refine (letter_any c _).mono ?_
        rintro e w' ⟨rfl, rfl⟩
        rw [HL.out]
        go_wp2_with fail
        go_ret
        exact ⟨ret_bool HE.out.symm, rfl⟩
      · have HE : Hid (inner c = b) := by show _ = _; simp [inner, digit, h1, h2, h3, hb']
        have HL := Lib.hid h1
        have i1 : (48 : Int) ≤ (c : Int) := by omega
        have i2 : (57 : Int) < (c : Int) := by omega
        have i4 : decide ((c : Int) ≤ 57) = false := by simp; omega
        clear h1 h2 h3 hb hb'
        go_enter Tryd.func54, Tryd.ntmps54
        go_wp2_with fail
        refine (letter_any c _).mono ?_
        rintro e w' ⟨rfl, rfl⟩
        rw [HL.out]
        go_wp2_with fail
        go_ret
        exact ⟨ret_bool HE.out.symm, rfl⟩
    · have HE : Hid (inner c = b) := by show _ = _; simp [inner, digit, h1, h2, hb']
      have HL := Lib.hid h1
      have i1 : (c : Int) < 48 := by omega
      clear h1 h2 hb hb'
      go_enter Tryd.func54, Tryd.ntmps54
      go_wp2_with fail
      refine (letter_any c _).mono ?_
      rintro e w' ⟨rfl, rfl⟩
      rw [HL.out]
      go_wp2_with fail
      go_ret
      exact ⟨ret_bool HE.out.symm, rfl⟩
end By
end Go.Proofs.YtpgnckjgclbepaaDoor
