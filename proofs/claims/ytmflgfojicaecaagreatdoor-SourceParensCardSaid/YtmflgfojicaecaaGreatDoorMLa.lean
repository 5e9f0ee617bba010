/- Strings as lists of bytes: index, length, parts, the way to bytes and back. Conditions: the places lie in the string. -/
import Derived.Test.YtmflgfojicaecaaGreatDoorStr
import Derived.Test.YtmflgfojicaecaaGreatDoorLx
namespace Go.Proofs.YtmflgfojicaecaaGreatDoor
namespace By
open Go.RowKit WireN LexN
set_option linter.unusedVariables false
set_option linter.unusedSimpArgs false

theorem idx {l : List Nat} (hl : Lt l) {i : Nat} (h : i < l.length) (w : World) : (Instr.index 9 (.string (st l)) (.int .i64 (i : Int))).run Tryz.prog w = .ok (.int .u8 (at' l i : Nat)) w := by
  have hrs : i < (st l).size := by rw [st_size]; exact h
  have h1 : i < (st l).data.toList.length := hrs
  rw [run_index_string w 9 (st l) .i64 i Tryz.underlying9, dif_pos (by omega)]
  have e := bs_get (st l) i hrs
  rw [bs_st hl, List.getD_eq_getElem?_getD, List.getElem?_eq_getElem h1] at e
  unfold at'
  rw [← e]
  rfl
theorem len {l : List Nat} (w : World) : (Builtin.len_ #[9] 3 #[.string (st l)]).run Tryz.prog w = .ok (goInt l.length) w := by
  rw [run_len_string w _ _ (st l) Tryz.underlying9, st_size]
theorem st_sub {l : List Nat} {i j : Nat} : (st l).extract i j = st (sub l i j) := by
  unfold st sub
  apply ByteArray.ext
  apply Array.ext'
  simp [List.map_drop, List.map_take, ByteArray.data_extract, List.drop_take]
/-- s[i:j] -/
theorem cut {l : List Nat} {i j : Nat} (hij : i ≤ j) (hj : j ≤ l.length) (w : World) : (Instr.slice 9 (.string (st l)) (some (.int .i64 (i : Int))) (some (.int .i64 (j : Int))) none).run Tryz.prog w = .ok (.string (st (sub l i j))) w := by
  rw [run_slice_string w 9 (st l) .i64 .i64 i j Tryz.underlying9 (by omega) (by omega) (by rw [st_size]; omega), Int.toNat_natCast, Int.toNat_natCast, st_sub]
/-- s[i:] -/
theorem cut_from {l : List Nat} {i : Nat} (hi : i ≤ l.length) (w : World) : (Instr.slice 9 (.string (st l)) (some (.int .i64 (i : Int))) none none).run Tryz.prog w = .ok (.string (st (l.drop i))) w := by
  rw [run_slice_string_l w 9 (st l) Tryz.underlying9 .i64 i (by omega) (by rw [st_size]; omega), Int.toNat_natCast, st_sub, st_size]
  unfold sub
  rw [List.take_of_length_le (Nat.le_refl _)]
/-- s[:j] -/
theorem cut_to {l : List Nat} {j : Nat} (hj : j ≤ l.length) (w : World) : (Instr.slice 9 (.string (st l)) none (some (.int .i64 (j : Int))) none).run Tryz.prog w = .ok (.string (st (l.take j))) w := by
  rw [run_slice_string_h w 9 (st l) Tryz.underlying9 .i64 j (by omega) (by rw [st_size]; omega), Int.toNat_natCast, st_sub]
  rfl
end By
end Go.Proofs.YtmflgfojicaecaaGreatDoor

/- The program's and the reference's predicates on bytes. No condition. -/
namespace Go.Proofs.YtmflgfojicaecaaGreatDoor
namespace By
open Go.RowKit WireN LexN
set_option linter.unusedVariables false
set_option linter.unusedSimpArgs false

set_option maxRecDepth 100000 in
set_option maxHeartbeats 400000 in
theorem isLetter_any (c : Nat) (w : World) : Calls Tryz.prog 136 #[.int .u8 (c : Nat)] w fun e w' => e = .returned (.bool (letter c)) ∧ w = w' := by
  by_cases h1 : 97 ≤ c
  · by_cases h2 : c ≤ 122
    · have HE : Hid (letter c = true) := by show _ = _; simp [letter, h1, h2]
      have i1 : (97 : Int) ≤ (c : Int) := by omega
      have i2 : (c : Int) ≤ 122 := by omega
      clear h1 h2
      go_enter Tryz.func136, Tryz.ntmps136
      go_wp2_with fail
      go_ret
      exact ⟨ret_bool HE.out.symm, rfl⟩
    · have HE : Hid (letter c = false) := by show _ = _; simp [letter, h1, h2]
      have i1 : (97 : Int) ≤ (c : Int) := by omega
      have i2 : (122 : Int) < (c : Int) := by omega
      have i3 : decide ((c : Int) ≤ 122) = false := by simp; omega
      clear h1 h2
      go_enter Tryz.func136, Tryz.ntmps136
      go_wp2_with fail
      go_ret
      exact ⟨ret_bool HE.out.symm, rfl⟩
  · have HE : Hid (letter c = false) := by show _ = _; simp [letter, h1]
    have i1 : (c : Int) < 97 := by omega
    clear h1
    go_enter Tryz.func136, Tryz.ntmps136
    go_wp2_with fail
    go_ret
    exact ⟨ret_bool HE.out.symm, rfl⟩
set_option maxRecDepth 100000 in
set_option maxHeartbeats 400000 in
theorem isDigit_any (c : Nat) (w : World) : Calls Tryz.prog 120 #[.int .u8 (c : Nat)] w fun e w' => e = .returned (.bool (digit c)) ∧ w = w' := by
  by_cases h1 : 48 ≤ c
  · by_cases h2 : c ≤ 57
    · have HE : Hid (digit c = true) := by show _ = _; simp [digit, h1, h2]
      have i1 : (48 : Int) ≤ (c : Int) := by omega
      have i2 : (c : Int) ≤ 57 := by omega
      clear h1 h2
      go_enter Tryz.func120, Tryz.ntmps120
      go_wp2_with fail
      go_ret
      exact ⟨ret_bool HE.out.symm, rfl⟩
    · have HE : Hid (digit c = false) := by show _ = _; simp [digit, h1, h2]
      have i1 : (48 : Int) ≤ (c : Int) := by omega
      have i2 : (57 : Int) < (c : Int) := by omega
      have i3 : decide ((c : Int) ≤ 57) = false := by simp; omega
      clear h1 h2
      go_enter Tryz.func120, Tryz.ntmps120
      go_wp2_with fail
      go_ret
      exact ⟨ret_bool HE.out.symm, rfl⟩
  · have HE : Hid (digit c = false) := by show _ = _; simp [digit, h1]
    have i1 : (c : Int) < 48 := by omega
    clear h1
    go_enter Tryz.func120, Tryz.ntmps120
    go_wp2_with fail
    go_ret
    exact ⟨ret_bool HE.out.symm, rfl⟩
set_option maxRecDepth 100000 in
set_option maxHeartbeats 400000 in
theorem letter_any (c : Nat) (w : World) : Calls Tryz.prog 106 #[.int .u8 (c : Nat)] w fun e w' => e = .returned (.bool (letter c)) ∧ w = w' := by
  by_cases h1 : 97 ≤ c
  · by_cases h2 : c ≤ 122
    · have HE : Hid (letter c = true) := by show _ = _; simp [letter, h1, h2]
      have i1 : (97 : Int) ≤ (c : Int) := by omega
      have i2 : (c : Int) ≤ 122 := by omega
      clear h1 h2
      go_enter Tryz.func106, Tryz.ntmps106
      go_wp2_with fail
      go_ret
      exact ⟨ret_bool HE.out.symm, rfl⟩
    · have HE : Hid (letter c = false) := by show _ = _; simp [letter, h1, h2]
      have i1 : (97 : Int) ≤ (c : Int) := by omega
      have i2 : (122 : Int) < (c : Int) := by omega
      have i3 : decide ((c : Int) ≤ 122) = false := by simp; omega
      clear h1 h2
      go_enter Tryz.func106, Tryz.ntmps106
      go_wp2_with fail
      go_ret
      exact ⟨ret_bool HE.out.symm, rfl⟩
  · have HE : Hid (letter c = false) := by show _ = _; simp [letter, h1]
    have i1 : (c : Int) < 97 := by omega
    clear h1
    go_enter Tryz.func106, Tryz.ntmps106
    go_wp2_with fail
    go_ret
    exact ⟨ret_bool HE.out.symm, rfl⟩
set_option maxRecDepth 100000 in
set_option maxHeartbeats 400000 in
theorem isOfLine_any (c : Nat) (w : World) : Calls Tryz.prog 83 #[.int .u8 (c : Nat)] w fun e w' => e = .returned (.bool (line c)) ∧ w = w' := by
  by_cases h1 : c = 10
  · have HE : Hid (line c = false) := by show _ = _; simp [line, h1]
    have i1 : ((c : Int) != 10) = false := by rw [h1]; rfl
    have i2 : ((c : Int) == 10) = true := by rw [h1]; rfl
    clear h1
    go_enter Tryz.func83, Tryz.ntmps83
    go_wp2_with fail
    go_ret
    exact ⟨ret_bool HE.out.symm, rfl⟩
  · have HE : Hid (line c = true) := by show _ = _; simp [line, h1]
    have i1 : ((c : Int) != 10) = true := by rw [bne_iff_ne]; omega
    have i2 : ((c : Int) == 10) = false := beq_eq_false_iff_ne.2 (by omega)
    clear h1
    go_enter Tryz.func83, Tryz.ntmps83
    go_wp2_with fail
    go_ret
    exact ⟨ret_bool HE.out.symm, rfl⟩
set_option maxRecDepth 100000 in
set_option maxHeartbeats 400000 in
theorem isOfText_any (c : Nat) (w : World) : Calls Tryz.prog 121 #[.int .u8 (c : Nat)] w fun e w' => e = .returned (.bool (txt c)) ∧ w = w' := by
  by_cases h1 : 32 ≤ c
  · by_cases h2 : c ≤ 126
    · by_cases h3 : c = 34
      · have HE : Hid (txt c = false) := by show _ = _; simp [txt, h3]
        have i1 : (32 : Int) ≤ (c : Int) := by omega
        have i2 : (c : Int) ≤ 126 := by omega
        have i3 : ((c : Int) != 34) = false := by rw [h3]; rfl
        have i4 : ((c : Int) == 34) = true := by rw [h3]; rfl
        clear h1 h2 h3
        go_enter Tryz.func121, Tryz.ntmps121
        go_wp2_with fail
        go_ret
        exact ⟨ret_bool HE.out.symm, rfl⟩
      · have HE : Hid (txt c = true) := by show _ = _; simp [txt, h1, h2, h3]
        have i1 : (32 : Int) ≤ (c : Int) := by omega
        have i2 : (c : Int) ≤ 126 := by omega
        have i3 : ((c : Int) != 34) = true := by rw [bne_iff_ne]; omega
        have i4 : ((c : Int) == 34) = false := beq_eq_false_iff_ne.2 (by omega)
        clear h1 h2 h3
        go_enter Tryz.func121, Tryz.ntmps121
        go_wp2_with fail
        go_ret
        exact ⟨ret_bool HE.out.symm, rfl⟩
    · have HE : Hid (txt c = false) := by show _ = _; simp [txt, h2]
      have i1 : (32 : Int) ≤ (c : Int) := by omega
      have i2 : (126 : Int) < (c : Int) := by omega
      clear h1 h2
      go_enter Tryz.func121, Tryz.ntmps121
      go_wp2_with fail
      go_ret
      exact ⟨ret_bool HE.out.symm, rfl⟩
  · have HE : Hid (txt c = false) := by show _ = _; simp [txt, h1]
    have i1 : (c : Int) < 32 := by omega
    clear h1
    go_enter Tryz.func121, Tryz.ntmps121
    go_wp2_with fail
    go_ret
    exact ⟨ret_bool HE.out.symm, rfl⟩
set_option maxRecDepth 100000 in
set_option maxHeartbeats 400000 in
theorem isOfName_any (c : Nat) (w : World) : Calls Tryz.prog 118 #[.int .u8 (c : Nat)] w fun e w' => e = .returned (.bool (inner c)) ∧ w = w' := by
  by_cases h1 : letter c = true
  · have HE : Hid (inner c = true) := by show _ = _; simp [inner, h1]
    have HL := Lib.hid h1; clear h1
    go_enter Tryz.func118, Tryz.ntmps118
    go_wp2_with fail
    refine (isLetter_any c _).mono ?_
    rintro e w' ⟨rfl, rfl⟩
    rw [HL.out]
    go_wp2_with fail
    go_ret
    exact ⟨ret_bool HE.out.symm, rfl⟩
  · have h1 : letter c = false := by simpa using h1
    by_cases h2 : digit c = true
    · have HE : Hid (inner c = true) := by show _ = _; simp [inner, h2]
      have HL := Lib.hid h1; have HD := Lib.hid h2; clear h1 h2
      go_enter Tryz.func118, Tryz.ntmps118
      go_wp2_with fail
      refine (isLetter_any c _).mono ?_
      rintro e w' ⟨rfl, rfl⟩
      rw [HL.out]
      go_wp2_with fail
      refine (isDigit_any c _).mono ?_
      rintro e w' ⟨rfl, rfl⟩
      rw [HD.out]
      go_wp2_with fail
      go_ret
      exact ⟨ret_bool HE.out.symm, rfl⟩
    · have h2 : digit c = false := by simpa using h2
      have HL := Lib.hid h1; have HD := Lib.hid h2
      obtain ⟨b, hb⟩ : ∃ b, b = ((c : Int) == 95) := ⟨_, rfl⟩
      have HE : Hid (inner c = b) := by
        show _ = _
        rw [hb]
        by_cases h3 : c = 95
        · simp [inner, h1, h2, h3]
        · have : ((c : Int) == 95) = false := beq_eq_false_iff_ne.2 (by omega)
          rw [this]; simp [inner, h1, h2, h3]
      have i1 : ((c : Int) == 95) = b := hb.symm
      clear h1 h2 hb
      go_enter Tryz.func118, Tryz.ntmps118
      go_wp2_with fail
      refine (isLetter_any c _).mono ?_
      rintro e w' ⟨rfl, rfl⟩
      rw [HL.out]
      go_wp2_with fail
      refine (isDigit_any c _).mono ?_
      rintro e w' ⟨rfl, rfl⟩
      rw [HD.out]
      go_wp2_with fail
      go_ret
      exact ⟨ret_bool HE.out.symm, rfl⟩
set_option maxRecDepth 100000 in
set_option maxHeartbeats 400000 in
theorem isOfPart_any (c : Nat) (w : World) : Calls Tryz.prog 141 #[.int .u8 (c : Nat)] w fun e w' => e = .returned (.bool (part' c)) ∧ w = w' := by
  by_cases h1 : inner c = true
  · have HE : Hid (part' c = true) := by show _ = _; simp [part', h1]
    have HL := Lib.hid h1; clear h1
    go_enter Tryz.func141, Tryz.ntmps141
    go_wp2_with fail
    refine (isOfName_any c _).mono ?_
    rintro e w' ⟨rfl, rfl⟩
    rw [HL.out]
    go_wp2_with fail
    go_ret
    exact ⟨ret_bool HE.out.symm, rfl⟩
  · have h1 : inner c = false := by simpa using h1
    have HL := Lib.hid h1
    obtain ⟨b, hb⟩ : ∃ b, b = ((c : Int) == 46) := ⟨_, rfl⟩
    have HE : Hid (part' c = b) := by
      show _ = _
      rw [hb]
      by_cases h3 : c = 46
      · simp [part', h1, h3]
      · have : ((c : Int) == 46) = false := beq_eq_false_iff_ne.2 (by omega)
        rw [this]; simp [part', h1, h3]
    have i1 : ((c : Int) == 46) = b := hb.symm
    clear h1 hb
    go_enter Tryz.func141, Tryz.ntmps141
    go_wp2_with fail
    refine (isOfName_any c _).mono ?_
    rintro e w' ⟨rfl, rfl⟩
    rw [HL.out]
    go_wp2_with fail
    go_ret
    exact ⟨ret_bool HE.out.symm, rfl⟩
set_option maxRecDepth 100000 in
set_option maxHeartbeats 400000 in
theorem inner_any (c : Nat) (w : World) : Calls Tryz.prog 64 #[.int .u8 (c : Nat)] w fun e w' => e = .returned (.bool (inner c)) ∧ w = w' := by
  by_cases h1 : letter c = true
  · have HE : Hid (inner c = true) := by show _ = _; simp [inner, h1]
    have HL := Lib.hid h1; clear h1
    go_enter Tryz.func64, Tryz.ntmps64
    go_wp2_with fail
    refine (letter_any c _).mono ?_
    rintro e w' ⟨rfl, rfl⟩
    rw [HL.out]
    go_wp2_with fail
    go_ret
    exact ⟨ret_bool HE.out.symm, rfl⟩
  · have h1 : letter c = false := by simpa using h1
    obtain ⟨b, hb⟩ : ∃ b, b = ((c : Int) == 95) := ⟨_, rfl⟩
    have hb' : (c == 95) = b := by
      rw [hb]
      by_cases h3 : c = 95
      · simp [h3]
      · have : ((c : Int) == 95) = false := beq_eq_false_iff_ne.2 (by omega)
        rw [this]; simp [h3]
    have i3 : ((c : Int) == 95) = b := hb.symm
    by_cases h2 : 48 ≤ c
    · by_cases h3 : c ≤ 57
      · have HE : Hid (inner c = true) := by show _ = _; simp [inner, digit, h1, h2, h3]
        have HL := Lib.hid h1
        have i1 : (48 : Int) ≤ (c : Int) := by omega
        have i2 : (c : Int) ≤ 57 := by omega
        clear h1 h2 h3 hb hb'
        go_enter Tryz.func64, Tryz.ntmps64
        go_wp2_with fail
        refine (letter_any c _).mono ?_
        rintro e w' ⟨rfl, rfl⟩
        rw [HL.out]
        go_wp2_with fail
        go_ret
        exact ⟨ret_bool HE.out.symm, rfl⟩
      · have HE : Hid (inner c = b) := by show _ = _; simp [inner, digit, h1, h2, h3, hb']
        have HL := Lib.hid h1
        have i1 : (48 : Int) ≤ (c : Int) := by omega
        have i2 : (57 : Int) < (c : Int) := by omega
        have i4 : decide ((c : Int) ≤ 57) = false := by simp; omega
        clear h1 h2 h3 hb hb'
        go_enter Tryz.func64, Tryz.ntmps64
        go_wp2_with fail
        refine (letter_any c _).mono ?_
        rintro e w' ⟨rfl, rfl⟩
        rw [HL.out]
        go_wp2_with fail
        go_ret
        exact ⟨ret_bool HE.out.symm, rfl⟩
    · have HE : Hid (inner c = b) := by show _ = _; simp [inner, digit, h1, h2, hb']
      have HL := Lib.hid h1
      have i1 : (c : Int) < 48 := by omega
      clear h1 h2 hb hb'
      go_enter Tryz.func64, Tryz.ntmps64
      go_wp2_with fail
      refine (letter_any c _).mono ?_
      rintro e w' ⟨rfl, rfl⟩
      rw [HL.out]
      go_wp2_with fail
      go_ret
      exact ⟨ret_bool HE.out.symm, rfl⟩
end By
end Go.Proofs.YtmflgfojicaecaaGreatDoor

/- The program's span. Conditions: the place lies in the string, the string has at most a million bytes, the function tells what is named. -/
namespace Go.Proofs.YtmflgfojicaecaaGreatDoor
namespace By
open Go.RowKit WireN LexN
set_option linter.unusedVariables false
set_option linter.unusedSimpArgs false

structure Fits (f : Nat) (p : Nat → Bool) : Prop where
  enter : ∀ (args : Array Value) (w : World), (callFunc f args).run Tryz.prog w = .ok (.enter f args) w
  any : ∀ (c : Nat) (w : World), Calls Tryz.prog f #[.int .u8 (c : Nat)] w fun e w' => e = .returned (.bool (p c)) ∧ w = w'
theorem fitsName : Fits 118 inner := ⟨Tryz.call118, isOfName_any⟩
theorem fitsDigit : Fits 120 digit := ⟨Tryz.call120, isDigit_any⟩
theorem fitsText : Fits 121 txt := ⟨Tryz.call121, isOfText_any⟩
theorem fitsLine : Fits 83 line := ⟨Tryz.call83, isOfLine_any⟩
theorem fitsPart : Fits 141 part' := ⟨Tryz.call141, isOfPart_any⟩
set_option maxRecDepth 100000 in
set_option maxHeartbeats 1000000 in
theorem span_any {l : List Nat} (hl : Lt l) (hlen : l.length ≤ 1000000) {f : Nat} {p : Nat → Bool} (hf : Fits f p) {i : Nat} (hi : i ≤ l.length) (w : World) :
    Calls Tryz.prog 82 #[.string (st l), .int .i64 (i : Nat), .func (.func f) #[] #[]] w fun e w' => e = .returned (.int .i64 (spn p l i : Nat)) ∧ w = w' := by
  have HL := Lib.hid hl; have HF := Lib.hid hf; have hin := hf.enter
  obtain ⟨n, hn⟩ : ∃ n, n = l.length := ⟨_, rfl⟩
  have HN := Lib.hid hn
  have qs : ∀ w, (Builtin.len_ #[9] 3 #[.string (st l)]).run Tryz.prog w = .ok (goInt n) w := fun w => by rw [hn]; exact len w
  rw [← hn] at hlen hi
  obtain ⟨S, hS⟩ : ∃ S, S = st l := ⟨_, rfl⟩
  have HS := Lib.hid hS
  rw [← hS] at qs ⊢
  clear hl hf hn hS
  go_enter Tryz.func82, Tryz.ntmps82
  go_wp2_with fail
  go_loop [1] (fun v => ∃ k : Nat, v = .int .i64 k ∧ k ≤ n ∧ spn p l k = spn p l i) (fun v => n - (intOf v).toNat)
  case atStart => exact ⟨i, rfl, hi, rfl⟩
  case round =>
    obtain ⟨k, rfl, hk, hr⟩ := hrel
    have HR := Lib.hid hr
    clear hr
    by_cases hkn : k < n
    · have hx : ∀ w, (Instr.index 9 (.string S) (.int .i64 (k : Int))).run Tryz.prog w = .ok (.int .u8 (at' l k : Nat)) w := fun w => by rw [HS.out]; exact idx HL.out (by have := HN.out; omega) w
      obtain ⟨c, hc⟩ : ∃ c, c = at' l k := ⟨_, rfl⟩
      rw [← hc] at hx
      have HC := Lib.hid hc
      clear hc
      go_wp2_with fail
      refine (HF.out.any c _).mono ?_
      rintro e w' ⟨rfl, rfl⟩
      by_cases hp : p c = true
      · have HP := Lib.hid hp
        rw [HP.out]
        clear hp
        go_wp2_with fail
        go_round
        case rel => exact ⟨k + 1, by go_num, by omega, by rw [← HR.out]; exact (spn_step (by have := HN.out; omega) (by rw [← HC.out]; exact HP.out)).symm⟩
        case measure => simp [intOf]; omega
      · have hp : p c = false := by simpa using hp
        have HP := Lib.hid hp
        rw [HP.out]
        clear hp
        go_wp2_with fail
        go_ret
        exact ⟨by (rw [← HR.out, spn_no (by rw [← HC.out]; exact HP.out) (by have := HN.out; omega)]) <;> rfl, rfl⟩
    · go_wp2_with fail
      go_ret
      exact ⟨by (rw [← HR.out, spn_end (by have := HN.out; omega)]) <;> rfl, rfl⟩
end By
end Go.Proofs.YtmflgfojicaecaaGreatDoor
