/- The program's and the reference's predicates on bytes. No condition. -/
import Derived.Test.YtfobogcccbddbaaGreatDoorZac
import Derived.Test.YtfobogcccbddbaaGreatDoorShelf
namespace Go.Proofs.YtfobogcccbddbaaGreatDoor
namespace By
open Go.RowKit WireN LexN
set_option linter.unusedVariables false
set_option linter.unusedSimpArgs false

set_option maxRecDepth 100000 in
set_option maxHeartbeats 400000 in
theorem isLetter_any (c : Nat) (w : World) : Calls Tryz.prog 125 #[.int .u8 (c : Nat)] w fun e w' => e = .returned (.bool (letter c)) ∧ w = w' := by
  by_cases h1 : 97 ≤ c
  · by_cases h2 : c ≤ 122
    · have HE : Hid (letter c = true) := by show _ = _; simp [letter, h1, h2]
      have i1 : (97 : Int) ≤ (c : Int) := by omega
      have i2 : (c : Int) ≤ 122 := by omega
      clear h1 h2
      go_enter Tryz.func125, Tryz.ntmps125
      go_wp2_with fail
      go_ret
      exact ⟨ret_bool HE.out.symm, rfl⟩
    · have HE : Hid (letter c = false) := by show _ = _; simp [letter, h1, h2]
      have i1 : (97 : Int) ≤ (c : Int) := by omega
      have i2 : (122 : Int) < (c : Int) := by omega
      have i3 : decide ((c : Int) ≤ 122) = false := by simp; omega
      clear h1 h2
      go_enter Tryz.func125, Tryz.ntmps125
      go_wp2_with fail
      go_ret
      exact ⟨ret_bool HE.out.symm, rfl⟩
  · have HE : Hid (letter c = false) := by show _ = _; simp [letter, h1]
    have i1 : (c : Int) < 97 := by omega
    clear h1
    go_enter Tryz.func125, Tryz.ntmps125
    go_wp2_with fail
    go_ret
    exact ⟨ret_bool HE.out.symm, rfl⟩
set_option maxRecDepth 100000 in
set_option maxHeartbeats 400000 in
theorem isDigit_any (c : Nat) (w : World) : Calls Tryz.prog 126 #[.int .u8 (c : Nat)] w fun e w' => e = .returned (.bool (digit c)) ∧ w = w' := by
  by_cases h1 : 48 ≤ c
  · by_cases h2 : c ≤ 57
    · have HE : Hid (digit c = true) := by show _ = _; simp [digit, h1, h2]
      have i1 : (48 : Int) ≤ (c : Int) := by omega
      have i2 : (c : Int) ≤ 57 := by omega
      clear h1 h2
      go_enter Tryz.func126, Tryz.ntmps126
      go_wp2_with fail
      go_ret
      exact ⟨ret_bool HE.out.symm, rfl⟩
    · have HE : Hid (digit c = false) := by show _ = _; simp [digit, h1, h2]
      have i1 : (48 : Int) ≤ (c : Int) := by omega
      have i2 : (57 : Int) < (c : Int) := by omega
      have i3 : decide ((c : Int) ≤ 57) = false := by simp; omega
      clear h1 h2
      go_enter Tryz.func126, Tryz.ntmps126
      go_wp2_with fail
      go_ret
      exact ⟨ret_bool HE.out.symm, rfl⟩
  · have HE : Hid (digit c = false) := by show _ = _; simp [digit, h1]
    have i1 : (c : Int) < 48 := by omega
    clear h1
    go_enter Tryz.func126, Tryz.ntmps126
    go_wp2_with fail
    go_ret
    exact ⟨ret_bool HE.out.symm, rfl⟩
set_option maxRecDepth 100000 in
set_option maxHeartbeats 400000 in
theorem letter_any (c : Nat) (w : World) : Calls Tryz.prog 96 #[.int .u8 (c : Nat)] w fun e w' => e = .returned (.bool (letter c)) ∧ w = w' := by
  by_cases h1 : 97 ≤ c
  · by_cases h2 : c ≤ 122
    · have HE : Hid (letter c = true) := by show _ = _; simp [letter, h1, h2]
      have i1 : (97 : Int) ≤ (c : Int) := by omega
      have i2 : (c : Int) ≤ 122 := by omega
      clear h1 h2
      go_enter Tryz.func96, Tryz.ntmps96
      go_wp2_with fail
      go_ret
      exact ⟨ret_bool HE.out.symm, rfl⟩
    · have HE : Hid (letter c = false) := by show _ = _; simp [letter, h1, h2]
      have i1 : (97 : Int) ≤ (c : Int) := by omega
      have i2 : (122 : Int) < (c : Int) := by omega
      have i3 : decide ((c : Int) ≤ 122) = false := by simp; omega
      clear h1 h2
      go_enter Tryz.func96, Tryz.ntmps96
      go_wp2_with fail
      go_ret
      exact ⟨ret_bool HE.out.symm, rfl⟩
  · have HE : Hid (letter c = false) := by show _ = _; simp [letter, h1]
    have i1 : (c : Int) < 97 := by omega
    clear h1
    go_enter Tryz.func96, Tryz.ntmps96
    go_wp2_with fail
    go_ret
    exact ⟨ret_bool HE.out.symm, rfl⟩
set_option maxRecDepth 100000 in
set_option maxHeartbeats 400000 in
theorem isOfName_any (c : Nat) (w : World) : Calls Tryz.prog 111 #[.int .u8 (c : Nat)] w fun e w' => e = .returned (.bool (inner c)) ∧ w = w' := by
  by_cases h1 : letter c = true
  · have HE : Hid (inner c = true) := by show _ = _; simp [inner, h1]
    have HL := Lib.hid h1; clear h1
    go_enter Tryz.func111, Tryz.ntmps111
    go_wp2_with fail
    refine (isLetter_any c _).mono ?_
    rintro e w' ⟨rfl, rfl⟩
    rw [HL.out]
    go_wp2_with fail
    go_ret
    exact ⟨ret_bool HE.out.symm, rfl⟩
  · have h1 : letter c = false := by simpa using h1
    by_cases h2 : digit c = true
    · have HE : Hid (inner c = true) := by show _ = _; simp [inner, h2]
      have HL := Lib.hid h1; have HD := Lib.hid h2; clear h1 h2
      go_enter Tryz.func111, Tryz.ntmps111
      go_wp2_with fail
      refine (isLetter_any c _).mono ?_
      rintro e w' ⟨rfl, rfl⟩
      rw [HL.out]
      go_wp2_with fail
      refine (isDigit_any c _).mono ?_
      rintro e w' ⟨rfl, rfl⟩
      rw [HD.out]
      go_wp2_with fail
      go_ret
      exact ⟨ret_bool HE.out.symm, rfl⟩
    · have h2 : digit c = false := by simpa using h2
      have HL := Lib.hid h1; have HD := Lib.hid h2
      obtain ⟨b, hb⟩ : ∃ b, b = ((c : Int) == 95) := ⟨_, rfl⟩
      have HE : Hid (inner c = b) := by
        show _ = _
        rw [hb]
        by_cases h3 : c = 95
        · simp [inner, h1, h2, h3]
        · have : ((c : Int) == 95) = false := beq_eq_false_iff_ne.2 (by omega)
          rw [this]; simp [inner, h1, h2, h3]
      have i1 : ((c : Int) == 95) = b := hb.symm
      clear h1 h2 hb
      go_enter Tryz.func111, Tryz.ntmps111
      go_wp2_with fail
      refine (isLetter_any c _).mono ?_
      rintro e w' ⟨rfl, rfl⟩
      rw [HL.out]
      go_wp2_with fail
      refine (isDigit_any c _).mono ?_
      rintro e w' ⟨rfl, rfl⟩
      rw [HD.out]
      go_wp2_with fail
      go_ret
      exact ⟨ret_bool HE.out.symm, rfl⟩
set_option maxRecDepth 100000 in
set_option maxHeartbeats 400000 in
theorem isOfPart_any (c : Nat) (w : World) : Calls Tryz.prog 101 #[.int .u8 (c : Nat)] w fun e w' => e = .returned (.bool (part' c)) ∧ w = w' := by
  by_cases h1 : inner c = true
  · have HE : Hid (part' c = true) := by show _ = _; simp [part', h1]
    have HL := Lib.hid h1; clear h1
    go_enter Tryz.func101, Tryz.ntmps101
    go_wp2_with fail
    refine (isOfName_any c _).mono ?_
    rintro e w' ⟨rfl, rfl⟩
    rw [HL.out]
    go_wp2_with fail
    go_ret
    exact ⟨ret_bool HE.out.symm, rfl⟩
  · have h1 : inner c = false := by simpa using h1
    have HL := Lib.hid h1
    obtain ⟨b, hb⟩ : ∃ b, b = ((c : Int) == 46) := ⟨_, rfl⟩
    have HE : Hid (part' c = b) := by
      show _ = _
      rw [hb]
      by_cases h3 : c = 46
      · simp [part', h1, h3]
      · have : ((c : Int) == 46) = false := beq_eq_false_iff_ne.2 (by omega)
        rw [this]; simp [part', h1, h3]
    have i1 : ((c : Int) == 46) = b := hb.symm
    clear h1 hb
    go_enter Tryz.func101, Tryz.ntmps101
    go_wp2_with fail
    refine (isOfName_any c _).mono ?_
    rintro e w' ⟨rfl, rfl⟩
    rw [HL.out]
    go_wp2_with fail
    go_ret
    exact ⟨ret_bool HE.out.symm, rfl⟩
set_option maxRecDepth 100000 in
set_option maxHeartbeats 400000 in
theorem inner_any (c : Nat) (w : World) : Calls Tryz.prog 72 #[.int .u8 (c : Nat)] w fun e w' => e = .returned (.bool (inner c)) ∧ w = w' := by
  by_cases h1 : letter c = true
  · have HE : Hid (inner c = true) := by show _ = _; simp [inner, h1]
    have HL := Lib.hid h1; clear h1
    go_enter Tryz.func72, Tryz.ntmps72
    go_wp2_with fail
    refine (letter_any c _).mono ?_
    rintro e w' ⟨rfl, rfl⟩
    rw [HL.out]
    go_wp2_with fail
    go_ret
    exact ⟨ret_bool HE.out.symm, rfl⟩
  · have h1 : letter c = false := by simpa using h1
    obtain ⟨b, hb⟩ : ∃ b, b = ((c : Int) == 95) := ⟨_, rfl⟩
    have hb' : (c == 95) = b := by
      rw [hb]
      by_cases h3 : c = 95
      · simp [h3]
      · have : ((c : Int) == 95) = false := beq_eq_false_iff_ne.2 (by omega)
        rw [this]; simp [h3]
    have i3 : ((c : Int) == 95) = b := hb.symm
    by_cases h2 : 48 ≤ c
    · by_cases h3 : c ≤ 57
      · have HE : Hid (inner c = true) := by show _ = _; simp [inner, digit, h1, h2, h3]
        have HL := Lib.hid h1
        have i1 : (48 : Int) ≤ (c : Int) := by omega
        have i2 : (c : Int) ≤ 57 := by omega
        clear h1 h2 h3 hb hb'
        go_enter Tryz.func72, Tryz.ntmps72
        go_wp2_with fail
        refine (letter_any c _).mono ?_
        rintro e w' ⟨rfl, rfl⟩
        rw [HL.out]
        go_wp2_with fail
        go_ret
        exact ⟨ret_bool HE.out.symm, rfl⟩
      · have HE : Hid (inner c = b) := by show _ = _; simp [inner, digit, h1, h2, h3, hb']
        have HL := Lib.hid h1
        have i1 : (48 : Int) ≤ (c : Int) := by omega
        have i2 : (57 : Int) < (c : Int) := by omega
        have i4 : decide ((c : Int) ≤ 57) = false := by simp; omega
        clear h1 h2 h3 hb hb'
        go_enter Tryz.func72, Tryz.ntmps72
        go_wp2_with fail
        refine (letter_any c _).mono ?_
        rintro e w' ⟨rfl, rfl⟩
        rw [HL.out]
        go_wp2_with fail
        go_ret
        exact ⟨ret_bool HE.out.symm, rfl⟩
    · have HE : Hid (inner c = b) := by show _ = _; simp [inner, digit, h1, h2, hb']
      have HL := Lib.hid h1
      have i1 : (c : Int) < 48 := by omega
      clear h1 h2 hb hb'
      go_enter Tryz.func72, Tryz.ntmps72
      go_wp2_with fail
      refine (letter_any c _).mono ?_
      rintro e w' ⟨rfl, rfl⟩
      rw [HL.out]
      go_wp2_with fail
      go_ret
      exact ⟨ret_bool HE.out.symm, rfl⟩
end By
end Go.Proofs.YtfobogcccbddbaaGreatDoor

/- The program's span. Conditions: the place lies in the string, the string has at most a million bytes, the function tells what is named. -/
namespace Go.Proofs.YtfobogcccbddbaaGreatDoor
namespace By
open Go.RowKit WireN LexN
set_option linter.unusedVariables false
set_option linter.unusedSimpArgs false

structure Fits (f : Nat) (p : Nat → Bool) : Prop where
  enter : ∀ (args : Array Value) (w : World), (callFunc f args).run Tryz.prog w = .ok (.enter f args) w
  any : ∀ (c : Nat) (w : World), Calls Tryz.prog f #[.int .u8 (c : Nat)] w fun e w' => e = .returned (.bool (p c)) ∧ w = w'
theorem fitsName : Fits 111 inner := ⟨Tryz.call111, isOfName_any⟩
theorem fitsDigit : Fits 126 digit := ⟨Tryz.call126, isDigit_any⟩
theorem fitsPart : Fits 101 part' := ⟨Tryz.call101, isOfPart_any⟩
set_option maxRecDepth 100000 in
set_option maxHeartbeats 1000000 in
theorem span_any {l : List Nat} (hl : Lt l) (hlen : l.length ≤ 1000000) {f : Nat} {p : Nat → Bool} (hf : Fits f p) {i : Nat} (hi : i ≤ l.length) (w : World) :
    Calls Tryz.prog 110 #[.string (st l), .int .i64 (i : Nat), .func (.func f) #[] #[]] w fun e w' => e = .returned (.int .i64 (spn p l i : Nat)) ∧ w = w' := by
  have HL := Lib.hid hl; have HF := Lib.hid hf; have hin := hf.enter
  obtain ⟨n, hn⟩ : ∃ n, n = l.length := ⟨_, rfl⟩
  have HN := Lib.hid hn
  have qs : ∀ w, (Builtin.len_ #[9] 3 #[.string (st l)]).run Tryz.prog w = .ok (goInt n) w := fun w => by rw [hn]; exact len w
  rw [← hn] at hlen hi
  obtain ⟨S, hS⟩ : ∃ S, S = st l := ⟨_, rfl⟩
  have HS := Lib.hid hS
  rw [← hS] at qs ⊢
  clear hl hf hn hS
  go_enter Tryz.func110, Tryz.ntmps110
  go_wp2_with fail
  go_loop [1] (fun v => ∃ k : Nat, v = .int .i64 k ∧ k ≤ n ∧ spn p l k = spn p l i) (fun v => n - (intOf v).toNat)
  case atStart => exact ⟨i, rfl, hi, rfl⟩
  case round =>
    obtain ⟨k, rfl, hk, hr⟩ := hrel
    have HR := Lib.hid hr
    clear hr
    by_cases hkn : k < n
    · have hx : ∀ w, (Instr.index 9 (.string S) (.int .i64 (k : Int))).run Tryz.prog w = .ok (.int .u8 (at' l k : Nat)) w := fun w => by rw [HS.out]; exact idx HL.out (by have := HN.out; omega) w
      obtain ⟨c, hc⟩ : ∃ c, c = at' l k := ⟨_, rfl⟩
      rw [← hc] at hx
      have HC := Lib.hid hc
      clear hc
      go_wp2_with fail
      refine (HF.out.any c _).mono ?_
      rintro e w' ⟨rfl, rfl⟩
      by_cases hp : p c = true
      · have HP := Lib.hid hp
        rw [HP.out]
        clear hp
        go_wp2_with fail
        go_round
        case rel => exact ⟨k + 1, by go_num, by omega, by rw [← HR.out]; exact (spn_step (by have := HN.out; omega) (by rw [← HC.out]; exact HP.out)).symm⟩
        case measure => simp [intOf]; omega
      · have hp : p c = false := by simpa using hp
        have HP := Lib.hid hp
        rw [HP.out]
        clear hp
        go_wp2_with fail
        go_ret
        exact ⟨by (rw [← HR.out, spn_no (by rw [← HC.out]; exact HP.out) (by have := HN.out; omega)]) <;> rfl, rfl⟩
    · go_wp2_with fail
      go_ret
      exact ⟨by (rw [← HR.out, spn_end (by have := HN.out; omega)]) <;> rfl, rfl⟩
end By
end Go.Proofs.YtfobogcccbddbaaGreatDoor

/- The program's Name and Path. Conditions: the string has at most a million bytes; for Path, a package variable of the library holds some integer. -/
namespace Go.Proofs.YtfobogcccbddbaaGreatDoor
namespace By
open Go.RowKit WireN LexN
set_option linter.unusedVariables false
set_option linter.unusedSimpArgs false

set_option maxRecDepth 100000 in
set_option maxHeartbeats 1000000 in
theorem consists_any {l : List Nat} (hl : Lt l) (hlen : l.length ≤ 1000000) {f : Nat} {p : Nat → Bool} (hf : Fits f p) (w : World) :
    Calls Tryz.prog 100 #[.string (st l), .func (.func f) #[] #[]] w fun e w' => e = .returned (.bool (LexN.cons p l)) ∧ w = w' := by
  obtain ⟨n, hn⟩ : ∃ n, n = l.length := ⟨_, rfl⟩
  have qs : ∀ w, (Builtin.len_ #[9] 3 #[.string (st l)]).run Tryz.prog w = .ok (goInt n) w := fun w => by rw [hn]; exact len w
  by_cases h1 : 1 ≤ n
  · by_cases h2 : n ≤ 24
    · have HSP : Hid (∀ w, Calls Tryz.prog 110 #[.string (st l), .int .i64 0, .func (.func f) #[] #[]] w fun e w' => e = .returned (.int .i64 (spn p l 0 : Nat)) ∧ w = w') := Lib.hid (fun w => span_any hl hlen hf (i := 0) (by omega) w)
      obtain ⟨q, hq⟩ : ∃ q, q = spn p l 0 := ⟨_, rfl⟩
      rw [← hq] at HSP
      obtain ⟨b, hb⟩ : ∃ b, b = ((q : Int) == (n : Int)) := ⟨_, rfl⟩
      have HE : Hid (LexN.cons p l = b) := Lib.hid (by
        unfold LexN.cons
        rw [← hn, ← hq, hb, decide_eq_true h1, decide_eq_true h2]
        simp only [Bool.true_and]
        by_cases e : q = n
        · simp [e]
        · have : ((q : Int) == (n : Int)) = false := beq_eq_false_iff_ne.2 (by omega)
          rw [this]; simp [e])
      have i1 : ((q : Int) == (n : Int)) = b := hb.symm
      have i2 : (1 : Int) ≤ (n : Int) := by omega
      have i3 : (n : Int) ≤ 24 := by omega
      obtain ⟨S, hS⟩ : ∃ S, S = st l := ⟨_, rfl⟩
      rw [← hS] at qs HSP ⊢
      clear hn hq hb hS hl h1 h2 hf
      go_enter Tryz.func100, Tryz.ntmps100
      go_wp2_with fail
      refine (HSP.out _).mono ?_
      rintro e w' ⟨rfl, rfl⟩
      go_wp2_with fail
      go_ret
      exact ⟨ret_bool HE.out.symm, rfl⟩
    · have HE : Hid (LexN.cons p l = false) := Lib.hid (by unfold LexN.cons; rw [← hn, decide_eq_false h2]; simp)
      have i2 : (1 : Int) ≤ (n : Int) := by omega
      have i3 : (24 : Int) < (n : Int) := by omega
      have i4 : decide ((n : Int) ≤ 24) = false := by simp; omega
      obtain ⟨S, hS⟩ : ∃ S, S = st l := ⟨_, rfl⟩
      rw [← hS] at qs ⊢
      clear hn hS hl h1 h2 hf hlen
      go_enter Tryz.func100, Tryz.ntmps100
      go_wp2_with fail
      go_ret
      exact ⟨ret_bool HE.out.symm, rfl⟩
  · have HE : Hid (LexN.cons p l = false) := Lib.hid (by unfold LexN.cons; rw [← hn, decide_eq_false h1]; simp)
    have i3 : (n : Int) < 1 := by omega
    have i4 : decide ((1 : Int) ≤ (n : Int)) = false := by simp; omega
    obtain ⟨S, hS⟩ : ∃ S, S = st l := ⟨_, rfl⟩
    rw [← hS] at qs ⊢
    clear hn hS hl h1 hf hlen
    go_enter Tryz.func100, Tryz.ntmps100
    go_wp2_with fail
    go_ret
    exact ⟨ret_bool HE.out.symm, rfl⟩
theorem cons_pos {p : Nat → Bool} {l : List Nat} (h : LexN.cons p l = true) : 1 ≤ l.length := by
  unfold LexN.cons at h
  simp only [Bool.and_eq_true, decide_eq_true_eq] at h
  exact h.1
/-- The library's pieces are the parts. -/
theorem split_st {l : List Nat} (hl : Lt l) : Lib.splitB ⟨#[47]⟩ 0 (Lib.countB (st l) ⟨#[47]⟩) (st l) = (parts l).map st := by
  have h1 := Lib.splitB_data ⟨#[47]⟩ 0 (Lib.countB (st l) ⟨#[47]⟩) (st l)
  have hd : ∀ xs : List Nat, (st xs).data.toList = xs.map fun n => UInt8.ofNat n := fun xs => by simp [st]
  have h2 := split_parts l (fun x hx => hl.mem hx)
  have h3 : Lib.splitK [47] 0 (Lib.countB (st l) ⟨#[47]⟩) (st l).data.toList = (parts l).map fun p => p.map fun n => UInt8.ofNat n := by
    rw [← h2, hd]
    unfold Lib.split
    congr 1
  have h4 : (Lib.splitB ⟨#[47]⟩ 0 (Lib.countB (st l) ⟨#[47]⟩) (st l)).map (·.data.toList) = ((parts l).map st).map (·.data.toList) := by
    rw [h1, List.map_map]
    refine Eq.trans h3 ?_
    refine List.map_congr_left fun p _ => ?_
    exact (hd p).symm
  refine List.map_inj_right (f := fun s : ByteArray => s.data.toList) (fun a b e => ?_) |>.1 h4
  cases a; cases b
  simp only [ByteArray.mk.injEq]
  exact Array.toList_inj.1 e
theorem split_count {l : List Nat} (hl : Lt l) : Lib.countB (st l) ⟨#[47]⟩ + 1 = (parts l).length := by
  have h := congrArg List.length (split_st hl)
  rw [List.length_map, Lib.splitB_all ⟨#[47]⟩ (by decide) 0 _ _ rfl] at h
  exact h
theorem lt_mem {l : List Nat} (h : ∀ x ∈ l, x < 256) : Lt l := lt_of_mem h

set_option maxRecDepth 100000 in
set_option maxHeartbeats 1000000 in
theorem Path_any {l : List Nat} (hl : Lt l) (hlen : l.length ≤ 1000000) {m : Int} {w : World} (hm : w.cell? ⟨0, 0, none⟩ = some (.int .i64 m)) :
    Calls Tryz.prog 79 #[.string (st l)] w fun e w' => e = .returned (.bool (pathB l)) ∧ Kp w w' := by
  obtain ⟨n, hn⟩ : ∃ n, n = l.length := ⟨_, rfl⟩
  have qs : ∀ w, (Builtin.len_ #[9] 3 #[.string (st l)]).run Tryz.prog w = .ok (goInt n) w := fun w => by rw [hn]; exact len w
  have HSPL := Lib.hid (Tryz.strings_Split (st l) ⟨#[47]⟩ m w (by rw [st_size]; omega) hm (by decide))
  rw [split_count hl, split_st hl] at HSPL
  have hpl := parts_len l
  have HSUB := Lib.hid (fun p hp => parts_sub l p hp)
  obtain ⟨ps, hps⟩ : ∃ ps, ps = parts l := ⟨_, rfl⟩
  obtain ⟨pn, hpn⟩ : ∃ pn, pn = ps.length := ⟨_, rfl⟩
  have hpB : pathB l = (decide (n ≤ 80) && (decide (pn ≤ 8) && ps.all (LexN.cons part'))) := by rw [hn, hpn, hps]; rfl
  rw [← hps] at HSPL HSUB hpl
  rw [← hpn] at HSPL hpl
  have HPN := Lib.hid hpn
  have HLEN : Hid (l.length ≤ 1000000) := Lib.hid hlen
  have HLT := Lib.hid hl
  obtain ⟨S, hS⟩ : ∃ S, S = st l := ⟨_, rfl⟩
  rw [← hS] at qs HSPL ⊢
  have hpn1 : pn ≤ 1000001 := by omega
  by_cases h1 : n ≤ 80
  · have i1 : (n : Int) ≤ 80 := by omega
    by_cases h2 : pn ≤ 8
    · have i2 : (pn : Int) ≤ 8 := by omega
      have HPB : Hid (pathB l = ps.all (LexN.cons part')) := Lib.hid (by rw [hpB, decide_eq_true h1, decide_eq_true h2]; simp)
      clear hpB hn hS hm hps hpn hl hlen hpl
      go_enter Tryz.func79, Tryz.ntmps79
      go_wp2_with fail
      refine HSPL.out.mono ?_
      rintro e w1 ⟨rfl, hw1⟩
      have HK1 : Hid (Kp w w1) := Lib.hid (hw1 ▸ kp_alloc w _)
      have HB1 : Hid (Blk w1 w.heap.size 9 ((ps.map st).map Value.string).toArray) := Lib.hid (hw1 ▸ Blk.new w _ _)
      clear hw1
      go_wp2_with fail
      go_loop [16] (fun v => ∃ k : Nat, v = .int .i64 k ∧ k ≤ pn ∧ (ps.take k).all (LexN.cons part') = true) (fun v => pn - (intOf v).toNat)
      case atStart => exact ⟨0, rfl, Nat.zero_le _, by simp⟩
      case round =>
        obtain ⟨k, rfl, hk, hall⟩ := hrel
        have HALL := Lib.hid hall
        clear hall
        by_cases hkp : k < pn
        · have hkl : k < ps.length := by have := HPN.out; omega
          have hc : w1.cell? ⟨w.heap.size, k, none⟩ = some (.string (st ps[k])) := HB1.out.cell k (by simp [hkl])
          have hmem := HSUB.out ps[k] (List.getElem_mem hkl)
          have HST : Hid ((ps.take (k + 1)).all (LexN.cons part') = LexN.cons part' ps[k]) := Lib.hid (by
            rw [List.take_succ_eq_append_getElem hkl, List.all_append, HALL.out]; simp)
          have HMEM : Hid (ps[k] ∈ ps) := Lib.hid (List.getElem_mem hkl)
          obtain ⟨x, hx⟩ : ∃ x, x = ps[k] := ⟨_, rfl⟩
          rw [← hx] at hc hmem HST HMEM
          have HCO := Lib.hid (fun w => consists_any (l := x) (lt_mem fun y hy => HLT.out.mem (hmem.2 y hy)) (by have := HLEN.out; omega) fitsPart w)
          obtain ⟨X, hX⟩ : ∃ X, X = st x := ⟨_, rfl⟩
          rw [← hX] at hc HCO
          clear hx hmem hkl hX
          go_wp2_with fail
          refine (HCO.out _).mono ?_
          rintro e w' ⟨rfl, rfl⟩
          by_cases hb : LexN.cons part' x = true
          · rw [hb]
            have HB := Lib.hid hb
            clear hb
            go_wp2_with fail
            go_round
            case rel => exact ⟨k + 1, by go_num, by omega, by rw [HST.out]; exact HB.out⟩
            case measure => simp [intOf]; omega
          · have hb : LexN.cons part' x = false := by simpa using hb
            have HF : Hid (pathB l = false) := Lib.hid (by
              rw [HPB.out, Bool.eq_false_iff]
              intro h
              have := List.all_eq_true.1 h x HMEM.out
              rw [hb] at this; cases this)
            rw [hb]
            clear hb
            go_wp2_with fail
            go_ret
            exact ⟨ret_bool HF.out.symm, HK1.out⟩
        · have HF : Hid (pathB l = true) := Lib.hid (by
            have h := HALL.out
            rw [List.take_of_length_le (by have := HPN.out; omega)] at h
            rw [HPB.out, h])
          go_wp2_with fail
          go_ret
          exact ⟨ret_bool HF.out.symm, HK1.out⟩
    · have i2 : (8 : Int) < (pn : Int) := by omega
      have HF : Hid (pathB l = false) := Lib.hid (by rw [hpB, decide_eq_false h2]; simp)
      clear hpB hn hS hm hps hpn hl hlen hpl
      go_enter Tryz.func79, Tryz.ntmps79
      go_wp2_with fail
      refine HSPL.out.mono ?_
      rintro e w1 ⟨rfl, hw1⟩
      have HK1 : Hid (Kp w w1) := Lib.hid (hw1 ▸ kp_alloc w _)
      clear hw1
      go_wp2_with fail
      go_ret
      exact ⟨ret_bool HF.out.symm, HK1.out⟩
  · have i1 : (80 : Int) < (n : Int) := by omega
    have HF : Hid (pathB l = false) := Lib.hid (by rw [hpB, decide_eq_false h1]; simp)
    clear hpB hn hS hm hps hpn hl hlen hpl
    go_enter Tryz.func79, Tryz.ntmps79
    go_wp2_with fail
    go_ret
    exact ⟨ret_bool HF.out.symm, Kp.refl _⟩
end By
end Go.Proofs.YtfobogcccbddbaaGreatDoor

/- The reference's Name and Path. Condition: the string has at most a million bytes. -/
namespace Go.Proofs.YtfobogcccbddbaaGreatDoor
namespace By
open Go.RowKit WireN LexN
set_option linter.unusedVariables false
set_option linter.unusedSimpArgs false

theorem all_take {p : Nat → Bool} {l : List Nat} {k : Nat} (h : k < l.length) : (l.take (k + 1)).all p = ((l.take k).all p && p (at' l k)) := by
  rw [List.take_succ_eq_append_getElem h, List.all_append]
  simp [at', h]
theorem all_false {p : Nat → Bool} {l : List Nat} {k : Nat} (h : k < l.length) (hp : p (at' l k) = false) : l.all p = false := by
  rw [Bool.eq_false_iff]
  intro ha
  have := List.all_eq_true.1 ha l[k] (List.getElem_mem h)
  simp [at', h] at hp
  rw [hp] at this; cases this
theorem scan_end (l : List Nat) {k p q : Nat} (h : l.length ≤ k) : scan (l.drop k) p q = (decide (0 < q) && decide (p ≤ 8)) := by
  rw [List.drop_eq_nil_of_le h]; rfl
theorem scan_step {l : List Nat} {k p q : Nat} (h : k < l.length) : scan (l.drop k) p q = if at' l k = 47 then (if q = 0 then false else scan (l.drop (k + 1)) (p + 1) 0) else if part' (at' l k) = true then (if 24 < q + 1 then false else scan (l.drop (k + 1)) p (q + 1)) else false := by
  rw [drop_at h, scan]
set_option maxRecDepth 100000 in
set_option maxHeartbeats 1000000 in
theorem rPath_any {l : List Nat} (hl : Lt l) (hlen : l.length ≤ 1000000) (w : World) :
    Calls Tryz.prog 46 #[.string (st l)] w fun e w' => e = .returned (.bool (pathB l)) ∧ w = w' := by
  obtain ⟨n, hn⟩ : ∃ n, n = l.length := ⟨_, rfl⟩
  have HN := Lib.hid hn
  have qs : ∀ w, (Builtin.len_ #[9] 3 #[.string (st l)]).run Tryz.prog w = .ok (goInt n) w := fun w => by rw [hn]; exact len w
  have hB := pathB_scan l
  rw [← hn] at hB
  by_cases h1 : n ≤ 80
  · have i1 : (n : Int) ≤ 80 := by omega
    rw [decide_eq_true h1, Bool.true_and] at hB
    have HB := Lib.hid hB
    obtain ⟨S, hS⟩ : ∃ S, S = st l := ⟨_, rfl⟩
    have HS := Lib.hid hS; have HL := Lib.hid hl
    rw [← hS] at qs ⊢
    clear hn hS hl hB hlen
    go_enter Tryz.func46, Tryz.ntmps46
    go_wp2_with fail
    go_loop [3, 4, 5] (fun p q v => ∃ k P Q : Nat, v = .int .i64 k ∧ k ≤ n ∧ p = .int .i64 P ∧ P ≤ k + 1 ∧ q = .int .i64 Q ∧ Q ≤ k ∧ Q ≤ 24 ∧ pathB l = scan (l.drop k) P Q) (fun _ _ v => n - (intOf v).toNat)
    case atStart => exact ⟨0, 1, 0, rfl, Nat.zero_le _, rfl, by omega, rfl, by omega, by omega, HB.out⟩
    case round =>
      obtain ⟨k, P, Q, rfl, hk, rfl, hP, rfl, hQ, hQ24, hsc⟩ := hrel
      have HSC := Lib.hid hsc
      clear hsc
      by_cases hkn : k < n
      · have hx : ∀ w, (Instr.index 9 (.string S) (.int .i64 (k : Int))).run Tryz.prog w = .ok (.int .u8 (at' l k : Nat)) w := fun w => by rw [HS.out]; exact idx HL.out (by have := HN.out; omega) w
        have HST := Lib.hid (scan_step (l := l) (k := k) (p := P) (q := Q) (by have := HN.out; omega))
        obtain ⟨c, hc⟩ : ∃ c, c = at' l k := ⟨_, rfl⟩
        rw [← hc] at hx HST
        clear hc
        by_cases h47 : c = 47
        · have b1 : ((c : Int) == 47) = true := by rw [h47]; rfl
          by_cases hQ0 : Q = 0
          · have b2 : ((Q : Int) == 0) = true := by rw [hQ0]; rfl
            have HF : Hid (pathB l = false) := Lib.hid (by rw [HSC.out, HST.out, if_pos h47, if_pos hQ0])
            clear h47 hQ0
            go_wp2_with fail
            go_ret
            exact ⟨ret_bool HF.out.symm, rfl⟩
          · have b2 : ((Q : Int) == 0) = false := beq_eq_false_iff_ne.2 (by omega)
            have HF : Hid (pathB l = scan (l.drop (k + 1)) (P + 1) 0) := Lib.hid (by rw [HSC.out, HST.out, if_pos h47, if_neg hQ0])
            clear h47 hQ0
            go_wp2_with fail
            go_round
            case rel => exact ⟨k + 1, P + 1, 0, by go_num, by omega, by go_num, by omega, rfl, by omega, by omega, HF.out⟩
            case measure => simp [intOf]; omega
        · have b1 : ((c : Int) == 47) = false := beq_eq_false_iff_ne.2 (by omega)
          obtain ⟨b, hb⟩ : ∃ b, b = ((c : Int) == 46) := ⟨_, rfl⟩
          have hpt : part' c = (inner c || b) := by
            unfold part'
            rw [hb]
            by_cases h3 : c = 46
            · simp [h3]
            · have : ((c : Int) == 46) = false := beq_eq_false_iff_ne.2 (by omega)
              rw [this]; simp [h3]
          have b3 : ((c : Int) == 46) = b := hb.symm
          clear hb
          by_cases hpa : part' c = true
          · have hor : inner c = true ∨ (inner c = false ∧ b = true) := by
              rw [hpt] at hpa
              cases h : inner c <;> simp_all
            by_cases h24 : 24 < Q + 1
            · have b2 : (24 : Int) < (Q : Int) + 1 := by omega
              have HF : Hid (pathB l = false) := Lib.hid (by rw [HSC.out, HST.out, if_neg h47, if_pos hpa, if_pos h24])
              clear h47 hpa h24 hpt
              rcases hor with hi | ⟨hi, hbt⟩
              · have HI := Lib.hid hi; clear hi
                go_wp2_with fail
                refine (inner_any c _).mono ?_
                rintro e w' ⟨rfl, rfl⟩
                rw [HI.out]
                go_wp2_with fail
                go_ret
                exact ⟨ret_bool HF.out.symm, rfl⟩
              · subst hbt
                have HI := Lib.hid hi; clear hi
                go_wp2_with fail
                refine (inner_any c _).mono ?_
                rintro e w' ⟨rfl, rfl⟩
                rw [HI.out]
                go_wp2_with fail
                go_ret
                exact ⟨ret_bool HF.out.symm, rfl⟩
            · have b2 : (Q : Int) + 1 ≤ 24 := by omega
              have HF : Hid (pathB l = scan (l.drop (k + 1)) P (Q + 1)) := Lib.hid (by rw [HSC.out, HST.out, if_neg h47, if_pos hpa, if_neg h24])
              clear h47 hpa h24 hpt
              rcases hor with hi | ⟨hi, hbt⟩
              · have HI := Lib.hid hi; clear hi
                go_wp2_with fail
                refine (inner_any c _).mono ?_
                rintro e w' ⟨rfl, rfl⟩
                rw [HI.out]
                go_wp2_with fail
                go_round
                case rel => exact ⟨k + 1, P, Q + 1, by go_num, by omega, rfl, by omega, by go_num, by omega, by omega, HF.out⟩
                case measure => simp [intOf]; omega
              · subst hbt
                have HI := Lib.hid hi; clear hi
                go_wp2_with fail
                refine (inner_any c _).mono ?_
                rintro e w' ⟨rfl, rfl⟩
                rw [HI.out]
                go_wp2_with fail
                go_round
                case rel => exact ⟨k + 1, P, Q + 1, by go_num, by omega, rfl, by omega, by go_num, by omega, by omega, HF.out⟩
                case measure => simp [intOf]; omega
          · have hpa : part' c = false := by simpa using hpa
            have HF : Hid (pathB l = false) := Lib.hid (by rw [HSC.out, HST.out, if_neg h47, if_neg (by simp [hpa])])
            rw [hpt] at hpa
            have hi : inner c = false := by cases h : inner c <;> simp_all
            have hbf : b = false := by rw [hi] at hpa; simpa using hpa
            subst hbf
            have HI := Lib.hid hi
            clear h47 hpa hpt hi
            go_wp2_with fail
            refine (inner_any c _).mono ?_
            rintro e w' ⟨rfl, rfl⟩
            rw [HI.out]
            go_wp2_with fail
            go_ret
            exact ⟨ret_bool HF.out.symm, rfl⟩
      · have HE := Lib.hid (scan_end l (k := k) (p := P) (q := Q) (by have := HN.out; omega))
        by_cases hQ0 : 0 < Q
        · have j1 : (0 : Int) < (Q : Int) := by omega
          by_cases hP8 : P ≤ 8
          · have j2 : (P : Int) ≤ 8 := by omega
            have HF : Hid (pathB l = true) := Lib.hid (by rw [HSC.out, HE.out, decide_eq_true hQ0, decide_eq_true hP8]; rfl)
            clear hQ0 hP8
            go_wp2_with fail
            go_ret
            exact ⟨ret_bool HF.out.symm, rfl⟩
          · have j2 : decide ((P : Int) ≤ 8) = false := by simp; omega
            have j3 : (8 : Int) < (P : Int) := by omega
            have HF : Hid (pathB l = false) := Lib.hid (by rw [HSC.out, HE.out, decide_eq_false hP8]; simp)
            clear hQ0 hP8
            go_wp2_with fail
            go_ret
            exact ⟨ret_bool HF.out.symm, rfl⟩
        · have j1 : decide ((0 : Int) < (Q : Int)) = false := by simp; omega
          have j3 : (Q : Int) ≤ 0 := by omega
          have j4 : decide (0 < Q) = false := decide_eq_false hQ0
          have HF : Hid (pathB l = false) := Lib.hid (by rw [HSC.out, HE.out, decide_eq_false hQ0]; simp)
          clear hQ0
          go_wp2_with fail
          go_ret
          exact ⟨ret_bool HF.out.symm, rfl⟩
  · have i1 : (80 : Int) < (n : Int) := by omega
    have HF : Hid (pathB l = false) := Lib.hid (by rw [hB, decide_eq_false h1]; simp)
    obtain ⟨S, hS⟩ : ∃ S, S = st l := ⟨_, rfl⟩
    rw [← hS] at qs ⊢
    clear hn hS hl h1 hB hlen
    go_enter Tryz.func46, Tryz.ntmps46
    go_wp2_with fail
    go_ret
    exact ⟨ret_bool HF.out.symm, rfl⟩
end By
end Go.Proofs.YtfobogcccbddbaaGreatDoor

/- Path where a package variable of the library holds some integer. Condition: it does. -/
namespace Go.Proofs.YtfobogcccbddbaaGreatDoor
namespace By
open Go.RowKit WireN LexN
set_option linter.unusedVariables false
set_option linter.unusedSimpArgs false

/-- The package variable of the library that Split's contract asks for. -/
def MX (w : World) : Prop := ∃ m : Int, w.cell? ⟨0, 0, none⟩ = some (.int .i64 m)
theorem MX.keep {w w' : World} (h : MX w) (hk : Kp w w') : MX w' := by
  obtain ⟨m, hm⟩ := h
  exact ⟨m, cell_kept hm hk⟩
theorem Path_mx {l : List Nat} (hl : Lt l) (hlen : l.length ≤ 1000000) {w : World} (hm : MX w) :
    Calls Tryz.prog 79 #[.string (st l)] w fun e w' => e = .returned (.bool (pathB l)) ∧ Kp w w' := by
  obtain ⟨m, hm⟩ := hm
  exact Path_any hl hlen hm
theorem lt_dec {l : List Nat} (h : l.all (fun x => decide (x < 256)) = true) : Lt l := lt_of_mem fun x hx => by simpa using List.all_eq_true.1 h x hx
end By
end Go.Proofs.YtfobogcccbddbaaGreatDoor

/- What a revision is: its errors, its bytes, what bytes are read as. Plain mathematics. No condition. -/
namespace Go.Proofs.YtfobogcccbddbaaGreatDoor
namespace RevN
open WireN LexN
set_option linter.unusedVariables false
set_option linter.unusedSimpArgs false

/-- A file: its path and its bytes. -/
abbrev Fl := List Nat × List Nat
/-- The order of strings. -/
def lss : List Nat → List Nat → Bool
  | _, [] => false
  | [], _ :: _ => true
  | a :: x, b :: y => decide (a < b) || (a == b && lss x y)
theorem lss_nil (x : List Nat) : lss x [] = false := by cases x <;> rfl
theorem lss_self : ∀ x : List Nat, lss x x = false
  | [] => rfl
  | a :: x => by simp [lss, lss_self x]
/-- The error of a file behind another one. -/
def fileE (before : List Nat) (f : Fl) : Nat :=
  if pathB f.1 = false then 6 else if f.1 = before then 10 else if lss f.1 before = true then 6 else if 16384 < f.2.length then 2 else 0
def chkL : List Nat → List Fl → Nat
  | _, [] => 0
  | before, f :: fs => if fileE before f ≠ 0 then fileE before f else chkL f.1 fs
/-- The error of a revision. -/
def chk (fs : List Fl) : Nat := if 64 < fs.length then 2 else chkL [] fs
theorem fileE_le (p : List Nat) (f : Fl) : fileE p f ≤ 10 := by unfold fileE; split <;> (try split) <;> (try split) <;> (try split) <;> omega
theorem chkL_le : ∀ (fs : List Fl) (p : List Nat), chkL p fs ≤ 10
  | [], p => by simp [chkL]
  | f :: fs, p => by
    unfold chkL
    split
    · exact fileE_le _ _
    · exact chkL_le fs _
theorem chk_le (fs : List Fl) : chk fs ≤ 10 := by
  unfold chk
  split
  · omega
  · exact chkL_le _ _
/-- The path of the file before. -/
def bef (fs : List Fl) (k : Nat) : List Nat := if k = 0 then [] else (fs[k - 1]?.getD ([], [])).1
theorem bef_zero (fs : List Fl) : bef fs 0 = [] := rfl
theorem bef_succ {fs : List Fl} {k : Nat} {f : Fl} (h : fs[k]? = some f) : bef fs (k + 1) = f.1 := by simp [bef, h]
theorem chkL_step {fs : List Fl} {k : Nat} {f : Fl} (h : fs[k]? = some f) (p : List Nat) : chkL p (fs.drop k) = if fileE p f ≠ 0 then fileE p f else chkL f.1 (fs.drop (k + 1)) := by
  obtain ⟨hk, he⟩ := List.getElem?_eq_some_iff.1 h
  rw [List.drop_eq_getElem_cons hk, he]
  rfl
/-- A revision that is well-formed. -/
theorem chk_ok {fs : List Fl} (h : chk fs = 0) : fs.length ≤ 64 ∧ chkL [] fs = 0 := by
  unfold chk at h
  split at h
  · omega
  · exact ⟨by omega, h⟩
theorem fileE_ok {p : List Nat} {f : Fl} (h : fileE p f = 0) : pathB f.1 = true ∧ f.1 ≠ p ∧ lss f.1 p = false ∧ f.2.length ≤ 16384 := by
  unfold fileE at h
  split at h
  · omega
  · split at h
    · omega
    · split at h
      · omega
      · split at h
        · omega
        · rename_i h1 h2 h3 h4
          exact ⟨by simpa using h1, h2, by simpa using h3, by omega⟩
theorem chkL_mem : ∀ {fs : List Fl} {p : List Nat}, chkL p fs = 0 → ∀ f ∈ fs, pathB f.1 = true ∧ f.2.length ≤ 16384
  | [], p, _, f, hf => by simp at hf
  | g :: fs, p, h, f, hf => by
    unfold chkL at h
    split at h
    · rename_i h1; omega
    · rename_i h1
      have h1 : fileE p g = 0 := by omega
      rcases List.mem_cons.1 hf with rfl | hf
      · exact ⟨(fileE_ok h1).1, (fileE_ok h1).2.2.2⟩
      · exact chkL_mem h f hf
theorem path_len {p : List Nat} (h : pathB p = true) : p.length ≤ 80 := by
  unfold pathB at h
  simp only [Bool.and_eq_true, decide_eq_true_eq] at h
  exact h.1
theorem path_nil : pathB [] = false := by decide +kernel
theorem path_ne {p : List Nat} (h : pathB p = true) : p ≠ [] := fun e => by rw [e, path_nil] at h; cases h
/-- The payload of a file, its frame, and the bytes of a revision. -/
def payF (f : Fl) : List Nat := uv f.1.length ++ f.1 ++ (uv f.2.length ++ f.2)
def encF (f : Fl) : List Nat := fr 1 (payF f)
def encB (fs : List Fl) : List Nat := (fs.map encF).flatten
def enc (fs : List Fl) : List Nat := encB fs ++ fr 2 (uv fs.length)
theorem encB_take {fs : List Fl} {k : Nat} {f : Fl} (h : fs[k]? = some f) : encB (fs.take (k + 1)) = encB (fs.take k) ++ encF f := by
  unfold encB
  rw [List.take_add_one, h]
  simp
theorem payF_len {f : Fl} (hp : f.1.length ≤ 80) (hb : f.2.length ≤ 16384) : (payF f).length ≤ 16500 := by
  have h1 := uv_ten (n := f.1.length) (by omega)
  have h2 := uv_ten (n := f.2.length) (by omega)
  simp only [payF, List.length_append]
  omega
theorem encF_len {f : Fl} (hp : f.1.length ≤ 80) (hb : f.2.length ≤ 16384) : (encF f).length ≤ 16600 := by
  have h1 := payF_len hp hb
  have h2 := uv_ten (n := (payF f).length) (by omega)
  unfold encF
  rw [fr_len]
  omega
theorem encB_len : ∀ {fs : List Fl}, (∀ f ∈ fs, f.1.length ≤ 80 ∧ f.2.length ≤ 16384) → (encB fs).length ≤ 16600 * fs.length
  | [], _ => by simp [encB]
  | f :: fs, h => by
    have h1 := encF_len (h f (by simp)).1 (h f (by simp)).2
    have h2 := encB_len (fs := fs) (fun g hg => h g (by simp [hg]))
    simp only [encB, List.map_cons, List.flatten_cons, List.length_append, List.length_cons] at h2 ⊢
    omega
/-- The file that a payload means. -/
def rdF (l : List Nat) : Option Fl :=
  if (rdT l 0 l.length).2.2 ≠ 0 then none
  else if (rdT l (rdT l 0 l.length).2.1 l.length).2.2 ≠ 0 ∨ (rdT l (rdT l 0 l.length).2.1 l.length).2.1 ≠ l.length then none
  else some ((rdT l 0 l.length).1, (rdT l (rdT l 0 l.length).2.1 l.length).1)
/-- The files of frames. -/
def rdL : List (Nat × List Nat) → Option (List Fl)
  | [] => some []
  | f :: fs => if f.1 = 1 then match rdF f.2 with | none => none | some x => match rdL fs with | none => none | some r => some (x :: r) else none
theorem rdL_snoc : ∀ (a : List (Nat × List Nat)) (f : Nat × List Nat) (r : List Fl) (x : Fl), rdL a = some r → f.1 = 1 → rdF f.2 = some x → rdL (a ++ [f]) = some (r ++ [x])
  | [], f, r, x, h, h1, h2 => by
    obtain rfl : [] = r := by simpa [rdL] using h
    simp [rdL, h1, h2]
  | g :: a, f, r, x, h, h1, h2 => by
    simp only [List.cons_append, rdL] at h ⊢
    split at h
    · rename_i hg
      rw [if_pos hg]
      split at h
      · cases h
      · rename_i y hy
        split at h
        · cases h
        · rename_i r' hr'
          injection h with h
          rw [rdL_snoc a f r' x hr' h1 h2]
          simp [← h]
    · cases h
theorem rdL_bad : ∀ (fs : List (Nat × List Nat)) (k : Nat) (f : Nat × List Nat), fs[k]? = some f → (f.1 ≠ 1 ∨ rdF f.2 = none) → rdL fs = none
  | [], k, f, h, _ => by simp at h
  | g :: fs, 0, f, h, hb => by
    obtain rfl : g = f := by simpa using h
    unfold rdL
    rcases hb with hb | hb
    · rw [if_neg hb]
    · split
      · rw [hb]
      · rfl
  | g :: fs, k + 1, f, h, hb => by
    unfold rdL
    rw [rdL_bad fs k f (by simpa using h) hb]
    split
    · split <;> rfl
    · rfl
theorem rdL_len : ∀ (fs : List (Nat × List Nat)) (r : List Fl), rdL fs = some r → r.length = fs.length
  | [], r, h => by
    obtain rfl : [] = r := by simpa [rdL] using h
    rfl
  | g :: fs, r, h => by
    simp only [rdL] at h
    split at h
    · split at h
      · cases h
      · split at h
        · cases h
        · rename_i r' hr'
          injection h with h
          rw [← h, List.length_cons, List.length_cons, rdL_len fs r' hr']
    · cases h
/-- Whether a payload is a number. -/
def isN (l : List Nat) (n : Nat) : Bool := decide ((rd l 0).1 = n) && (decide ((rd l 0).2.2 = 0) && decide ((rd l 0).2.1 = l.length))
/-- What frames are read as: the error, the files. -/
def dec (fs : List (Nat × List Nat)) (E : Nat) : Nat × List Fl :=
  if E ≠ 0 then (E, []) else
  if fs.length = 0 ∨ (fs[fs.length - 1]?.getD (0, [])).1 ≠ 2 then (7, []) else
  match rdL (fs.take (fs.length - 1)) with
  | none => (6, [])
  | some r => if isN (fs[fs.length - 1]?.getD (0, [])).2 (fs.length - 1) = false then (6, []) else if chk r ≠ 0 then (chk r, []) else (0, r)
end RevN
end Go.Proofs.YtfobogcccbddbaaGreatDoor
