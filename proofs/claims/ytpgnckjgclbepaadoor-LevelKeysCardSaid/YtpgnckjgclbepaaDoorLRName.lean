/- The reference's Name and Path. Condition: the string has at most a million bytes. -/
import Derived.Test.YtpgnckjgclbepaaDoorLName
namespace Go.Proofs.YtpgnckjgclbepaaDoor
namespace By
open Go.RowKit WireN LexN
set_option linter.unusedVariables false
set_option linter.unusedSimpArgs false

theorem all_take {p : Nat → Bool} {l : List Nat} {k : Nat} (h : k < l.length) : (l.take (k + 1)).all p = ((l.take k).all p && p (at' l k)) := by
  rw [List.take_succ_eq_append_getElem h, List.all_append]
  simp [at', h]
theorem all_false {p : Nat → Bool} {l : List Nat} {k : Nat} (h : k < l.length) (hp : p (at' l k) = false) : l.all p = false := by
  rw [Bool.eq_false_iff]
  intro ha
  have := List.all_eq_true.1 ha l[k] (List.getElem_mem h)
  simp [at', h] at hp
  rw [hp] at this; cases this
set_option maxRecDepth 100000 in
set_option maxHeartbeats 1000000 in
theorem rName_any {l : List Nat} (hl : Lt l) (hlen : l.length ≤ 1000000) (w : World) :
    Calls Tryd.prog 39 #[.string (st l)] w fun e w' => e = .returned (.bool (nameB l)) ∧ w = w' := by
  obtain ⟨n, hn⟩ : ∃ n, n = l.length := ⟨_, rfl⟩
  have HN := Lib.hid hn
  have qs : ∀ w, (Builtin.len_ #[9] 3 #[.string (st l)]).run Tryd.prog w = .ok (goInt n) w := fun w => by rw [hn]; exact len w
  have hB : nameB l = ((decide (1 ≤ n) && (decide (n ≤ 24) && l.all inner)) && letter (at' l 0)) := by unfold nameB; rw [cons_eq, hn]
  by_cases h1 : 1 ≤ n
  · have i1 : (1 : Int) ≤ (n : Int) := by omega
    by_cases h2 : n ≤ 24
    · have i2 : (n : Int) ≤ 24 := by omega
      rw [decide_eq_true h1, decide_eq_true h2] at hB
      simp only [Bool.true_and] at hB
      have hx0 : ∀ w, (Instr.index 9 (.string (st l)) (.int .i64 0)).run Tryd.prog w = .ok (.int .u8 (at' l 0 : Nat)) w := fun w => idx hl (i := 0) (by omega) w
      obtain ⟨S, hS⟩ : ∃ S, S = st l := ⟨_, rfl⟩
      have HS := Lib.hid hS; have HL := Lib.hid hl
      rw [← hS] at qs hx0 ⊢
      obtain ⟨c, hc⟩ : ∃ c, c = at' l 0 := ⟨_, rfl⟩
      rw [← hc] at hx0 hB
      by_cases hlt : letter c = true
      · have HLT := Lib.hid hlt
        rw [hlt, Bool.and_true] at hB
        have HB := Lib.hid hB
        clear hn hS hl h1 h2 hB hc hlt
        go_enter Tryd.func39, Tryd.ntmps39
        go_wp2_with fail
        refine (letter_any c _).mono ?_
        rintro e w' ⟨rfl, rfl⟩
        rw [HLT.out]
        go_wp2_with fail
        clear hx0
        go_loop [3] (fun v => ∃ k : Nat, v = .int .i64 k ∧ k ≤ n ∧ (l.take k).all inner = true) (fun v => n - (intOf v).toNat)
        case atStart => exact ⟨0, rfl, Nat.zero_le _, by simp⟩
        case round =>
          obtain ⟨k, rfl, hk, hall⟩ := hrel
          have HALL := Lib.hid hall
          clear hall
          by_cases hkn : k < n
          · have hx : ∀ w, (Instr.index 9 (.string S) (.int .i64 (k : Int))).run Tryd.prog w = .ok (.int .u8 (at' l k : Nat)) w := fun w => by rw [HS.out]; exact idx HL.out (by have := HN.out; omega) w
            have HST : Hid ((l.take (k + 1)).all inner = inner (at' l k)) := Lib.hid (by rw [all_take (by have := HN.out; omega), HALL.out]; simp)
            have HFA : Hid (inner (at' l k) = false → nameB l = false) := Lib.hid (fun h => by rw [HB.out]; exact all_false (by have := HN.out; omega) h)
            obtain ⟨d, hd⟩ : ∃ d, d = at' l k := ⟨_, rfl⟩
            rw [← hd] at hx HST HFA
            clear hd
            go_wp2_with fail
            refine (inner_any d _).mono ?_
            rintro e w' ⟨rfl, rfl⟩
            by_cases hb : inner d = true
            · rw [hb]
              have HBB := Lib.hid hb
              clear hb
              go_wp2_with fail
              go_round
              case rel => exact ⟨k + 1, by go_num, by omega, by rw [HST.out]; exact HBB.out⟩
              case measure => simp [intOf]; omega
            · have hb : inner d = false := by simpa using hb
              have HF := Lib.hid (HFA.out hb)
              rw [hb]
              clear hb
              go_wp2_with fail
              go_ret
              exact ⟨ret_bool HF.out.symm, rfl⟩
          · have HF : Hid (nameB l = true) := Lib.hid (by
              have h := HALL.out
              rw [List.take_of_length_le (by have := HN.out; omega)] at h
              rw [HB.out, h])
            go_wp2_with fail
            go_ret
            exact ⟨ret_bool HF.out.symm, rfl⟩
      · have hlt : letter c = false := by simpa using hlt
        have HLT := Lib.hid hlt
        have HF : Hid (nameB l = false) := Lib.hid (by rw [hB, hlt]; simp)
        clear hn hS hl h1 h2 hB hc hlt
        go_enter Tryd.func39, Tryd.ntmps39
        go_wp2_with fail
        refine (letter_any c _).mono ?_
        rintro e w' ⟨rfl, rfl⟩
        rw [HLT.out]
        go_wp2_with fail
        go_ret
        exact ⟨ret_bool HF.out.symm, rfl⟩
    · have i2 : (24 : Int) < (n : Int) := by omega
      have HF : Hid (nameB l = false) := Lib.hid (by rw [hB, decide_eq_false h2]; simp)
      obtain ⟨S, hS⟩ : ∃ S, S = st l := ⟨_, rfl⟩
      rw [← hS] at qs ⊢
      clear hn hS hl h1 h2 hB hlen
      go_enter Tryd.func39, Tryd.ntmps39
      go_wp2_with fail
      go_ret
      exact ⟨ret_bool HF.out.symm, rfl⟩
  · have i1 : (n : Int) < 1 := by omega
    have HF : Hid (nameB l = false) := Lib.hid (by rw [hB, decide_eq_false h1]; simp)
    obtain ⟨S, hS⟩ : ∃ S, S = st l := ⟨_, rfl⟩
    rw [← hS] at qs ⊢
    clear hn hS hl h1 hB hlen
    go_enter Tryd.func39, Tryd.ntmps39
    go_wp2_with fail
    go_ret
    exact ⟨ret_bool HF.out.symm, rfl⟩

theorem scan_end (l : List Nat) {k p q : Nat} (h : l.length ≤ k) : scan (l.drop k) p q = (decide (0 < q) && decide (p ≤ 8)) := by
  rw [List.drop_eq_nil_of_le h]; rfl
theorem scan_step {l : List Nat} {k p q : Nat} (h : k < l.length) : scan (l.drop k) p q = if at' l k = 47 then (if q = 0 then false else scan (l.drop (k + 1)) (p + 1) 0) else if part' (at' l k) = true then (if 24 < q + 1 then false else scan (l.drop (k + 1)) p (q + 1)) else false := by
  rw [drop_at h, scan]
set_option maxRecDepth 100000 in
set_option maxHeartbeats 1000000 in
theorem rPath_any {l : List Nat} (hl : Lt l) (hlen : l.length ≤ 1000000) (w : World) :
    Calls Tryd.prog 40 #[.string (st l)] w fun e w' => e = .returned (.bool (pathB l)) ∧ w = w' := by
  obtain ⟨n, hn⟩ : ∃ n, n = l.length := ⟨_, rfl⟩
  have HN := Lib.hid hn
  have qs : ∀ w, (Builtin.len_ #[9] 3 #[.string (st l)]).run Tryd.prog w = .ok (goInt n) w := fun w => by rw [hn]; exact len w
  have hB := pathB_scan l
  rw [← hn] at hB
  by_cases h1 : n ≤ 80
  · have i1 : (n : Int) ≤ 80 := by omega
    rw [decide_eq_true h1, Bool.true_and] at hB
    have HB := Lib.hid hB
    obtain ⟨S, hS⟩ : ∃ S, S = st l := ⟨_, rfl⟩
    have HS := Lib.hid hS; have HL := Lib.hid hl
    rw [← hS] at qs ⊢
    clear hn hS hl hB hlen
    go_enter Tryd.func40, Tryd.ntmps40
    go_wp2_with fail
    go_loop [3, 4, 5] (fun p q v => ∃ k P Q : Nat, v = .int .i64 k ∧ k ≤ n ∧ p = .int .i64 P ∧ P ≤ k + 1 ∧ q = .int .i64 Q ∧ Q ≤ k ∧ Q ≤ 24 ∧ pathB l = scan (l.drop k) P Q) (fun _ _ v => n - (intOf v).toNat)
    case atStart => exact ⟨0, 1, 0, rfl, Nat.zero_le _, rfl, by omega, rfl, by omega, by omega, HB.out⟩
    case round =>
      obtain ⟨k, P, Q, rfl, hk, rfl, hP, rfl, hQ, hQ24, hsc⟩ := hrel
      have HSC := Lib.hid hsc
      clear hsc
      by_cases hkn : k < n
      · have hx : ∀ w, (Instr.index 9 (.string S) (.int .i64 (k : Int))).run Tryd.prog w = .ok (.int .u8 (at' l k : Nat)) w := fun w => by rw [HS.out]; exact idx HL.out (by have := HN.out; omega) w
        have HST := Lib.hid (scan_step (l := l) (k := k) (p := P) (q := Q) (by have := HN.out; omega))
        obtain ⟨c, hc⟩ : ∃ c, c = at' l k := ⟨_, rfl⟩
        rw [← hc] at hx HST
        clear hc
        by_cases h47 : c = 47
        · have b1 : ((c : Int) == 47) = true := by rw [h47]; rfl
          by_cases hQ0 : Q = 0
          · have b2 : ((Q : Int) == 0) = true := by rw [hQ0]; rfl
            have HF : Hid (pathB l = false) := Lib.hid (by rw [HSC.out, HST.out, if_pos h47, if_pos hQ0])
            clear h47 hQ0
            go_wp2_with fail
            go_ret
            exact ⟨ret_bool HF.out.symm, rfl⟩
          · have b2 : ((Q : Int) == 0) = false := beq_eq_false_iff_ne.2 (by omega)
            have HF : Hid (pathB l = scan (l.drop (k + 1)) (P + 1) 0) := Lib.hid (by rw [HSC.out, HST.out, if_pos h47, if_neg hQ0])
            clear h47 hQ0
            go_wp2_with fail
            go_round
            case rel => exact ⟨k + 1, P + 1, 0, by go_num, by omega, by go_num, by omega, rfl, by omega, by omega, HF.out⟩
            case measure => simp [intOf]; omega
        · have b1 : ((c : Int) == 47) = false := beq_eq_false_iff_ne.2 (by omega)
          obtain ⟨b, hb⟩ : ∃ b, b = ((c : Int) == 46) := ⟨_, rfl⟩
          have hpt : part' c = (inner c || b) := by
            unfold part'
            rw [hb]
            by_cases h3 : c = 46
            · simp [h3]
            · have : ((c : Int) == 46) = false := beq_eq_false_iff_ne.2 (by omega)
              rw [this]; simp [h3]
          have b3 : ((c : Int) == 46) = b := hb.symm
          clear hb
          by_cases hpa : part' c = true
          · have hor : inner c = true ∨ (inner c = false ∧ b = true) := by
              rw [hpt] at hpa
              cases h : inner c <;> simp_all
            by_cases h24 : 24 < Q + 1
            · have b2 : (24 : Int) < (Q : Int) + 1 := by omega
              have HF : Hid (pathB l = false) := Lib.hid (by rw [HSC.out, HST.out, if_neg h47, if_pos hpa, if_pos h24])
              clear h47 hpa h24 hpt
              rcases hor with hi | ⟨hi, hbt⟩
              · have HI := Lib.hid hi; clear hi
                go_wp2_with fail
                refine (inner_any c _).mono ?_
                rintro e w' ⟨rfl, rfl⟩
                rw [HI.out]
                go_wp2_with fail
                go_ret
                exact ⟨ret_bool HF.out.symm, rfl⟩
              · subst hbt
                have HI := Lib.hid hi; clear hi
                go_wp2_with fail
                refine (inner_any c _).mono ?_
                rintro e w' ⟨rfl, rfl⟩
                rw [HI.out]
                go_wp2_with fail
                go_ret
                exact ⟨ret_bool HF.out.symm, rfl⟩
            · have b2 : (Q : Int) + 1 ≤ 24 := by omega
              have HF : Hid (pathB l = scan (l.drop (k + 1)) P (Q + 1)) := Lib.hid (by rw [HSC.out, HST.out, if_neg h47, if_pos hpa, if_neg h24])
              clear h47 hpa h24 hpt
              rcases hor with hi | ⟨hi, hbt⟩
              · have HI := Lib.hid hi; clear hi
                go_wp2_with fail
                refine (inner_any c _).mono ?_
                rintro e w' ⟨rfl, rfl⟩
                rw [HI.out]
                go_wp2_with fail
                go_round
                case rel => exact ⟨k + 1, P, Q + 1, by go_num, by omega, rfl, by omega, by go_num, by omega, by omega, HF.out⟩
                case measure => simp [intOf]; omega
              · subst hbt
                have HI := Lib.hid hi; clear hi
                go_wp2_with fail
                refine (inner_any c _).mono ?_
                rintro e w' ⟨rfl, rfl⟩
                rw [HI.out]
                go_wp2_with fail
                go_round
                case rel => exact ⟨k + 1, P, Q + 1, by go_num, by omega, rfl, by omega, by go_num, by omega, by omega, HF.out⟩
                case measure => simp [intOf]; omega
          · have hpa : part' c = false := by simpa using hpa
            have HF : Hid (pathB l = false) := Lib.hid (by rw [HSC.out, HST.out, if_neg h47, if_neg (by simp [hpa])])
            rw [hpt] at hpa
            have hi : inner c = false := by cases h : inner c <;> simp_all
            have hbf : b = false := by rw [hi] at hpa; simpa using hpa
            subst hbf
            have HI := Lib.hid hi
            clear h47 hpa hpt hi
            go_wp2_with fail
            refine (inner_any c _).mono ?_
            rintro e w' ⟨rfl, rfl⟩
            rw [HI.out]
            go_wp2_with fail
            go_ret
            exact ⟨ret_bool HF.out.symm, rfl⟩
      · have HE := Lib.hid (scan_end l (k := k) (p := P) (q := Q) (by have := HN.out; omega))
        by_cases hQ0 : 0 < Q
        · have j1 : (0 : Int) < (Q : Int) := by omega
          by_cases hP8 : P ≤ 8
          · have j2 : (P : Int) ≤ 8 := by omega
            have HF : Hid (pathB l = true) := Lib.hid (by rw [HSC.out, HE.out, decide_eq_true hQ0, decide_eq_true hP8]; rfl)
            clear hQ0 hP8
            go_wp2_with fail
            go_ret
            exact ⟨ret_bool HF.out.symm, rfl⟩
          · have j2 : decide ((P : Int) ≤ 8) = false := by simp; omega
            have j3 : (8 : Int) < (P : Int) := by omega
            have HF : Hid (pathB l = false) := Lib.hid (by rw [HSC.out, HE.out, decide_eq_false hP8]; simp)
            clear hQ0 hP8
            go_wp2_with fail
            go_ret
            exact ⟨ret_bool HF.out.symm, rfl⟩
        · have j1 : decide ((0 : Int) < (Q : Int)) = false := by simp; omega
          have j3 : (Q : Int) ≤ 0 := by omega
          have j4 : decide (0 < Q) = false := decide_eq_false hQ0
          have HF : Hid (pathB l = false) := Lib.hid (by rw [HSC.out, HE.out, decide_eq_false hQ0]; simp)
          clear hQ0
          go_wp2_with fail
          go_ret
          exact ⟨ret_bool HF.out.symm, rfl⟩
  · have i1 : (80 : Int) < (n : Int) := by omega
    have HF : Hid (pathB l = false) := Lib.hid (by rw [hB, decide_eq_false h1]; simp)
    obtain ⟨S, hS⟩ : ∃ S, S = st l := ⟨_, rfl⟩
    rw [← hS] at qs ⊢
    clear hn hS hl h1 hB hlen
    go_enter Tryd.func40, Tryd.ntmps40
    go_wp2_with fail
    go_ret
    exact ⟨ret_bool HF.out.symm, rfl⟩
end By
end Go.Proofs.YtpgnckjgclbepaaDoor
