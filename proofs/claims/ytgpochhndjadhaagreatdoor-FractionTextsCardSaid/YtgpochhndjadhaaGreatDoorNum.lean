/- The program's isNumeral: whether a text is decimal digits with no zero before another digit. No condition. -/
import Derived.Test.YtgpochhndjadhaaGreatDoorAppd
namespace Go.Proofs.YtgpochhndjadhaaGreatDoor
open Go.RowKit LimbN

/-- byte i of a text. -/
def sb (s : ByteArray) (i : Nat) : Nat := (s.data[i]?.getD 0).toNat
theorem sb_lt (s : ByteArray) (i : Nat) : sb s i < 256 := UInt8.toNat_lt _
theorem idx_str (s : ByteArray) (i : Nat) (h : i < s.size) (w : World) : (Instr.index 9 (.string s) (.int .i64 (i : Int))).run Tryz.prog w = .ok (.int .u8 (sb s i : Nat)) w := by
  rw [run_index_string w 9 s .i64 i Tryz.underlying9, dif_pos (by omega)]
  have e : (s[(i : Int).toNat]'(by omega)).toNat = sb s i := by
    unfold sb
    have h1 : i < s.data.size := h
    rw [Array.getElem?_eq_getElem h1]
    rfl
  rw [e]
/-- decimal digits with no zero before another digit. -/
def Num (s : ByteArray) : Prop := 0 < s.size ∧ ¬ (1 < s.size ∧ sb s 0 = 48) ∧ ∀ i, i < s.size → 48 ≤ sb s i ∧ sb s i ≤ 57

def NumR (s : ByteArray) (w : World) (e : Ending) (w' : World) : Prop := ∃ b : Bool, e = .returned (.bool b) ∧ (b = true ↔ Num s) ∧ Drawn w w'
set_option maxRecDepth 100000 in
set_option maxHeartbeats 1000000 in
theorem isNumeral_any (s : ByteArray) (hs : s.size ≤ 1400) (w : World) :
    Calls Tryz.prog 113 #[.string s] w (NumR s w) := by
  by_cases h0 : s.size = 0
  · have hno : ¬ Num s := fun h => by have := h.1; omega
    have hem : s = ⟨#[]⟩ := by
      cases s with | mk d => exact congrArg ByteArray.mk (Array.eq_empty_of_size_eq_zero h0)
    subst hem
    have HNO := Lib.hid hno; clear hno
    go_enter Tryz.func113, Tryz.ntmps113
    go_wp2_with fail
    all_goals (try go_quiet (fail))
    all_goals (try go_wp2)
    go_ret
    exact ⟨_, rfl, by simpa using HNO.out, Drawn.refl _⟩
  · have hne : s.toList ≠ [] := fun h => h0 (by rw [ByteArray.toList_eq] at h; have := congrArg List.length h; simpa using this)
    have he1 : (s.toList == ByteArray.toList ⟨#[]⟩) = false := beq_eq_false_iff_ne.2 (by simpa using hne)
    have he2 : (s.toList == []) = false := beq_eq_false_iff_ne.2 hne
    clear hne
    have q0 : ∀ w, (Instr.index 9 (.string s) (.int .i64 0)).run Tryz.prog w = .ok (.int .u8 (sb s 0 : Nat)) w := fun w => idx_str s 0 (by omega) w
    have hb0 := sb_lt s 0
    obtain ⟨b0, eb⟩ : ∃ b, b = sb s 0 := ⟨_, rfl⟩
    rw [← eb] at hb0
    simp only [← eb] at q0
    have EB := Lib.hid eb; clear eb
    obtain ⟨l, el⟩ : ∃ l, l = s.size := ⟨_, rfl⟩
    have EL := Lib.hid el
    rw [← el] at hs h0
    clear el
    have qs : ∀ w, (Builtin.len_ #[9] 3 #[.string s]).run Tryz.prog w = .ok (goInt l) w := fun w => by rw [run_len_string w _ _ s Tryz.underlying9, EL.out]
    by_cases h1 : 1 < l ∧ b0 = 48
    · obtain ⟨h1, rfl⟩ := h1
      have hno : ¬ Num s := fun h => h.2.1 ⟨by have := EL.out; omega, EB.out.symm⟩
      have HNO := Lib.hid hno; clear hno
      go_enter Tryz.func113, Tryz.ntmps113
      go_wp2_with fail
      all_goals (try go_quiet (fail))
      all_goals (try go_wp2)
      go_ret
      exact ⟨_, rfl, by simpa using HNO.out, Drawn.refl _⟩
    · have hNum : Num s ↔ ∀ i, i < l → 48 ≤ sb s i ∧ sb s i ≤ 57 := by
        have e := EL.out; have f := EB.out
        exact ⟨fun h i hi => h.2.2 i (by omega), fun h => ⟨by omega, by omega, fun i hi => h i (by omega)⟩⟩
      have HNUM := Lib.hid hNum; clear hNum
      have hq : (decide (1 < (l : Int)) && ((b0 : Int) == 48)) = false := by
        by_cases hl : 1 < l
        · have : ((b0 : Int) == 48) = false := beq_eq_false_iff_ne.2 (by omega)
          simp [this]
        · simp; omega
      have hq2 : 1 < (l : Int) → ((b0 : Int) == 48) = false := fun hl => beq_eq_false_iff_ne.2 (by omega)
      go_enter Tryz.func113, Tryz.ntmps113
      have key : (1 < (l : Int)) ∨ ¬ (1 < (l : Int)) := Classical.em _
      rcases key with hl | hl
      · have hq3 := hq2 hl
        clear hq hq2
        go_wp2_with fail
        all_goals (try go_quiet (fail))
        go_loopw [18] (fun i wy => ∃ k : Nat, k ≤ l ∧ i = .int .i64 k ∧ (∀ j, j < k → 48 ≤ sb s j ∧ sb s j ≤ 57) ∧ Drawn w wy) (fun i _ => l - (intOf i).toNat)
        case atStart => exact ⟨0, by omega, rfl, fun j hj => by omega, Drawn.refl _⟩
        case round =>
          obtain ⟨k, hk, rfl, hall, hdr⟩ := hrel
          have HALL := Lib.hid hall; have HDR := Lib.hid hdr; clear hall hdr
          by_cases hkl : k < l
          · have qk : ∀ w, (Instr.index 9 (.string s) (.int .i64 (k : Int))).run Tryz.prog w = .ok (.int .u8 (sb s k : Nat)) w := fun w => idx_str s k (by have := EL.out; omega) w
            have hcb := sb_lt s k
            obtain ⟨c, ec⟩ : ∃ c, c = sb s k := ⟨_, rfl⟩
            rw [← ec] at hcb
            simp only [← ec] at qk
            have EC := Lib.hid ec; clear ec
            by_cases h48 : c < 48
            · have FIN : Hid (¬ Num s) := fun h => by have := HNUM.out.1 h k hkl; have := EC.out; omega
              go_wp2_with fail
              all_goals (try go_quiet (fail))
              all_goals (try go_wp2)
              go_ret
              exact ⟨_, rfl, by simpa using FIN.out, by repeat (first | exact HDR.out | apply Drawn.drew | apply Drawn.one)⟩
            · by_cases h57 : 57 < c
              · have FIN : Hid (¬ Num s) := fun h => by have := HNUM.out.1 h k hkl; have := EC.out; omega
                go_wp2_with fail
                all_goals (try go_quiet (fail))
                all_goals (try go_wp2)
                go_ret
                exact ⟨_, rfl, by simpa using FIN.out, by repeat (first | exact HDR.out | apply Drawn.drew | apply Drawn.one)⟩
              · go_wp2_with fail
                all_goals (try go_quiet (fail))
                all_goals (try go_wp2)
                go_roundw
                case rel => exact ⟨k + 1, by omega, vint (by omega), fun j hj => by
                  by_cases hjk : j < k
                  · exact HALL.out j hjk
                  · obtain rfl : j = k := by omega
                    have := EC.out; omega, by repeat (first | exact HDR.out | apply Drawn.drew | apply Drawn.one)⟩
                case measure => simp [intOf]; omega
          · have FIN : Hid (Num s) := HNUM.out.2 fun i hi => HALL.out i (by omega)
            obtain rfl : k = l := by omega
            go_wp2
            go_ret
            exact ⟨_, rfl, by simpa using FIN.out, HDR.out⟩
      · clear hq hq2
        go_wp2_with fail
        all_goals (try go_quiet (fail))
        go_loopw [18] (fun i wy => ∃ k : Nat, k ≤ l ∧ i = .int .i64 k ∧ (∀ j, j < k → 48 ≤ sb s j ∧ sb s j ≤ 57) ∧ Drawn w wy) (fun i _ => l - (intOf i).toNat)
        case atStart => exact ⟨0, by omega, rfl, fun j hj => by omega, Drawn.refl _⟩
        case round =>
          obtain ⟨k, hk, rfl, hall, hdr⟩ := hrel
          have HALL := Lib.hid hall; have HDR := Lib.hid hdr; clear hall hdr
          by_cases hkl : k < l
          · have qk : ∀ w, (Instr.index 9 (.string s) (.int .i64 (k : Int))).run Tryz.prog w = .ok (.int .u8 (sb s k : Nat)) w := fun w => idx_str s k (by have := EL.out; omega) w
            have hcb := sb_lt s k
            obtain ⟨c, ec⟩ : ∃ c, c = sb s k := ⟨_, rfl⟩
            rw [← ec] at hcb
            simp only [← ec] at qk
            have EC := Lib.hid ec; clear ec
            by_cases h48 : c < 48
            · have FIN : Hid (¬ Num s) := fun h => by have := HNUM.out.1 h k hkl; have := EC.out; omega
              go_wp2_with fail
              all_goals (try go_quiet (fail))
              all_goals (try go_wp2)
              go_ret
              exact ⟨_, rfl, by simpa using FIN.out, by repeat (first | exact HDR.out | apply Drawn.drew | apply Drawn.one)⟩
            · by_cases h57 : 57 < c
              · have FIN : Hid (¬ Num s) := fun h => by have := HNUM.out.1 h k hkl; have := EC.out; omega
                go_wp2_with fail
                all_goals (try go_quiet (fail))
                all_goals (try go_wp2)
                go_ret
                exact ⟨_, rfl, by simpa using FIN.out, by repeat (first | exact HDR.out | apply Drawn.drew | apply Drawn.one)⟩
              · go_wp2_with fail
                all_goals (try go_quiet (fail))
                all_goals (try go_wp2)
                go_roundw
                case rel => exact ⟨k + 1, by omega, vint (by omega), fun j hj => by
                  by_cases hjk : j < k
                  · exact HALL.out j hjk
                  · obtain rfl : j = k := by omega
                    have := EC.out; omega, by repeat (first | exact HDR.out | apply Drawn.drew | apply Drawn.one)⟩
                case measure => simp [intOf]; omega
          · have FIN : Hid (Num s) := HNUM.out.2 fun i hi => HALL.out i (by omega)
            obtain rfl : k = l := by omega
            go_wp2
            go_ret
            exact ⟨_, rfl, by simpa using FIN.out, HDR.out⟩
end Go.Proofs.YtgpochhndjadhaaGreatDoor
