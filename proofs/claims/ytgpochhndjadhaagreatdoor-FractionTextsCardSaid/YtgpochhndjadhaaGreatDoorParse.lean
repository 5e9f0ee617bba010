/- The program's Parse: the number of a text of decimal digits, or the error. No condition. -/
import Derived.Test.YtgpochhndjadhaaGreatDoorNum
namespace Go.Proofs.YtgpochhndjadhaaGreatDoor
open Go.RowKit LimbN

/-- the value of the first digits. -/
def pv (s : ByteArray) : Nat → Nat
  | 0 => 0
  | k + 1 => 10 * pv s k + (sb s k - 48)
theorem pv_mono (s : ByteArray) {a b : Nat} (h : a ≤ b) : pv s a ≤ pv s b := by
  induction h with
  | refl => exact Nat.le_refl _
  | step h ih => simp only [pv]; omega
/-- A number as a result, or the error of the limit. -/
structure Got (n : Nat) (w : World) (e : Ending) (w' : World) : Prop where
  kp : Kp w w'
  ok : (limbs n).length ≤ 128 → ∃ v', e = .returned (.tuple #[v', .int .i64 0]) ∧ Sl w' v' (limbs n) ∧ New w.heap.size v'
  over : 128 < (limbs n).length → e = .returned (.tuple #[.slice none 0 0, .int .i64 2])
theorem Got.yes {n : Nat} {w w' : World} {v : Value} (hk : Kp w w') (h : (limbs n).length ≤ 128) (hs : Sl w' v (limbs n)) (hn : New w.heap.size v) : Got n w (.returned (.tuple #[v, .int .i64 0])) w' :=
  ⟨hk, fun _ => ⟨v, rfl, hs, hn⟩, fun h' => by omega⟩
theorem Got.no {n : Nat} {w w' : World} (hk : Kp w w') (h : 128 < (limbs n).length) : Got n w (.returned (.tuple #[.slice none 0 0, .int .i64 2])) w' :=
  ⟨hk, fun h' => by omega, fun _ => rfl⟩
/-- what Parse answers. -/
structure Parsed (s : ByteArray) (w : World) (e : Ending) (w' : World) : Prop where
  long : 1300 < s.size → e = .returned (.tuple #[.slice none 0 0, .int .i64 2]) ∧ Kp w w'
  bad : ¬ 1300 < s.size → ¬ Num s → e = .returned (.tuple #[.slice none 0 0, .int .i64 6]) ∧ Kp w w'
  good : ¬ 1300 < s.size → Num s → Got (pv s s.size) w e w'
theorem Parsed.ofLong {s : ByteArray} {w w' : World} (h : 1300 < s.size) (hk : Kp w w') : Parsed s w (.returned (.tuple #[.slice none 0 0, .int .i64 2])) w' :=
  ⟨fun _ => ⟨rfl, hk⟩, fun h' => absurd h h', fun h' => absurd h h'⟩
theorem Parsed.ofBad {s : ByteArray} {w w' : World} (h : ¬ 1300 < s.size) (hn : ¬ Num s) (hk : Kp w w') : Parsed s w (.returned (.tuple #[.slice none 0 0, .int .i64 6])) w' :=
  ⟨fun h' => absurd h' h, fun _ _ => ⟨rfl, hk⟩, fun _ h' => absurd h' hn⟩
theorem Parsed.ofGood {s : ByteArray} {w w' : World} {e : Ending} (h : ¬ 1300 < s.size) (hn : Num s) (hm : Got (pv s s.size) w e w') : Parsed s w e w' :=
  ⟨fun h' => absurd h' h, fun _ h' => absurd hn h', fun _ _ => hm⟩

set_option maxRecDepth 100000 in
set_option maxHeartbeats 1000000 in
theorem Parse_any (s : ByteArray) (hs : s.size ≤ 1000000000) (w : World) :
    Calls Tryz.prog 78 #[.string s] w (Parsed s w) := by
  obtain ⟨l, el⟩ : ∃ l, l = s.size := ⟨_, rfl⟩
  have EL := Lib.hid el
  rw [← el] at hs
  clear el
  have qs : ∀ w, (Builtin.len_ #[9] 3 #[.string s]).run Tryz.prog w = .ok (goInt l) w := fun w => by rw [run_len_string w _ _ s Tryz.underlying9, EL.out]
  by_cases h13 : 1300 < l
  · have FIN : Hid (Parsed s w (.returned (.tuple #[.slice none 0 0, .int .i64 2])) w) := Parsed.ofLong (by have := EL.out; omega) (Kp.refl _)
    go_enter Tryz.func78, Tryz.ntmps78
    go_wp2
    go_ret2
    exact FIN.out
  · have H13 : Hid (¬ 1300 < s.size) := by have := EL.out; intro h; omega
    go_enter Tryz.func78, Tryz.ntmps78
    go_wp2_with fail
    refine (isNumeral_any s (by have := EL.out; omega) w).mono ?_
    rintro e w1 ⟨b, rfl, hb, hd⟩
    have HB := Lib.hid hb; have HD := Lib.hid hd; clear hb hd
    cases b with
    | false =>
      have FIN : Hid (Parsed s w (.returned (.tuple #[.slice none 0 0, .int .i64 6])) w1) := Parsed.ofBad H13.out (fun h => by have := HB.out.2 h; simp at this) HD.out.kp
      go_wp2
      go_ret2
      exact FIN.out
    | true =>
      have NUM : Hid (Num s) := HB.out.1 rfl
      have START : Hid (Own w w1 (.slice none 0 0) 0 (limbs (pv s 0))) := ⟨World.ownsRow_nil _ _ _ _, rfl, Lt.nil, HD.out.kp⟩
      go_wp2_with fail
      go_loopw [14, 4] (fun i v wy => ∃ (j k : Nat), j ≤ l ∧ i = .int .i64 j ∧ k ≤ 128 ∧ Own w wy v k (limbs (pv s j))) (fun i _ _ => l - (intOf i).toNat)
      case atStart => exact ⟨0, 0, by omega, rfl, by omega, START.out⟩
      case round =>
        obtain ⟨j, k, hj, rfl, hk, hown⟩ := hrel
        obtain ⟨u, hu⟩ : ∃ u, u = k := ⟨_, rfl⟩
        clear hu u
        have HOWN := Lib.hid hown; clear hown
        by_cases hjl : j < l
        · have hsb := NUM.out.2.2 j (by have := EL.out; omega)
          have qk : ∀ w, (Instr.index 9 (.string s) (.int .i64 (j : Int))).run Tryz.prog w = .ok (.int .u8 (sb s j : Nat)) w := fun w => idx_str s j (by have := EL.out; omega) w
          obtain ⟨d, ed⟩ : ∃ d, sb s j = 48 + d := ⟨sb s j - 48, by omega⟩
          have hd9 : d ≤ 9 := by omega
          simp only [ed] at qk
          have ED := Lib.hid ed; clear ed hsb
          go_wp2_with fail
          rw [show (48 + (d : Int) - 48) = (d : Int) by omega]
          refine (appendDigit_any HOWN.out hd9 (by omega)).mono ?_
          rintro e w2 ⟨v', k', rfl, hown2⟩
          have hstep : limbs (10 * pv s j + d) = limbs (pv s (j + 1)) := by
            have e : 10 * pv s j + d = pv s (j + 1) := by
              have := ED.out
              show _ = 10 * pv s j + (sb s j - 48)
              omega
            rw [e]
          rw [hstep] at hown2
          clear hstep
          have HOWN2 := Lib.hid hown2; clear hown2
          obtain ⟨ao2, cap2, rfl, hkc, hcm⟩ := HOWN2.out.form
          unfold maxLen at hcm
          by_cases hk2 : 128 < k'
          · have FIN : Hid (Parsed s w (.returned (.tuple #[.slice none 0 0, .int .i64 2])) w2) := Parsed.ofGood H13.out NUM.out (Got.no HOWN2.out.kp (by
              have h1 := HOWN2.out.len
              have h2 := limbs_mono (pv_mono s (show j + 1 ≤ s.size by have := EL.out; omega))
              omega))
            go_wp2
            go_ret2
            exact FIN.out
          · go_wp2
            go_roundw
            case rel => exact ⟨j + 1, k', by omega, vint (by omega), by omega, HOWN2.out⟩
            case measure => simp [intOf]; omega
        · obtain rfl : j = l := by omega
          have FIN : Hid (Parsed s w (.returned (.tuple #[u4, .int .i64 0])) wr) := by
            have h1 := sl_of_owns HOWN.out.owns HOWN.out.lt (by have := HOWN.out.len; omega)
            have h2 := HOWN.out.len
            rw [EL.out] at h1 h2
            exact Parsed.ofGood H13.out NUM.out (Got.yes HOWN.out.kp (by omega) h1.1 h1.2)
          go_wp2
          go_ret2
          exact FIN.out
end Go.Proofs.YtgpochhndjadhaaGreatDoor
