/- The reference's Format and Parse. Conditions: the slice holds the digits that are named. -/
import Derived.Test.YtgpochhndjadhaaGreatDoorRText
import Derived.Test.YtgpochhndjadhaaGreatDoorMRs
import Derived.Deep.RegionHeld3
namespace Go.Proofs.YtgpochhndjadhaaGreatDoor
open Go.RowKit LimbN

/-- the text of a number, nothing if it is not well-formed. -/
def fmtS (xs : List Nat) : ByteArray := if wf xs then decS (val xs) else ⟨#[]⟩
def fmtE (xs : List Nat) : Int := if wf xs then 0 else 1
/-- What both Formats answer. -/
structure FmtR (xs : List Nat) (w : World) (e : Ending) (w' : World) : Prop where
  e : e = .returned (.tuple #[.string (fmtS xs), .int .i64 (fmtE xs)])
  kp : Kp w w'
theorem Format_r {xs : List Nat} {va : Value} {w : World} (ha : Sl w va xs) (htab : Tab w) : Calls Tryz.prog 72 #[va] w (FmtR xs w) := by
  cases hx : wf xs with
  | false => exact (Format_bad ha hx).mono fun e w' h => ⟨by unfold fmtS fmtE; rw [hx]; exact h.1, Kp.of_eq h.2⟩
  | true => exact (Format_any ha hx htab).mono fun e w' h => ⟨by unfold fmtS fmtE; rw [hx]; exact h.1, h.2⟩
set_option maxHeartbeats 400000 in
theorem rFormat_r {xs : List Nat} {va : Value} {w : World} (ha : Sl w va xs) : Calls Tryz.prog 39 #[va] w (FmtR xs w) := by
  cases hx : wf xs with
  | false =>
    have FIN : Hid (FmtR xs w (.returned (.tuple #[.string ⟨#[]⟩, .int .i64 1])) w) := ⟨by unfold fmtS fmtE; rw [hx]; rfl, Kp.refl _⟩
    have HA := Lib.hid ha; have HX := Lib.hid hx; clear ha hx
    go_enter Tryz.func39, Tryz.ntmps39
    go_wp2_with fail
    refine (rcheck_any HA.out).mono ?_
    rintro e w' ⟨rfl, rfl⟩
    rw [HX.out]
    go_wp2
    go_ret2
    exact FIN.out
  | true =>
    have hc := wf_canon ha.lt hx
    have hd := Digits_any (V := val xs) (v := va) (w := w) (by rw [hc.1]; exact ha) (by rw [hc.1]; omega)
    have FIN : Hid (∀ w', Kp w w' → FmtR xs w (.returned (.tuple #[.string (decS (val xs)), .int .i64 0])) w') := fun w' h => ⟨by unfold fmtS fmtE; rw [hx]; rfl, h⟩
    have HA := Lib.hid ha; have HX := Lib.hid hx; have HD := Lib.hid hd; clear ha hx hc hd
    go_enter Tryz.func39, Tryz.ntmps39
    go_wp2_with fail
    refine (rcheck_any HA.out).mono ?_
    rintro e w' ⟨rfl, rfl⟩
    rw [HX.out]
    go_wp2_with fail
    refine HD.out.mono ?_
    rintro e w2 ⟨rfl, hk⟩
    have FIN2 := Lib.hid (FIN.out w2 hk); clear hk
    go_wp2
    go_ret2
    exact FIN2.out

theorem pv_lt (s : ByteArray) : ∀ k : Nat, (∀ j : Nat, j < k → 48 ≤ sb s j ∧ sb s j ≤ 57) → pv s k < 4294967296 ^ k
  | 0, _ => by simp [pv]
  | k + 1, h => by
    have h1 := pv_lt s k (fun j hj => h j (by omega))
    have h2 := h k (by omega)
    simp only [pv, Nat.pow_succ]
    omega
/-- The step of the digits: ten times the number, and a digit more. -/
structure TenSt (s : ByteArray) (j : Nat) (w wr : World) (v : Value) : Prop where
  sl : Sl wr v (limbs (pv s j))
  nw : New w.heap.size v
  kp : Kp w wr
  all : ∀ i : Nat, i < j → 48 ≤ sb s i ∧ sb s i ≤ 57
theorem sl_one {w : World} {d : Nat} (e : TypeId) (D : Int) (hD : D = (d : Int)) (hd : d < 4294967296) : Sl (w.alloc (.cells #[.int .u32 D] e)) (.slice (some ⟨w.heap.size, 0, none⟩) 1 1) [d] := by
  subst hD
  exact sl_lit [d] (Lt.cons hd Lt.nil) (by simp)
theorem sl_second {w : World} {o : Obj} {d : Nat} (e : TypeId) (D : Int) (hD : D = (d : Int)) (hd : d < 4294967296) : Sl ((w.alloc o).alloc (.cells #[.int .u32 D] e)) (.slice (some ⟨w.heap.size + 1, 0, none⟩) 1 1) [d] := by
  have h := sl_one (w := w.alloc o) e D hD hd
  have e1 : (w.alloc o).heap.size = w.heap.size + 1 := by simp
  rwa [e1] at h
theorem val_one (d : Nat) : val [d] = d := by simp [val]
set_option maxRecDepth 100000 in
set_option maxHeartbeats 4000000 in
theorem rParse_any (s : ByteArray) (hs : s.size ≤ 1000000000) (w : World) :
    Calls Tryz.prog 81 #[.string s] w (Parsed s w) := by
  obtain ⟨l, el⟩ : ∃ l, l = s.size := ⟨_, rfl⟩
  have EL := Lib.hid el
  rw [← el] at hs
  have qs : ∀ w, (Builtin.len_ #[9] 3 #[.string s]).run Tryz.prog w = .ok (goInt l) w := fun w => by rw [run_len_string w _ _ s Tryz.underlying9, EL.out]
  by_cases h13 : 1300 < l
  · have FIN : Hid (Parsed s w (.returned (.tuple #[.slice none 0 0, .int .i64 2])) w) := Parsed.ofLong (by have := EL.out; omega) (Kp.refl _)
    clear el
    go_enter Tryz.func81, Tryz.ntmps81
    go_wp2
    go_ret2
    exact FIN.out
  have H13 : Hid (¬ 1300 < s.size) := by have := EL.out; intro h; omega
  by_cases h0 : s.size = 0
  · have hno : ¬ Num s := fun h => by have := h.1; omega
    have FIN : Hid (Parsed s w (.returned (.tuple #[.slice none 0 0, .int .i64 6])) w) := Parsed.ofBad H13.out hno (Kp.refl _)
    have hem : s = ⟨#[]⟩ := by
      cases s with | mk d => exact congrArg ByteArray.mk (Array.eq_empty_of_size_eq_zero h0)
    subst hem
    clear hno qs el
    obtain rfl : l = 0 := EL.out
    go_enter Tryz.func81, Tryz.ntmps81
    go_wp2_with fail
    all_goals (try go_quiet (fail))
    all_goals (try go_wp2)
    go_ret2
    exact FIN.out
  have hne : s.toList ≠ [] := fun h => h0 (by rw [ByteArray.toList_eq] at h; have := congrArg List.length h; simpa using this)
  have he1 : (s.toList == ByteArray.toList ⟨#[]⟩) = false := beq_eq_false_iff_ne.2 (by simpa using hne)
  have he2 : (s.toList == []) = false := beq_eq_false_iff_ne.2 hne
  clear hne
  have q0 : ∀ w, (Instr.index 9 (.string s) (.int .i64 0)).run Tryz.prog w = .ok (.int .u8 (sb s 0 : Nat)) w := fun w => idx_str s 0 (by omega) w
  have hb0 := sb_lt s 0
  obtain ⟨b0, eb⟩ : ∃ b, b = sb s 0 := ⟨_, rfl⟩
  rw [← eb] at hb0
  simp only [← eb] at q0
  have EB := Lib.hid eb; clear eb
  rw [← el] at h0
  clear el
  by_cases h1 : 1 < l ∧ b0 = 48
  · obtain ⟨h1, rfl⟩ := h1
    have FIN : Hid (Parsed s w (.returned (.tuple #[.slice none 0 0, .int .i64 6])) w) := Parsed.ofBad H13.out (fun h => h.2.1 ⟨by have := EL.out; omega, EB.out.symm⟩) (Kp.refl _)
    go_enter Tryz.func81, Tryz.ntmps81
    go_wp2_with fail
    all_goals (try go_quiet (fail))
    all_goals (try go_wp2)
    go_ret2
    exact FIN.out
  have hNum : Num s ↔ ∀ i, i < l → 48 ≤ sb s i ∧ sb s i ≤ 57 := by
    have e := EL.out; have f := EB.out
    exact ⟨fun h i hi => h.2.2 i (by omega), fun h => ⟨by omega, by omega, fun i hi => h i (by omega)⟩⟩
  have HNUM := Lib.hid hNum; clear hNum
  have key : (1 < (l : Int) ∧ ((b0 : Int) == 48) = false) ∨ ¬ (1 < (l : Int)) := by
    by_cases hl : 1 < l
    · exact .inl ⟨by omega, beq_eq_false_iff_ne.2 (by omega)⟩
    · exact .inr (by omega)
  have START : Hid (TenSt s 0 w w (.slice none 0 0)) := ⟨Sl.nil _, New.nil _, Kp.refl _, fun i hi => by omega⟩
  clear h1
  go_enter Tryz.func81, Tryz.ntmps81
  rcases key with ⟨hl1, hq3⟩ | hl1
  all_goals
    go_wp2_with fail
    go_loopw [4, 5] (fun ov iv wy => ∃ j : Nat, j ≤ l ∧ iv = .int .i64 j ∧ TenSt s j w wy ov) (fun _ iv _ => l - (intOf iv).toNat)
    case atStart => exact ⟨0, by omega, rfl, START.out⟩
    case round =>
      obtain ⟨j, hj, rfl, hst⟩ := hrel
      rename World => wr
      have hsl := hst.sl
      obtain ⟨ao, cap, rfl, hac, hcm, -⟩ := hsl.ex
      unfold maxLen at hcm
      have HST := Lib.hid hst; clear hst hsl
      have hlen : (limbs (pv s j)).length ≤ 1300 := Nat.le_trans (limbs_len_le.2 (pv_lt s j HST.out.all)) (by omega)
      have HLEN := Lib.hid hlen; clear hlen
      obtain ⟨lo, elo⟩ : ∃ lo, lo = (limbs (pv s j)).length := ⟨_, rfl⟩
      rw [← elo] at HST HLEN hac ⊢
      have ELO := Lib.hid elo; clear elo
      by_cases hjl : j < l
      · have qk : ∀ w, (Instr.index 9 (.string s) (.int .i64 (j : Int))).run Tryz.prog w = .ok (.int .u8 (sb s j : Nat)) w := fun w => idx_str s j (by have := EL.out; omega) w
        have hcb := sb_lt s j
        obtain ⟨c, ec⟩ : ∃ c, c = sb s j := ⟨_, rfl⟩
        rw [← ec] at hcb
        simp only [← ec] at qk
        have EC := Lib.hid ec; clear ec
        by_cases h48 : c < 48
        · have FIN : Hid (Parsed s w (.returned (.tuple #[.slice none 0 0, .int .i64 6])) wr) := Parsed.ofBad H13.out (fun h => by have := HNUM.out.1 h j hjl; have := EC.out; omega) HST.out.kp
          go_wp2
          go_ret2
          exact FIN.out
        · by_cases h57 : 57 < c
          · have FIN : Hid (Parsed s w (.returned (.tuple #[.slice none 0 0, .int .i64 6])) wr) := Parsed.ofBad H13.out (fun h => by have := HNUM.out.1 h j hjl; have := EC.out; omega) HST.out.kp
            go_wp2
            go_ret2
            exact FIN.out
          · have hcw : IntKind.u8.wrap ((c : Int) - 48) = ((c - 48 : Nat) : Int) := by rw [IntKind.wrap_u8]; omega
            have hc48 : c - 48 < 4294967296 := by omega
            have hvm : val (limbs (val (limbs (pv s j)) * val [10])) + val (limbs (val [c - 48])) = pv s (j + 1) := by
              rw [val_limbs, val_limbs, val_limbs, val_one, val_one, Nat.mul_comm, EC.out]; rfl
            have HVM := Lib.hid hvm
            have HLM : Hid ((limbs (val (limbs (pv s j)) * val [10])).length ≤ 1301) := by
              show _ ≤ _
              have h1 := limbs_mono (show val (limbs (pv s j)) * val [10] ≤ pv s (j + 1) by rw [val_limbs (val (limbs (pv s j)) * val [10])] at hvm; omega)
              have h2 := limbs_len_le.2 (pv_lt s (j + 1) (fun i hi => by
                by_cases hij : i < j
                · exact HST.out.all i hij
                · obtain rfl : i = j := by omega
                  have := EC.out; omega))
              omega
            have HL1 : Hid ((limbs (val [c - 48])).length ≤ 1301) := by
              show _ ≤ _
              have h1 := limbs_mono (show val [c - 48] ≤ 4294967295 by rw [val_one]; omega)
              have h2 := limbs_len_le.2 (show 4294967295 < 4294967296 ^ 1 by omega)
              omega
            clear hvm
            go_wp2_with fail
            go_region_held3 (fun w' => Kp wr w')
              (first | exact Kp.refl _ | assumption | exact Kp.trans (by assumption) (by assumption) | exact Kp.drewN _ 1 | exact Kp.alloc (by assumption) _ | exact Kp.trans (Kp.alloc (by assumption) _) (by assumption) | exact Kp.trans (Kp.alloc (Kp.refl _) _) (Kp.drewN _ 1) | exact Kp.trans (Kp.alloc (Kp.alloc (Kp.refl _) _) _) (Kp.drewN _ 1) | exact Kp.trans (Kp.trans (Kp.alloc (Kp.refl _) _) (Kp.drewN _ 1)) (by assumption) | exact Kp.trans (Kp.trans (Kp.alloc (Kp.alloc (Kp.refl _) _) _) (Kp.drewN _ 1)) (by assumption))
              (first
                | (go_at_call 53; refine (Times_any (xs := limbs (pv s j)) (ys := [10]) (HST.out.sl.keep (by first | exact Kp.trans (Kp.alloc (Kp.refl _) _) (Kp.drewN _ 1) | exact Kp.trans (Kp.alloc (Kp.alloc (Kp.refl _) _) _) (Kp.drewN _ 1))) (by first | exact (sl_one (w := wr) (d := 10) _ _ rfl (by decide)).keep (Kp.drewN _ 1) | exact (sl_one (w := wr) (d := 10) _ _ rfl (by decide)).keep (Kp.trans (Kp.alloc (Kp.refl _) _) (Kp.drewN _ 1)) | exact (sl_second (w := wr) (d := 10) _ _ rfl (by decide)).keep (Kp.drewN _ 1)) (by have := HLEN.out; have := ELO.out; omega) (by simp)).mono ?_; rintro e w2 ⟨v2, rfl, hs2, hn2, hk2⟩)
                | (go_at_call 93; refine (trim_any (xs := [c - 48]) (by first | exact sl_one _ _ (by first | omega | (simp only [IntKind.wrap_u32]; omega)) (by omega) | exact (sl_one (w := wr) (d := c - 48) _ (IntKind.u32.wrap ((c - 48 : Nat) : Int)) (by rw [IntKind.wrap_u32]; omega) (by omega)).keep (Kp.trans (Kp.trans (Kp.alloc (Kp.refl _) _) (Kp.drewN _ 1)) hk2) | exact (sl_second (w := wr) (d := c - 48) _ (IntKind.u32.wrap ((c - 48 : Nat) : Int)) (by rw [IntKind.wrap_u32]; omega) (by omega)).keep (Kp.trans (Kp.drewN _ 1) hk2))).mono ?_; rintro e w3 ⟨v3, rfl, hs3, hn3, hk3⟩)
                | (go_at_call 89; refine (Plus_any (hs2.keep (by first | assumption | exact Kp.trans (Kp.alloc (Kp.refl _) _) (by assumption))) hs3 (by have := HLM.out; omega) (by have := HL1.out; omega)).mono ?_; rintro e w4 ⟨v4, rfl, hs4, hn4, hk4⟩))
            all_goals
              rw [HVM.out] at hs4
              have hA : Kp wr w2 := by first | exact Kp.trans (Kp.trans (Kp.alloc (Kp.refl _) _) (Kp.drewN _ 1)) hk2 | exact Kp.trans (Kp.trans (Kp.alloc (Kp.alloc (Kp.refl _) _) _) (Kp.drewN _ 1)) hk2
              have hB : Kp w2 w3 := by first | exact hk3 | exact Kp.trans (Kp.alloc (Kp.refl _) _) hk3
              have hC : Kp w w3 := Kp.trans HST.out.kp (Kp.trans hA hB)
              have NX : Hid (TenSt s (j + 1) w w4 v4) := ⟨hs4, hn4.mono hC.size, Kp.trans hC hk4, fun i hi => by
                by_cases hij : i < j
                · exact HST.out.all i hij
                · obtain rfl : i = j := by omega
                  have := EC.out; omega⟩
              clear hs4 hn4 hk4 hs3 hn3 hk3 hs2 hn2 hk2 hcw hA hB hC
              go_wp2_with fail
              go_roundw
              case rel => exact ⟨j + 1, by omega, vint (by omega), NX.out⟩
              case measure => simp [intOf]; omega
      · have hjl' : j = l := by omega
        subst hjl'
        have hnum : Num s := HNUM.out.2 HST.out.all
        have hv : limbs (pv s j) = limbs (pv s s.size) := by rw [EL.out]
        have hgood : ∀ e w', Got (pv s s.size) w e w' → Parsed s w e w' := fun e w' h => Parsed.ofGood H13.out hnum h
        have hlm := rlimited_any HST.out.sl
        rw [← ELO.out] at hlm
        have HLM := Lib.hid hlm; have HG := Lib.hid hgood; have HV := Lib.hid hv
        clear hnum hv hgood hlm
        go_wp2_with fail
        refine HLM.out.mono ?_
        rintro e w2 ⟨rfl, rfl⟩
        by_cases hov : lo ≤ 128
        · have FIN : Hid (Parsed s w (.returned (.tuple #[.slice ao lo cap, .int .i64 0])) wr) := HG.out _ _ (Got.yes HST.out.kp (by rw [← HV.out]; have := ELO.out; omega) (by rw [← HV.out]; exact HST.out.sl) HST.out.nw)
          rw [if_pos hov]
          go_wp2
          go_ret2
          exact FIN.out
        · have FIN : Hid (Parsed s w (.returned (.tuple #[.slice none 0 0, .int .i64 2])) wr) := HG.out _ _ (Got.no HST.out.kp (by rw [← HV.out]; have := ELO.out; omega))
          rw [if_neg hov]
          go_wp2
          go_ret2
          exact FIN.out
end Go.Proofs.YtgpochhndjadhaaGreatDoor
