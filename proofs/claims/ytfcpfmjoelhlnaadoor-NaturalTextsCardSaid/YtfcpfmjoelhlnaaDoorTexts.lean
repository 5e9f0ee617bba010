/- The law on texts: the digits of numbers, and which strings are numbers; it returns true for all lists of digits and all strings. Condition: the library's table of powers of ten holds what its text lays. -/
import Derived.Test.YtfcpfmjoelhlnaaDoorRParse
import Derived.Test.YtfcpfmjoelhlnaaDoorReads
namespace Go.Proofs.YtfcpfmjoelhlnaaDoor
open Go.RowKit LimbN

open Classical in
/-- the error of a text. -/
noncomputable def prsE (t : ByteArray) : Int := if 1300 < t.size then 2 else if ¬ Num t then 6 else if (limbs (pv t t.size)).length ≤ 128 then 0 else 2
open Classical in
noncomputable def prsV (t : ByteArray) : List Nat := if prsE t = 0 then limbs (pv t t.size) else []
theorem Parsed.op {t : ByteArray} {w w' : World} {e : Ending} (h : Parsed t w e w') : OpR (prsE t) (prsV t) w e w' := by
  by_cases h1 : 1300 < t.size
  · obtain ⟨rfl, hk⟩ := h.long h1
    have e1 : prsE t = 2 := by unfold prsE; rw [if_pos h1]
    have e2 : prsV t = [] := by unfold prsV; rw [if_neg (by rw [e1]; decide)]
    exact ⟨⟨_, by rw [e1], by rw [e2]; exact Sl.nil _⟩, hk⟩
  · by_cases h2 : Num t
    · have hg := h.good h1 h2
      by_cases h3 : (limbs (pv t t.size)).length ≤ 128
      · have e1 : prsE t = 0 := by unfold prsE; rw [if_neg h1, if_neg (fun h => h h2), if_pos h3]
        have e2 : prsV t = limbs (pv t t.size) := by unfold prsV; rw [if_pos e1]
        obtain ⟨v, rfl, hs, -⟩ := hg.ok h3
        exact ⟨⟨v, by rw [e1], by rw [e2]; exact hs⟩, hg.kp⟩
      · have e1 : prsE t = 2 := by unfold prsE; rw [if_neg h1, if_neg (fun h => h h2), if_neg h3]
        have e2 : prsV t = [] := by unfold prsV; rw [if_neg (by rw [e1]; decide)]
        exact ⟨⟨_, by rw [e1]; exact hg.over (by omega), by rw [e2]; exact Sl.nil _⟩, hg.kp⟩
    · obtain ⟨rfl, hk⟩ := h.bad h1 h2
      have e1 : prsE t = 6 := by unfold prsE; rw [if_neg h1, if_pos h2]
      have e2 : prsV t = [] := by unfold prsV; rw [if_neg (by rw [e1]; decide)]
      exact ⟨⟨_, by rw [e1], by rw [e2]; exact Sl.nil _⟩, hk⟩
theorem digits_ten {V K : Nat} (h : V < 4294967296 ^ K) (hK : 0 < K) : Lib.nDigits V ≤ 10 * K := by
  have h2 : (4294967296 : Nat) ^ K ≤ 10 ^ (10 * K) := by
    have := Nat.pow_le_pow_left (show 4294967296 ≤ 10 ^ 10 by decide) K
    rwa [← Nat.pow_mul] at this
  exact nDigits_le (10 * K) _ (by omega) (Nat.lt_of_lt_of_le h h2)
theorem fmtS_size {xs : List Nat} (hl : Lt xs) : (fmtS xs).size ≤ 1280 := by
  unfold fmtS
  cases hx : wf xs with
  | false => simp [ByteArray.size]
  | true =>
    rw [if_pos rfl, decS_size]
    exact digits_ten (pow_max (wf_canon hl hx).2 (val_lt hl)) (by omega)
theorem cut1400 (s : ByteArray) (h : 1400 ≤ s.size) (w : World) : (Instr.slice 9 (.string s) none (some (.int .i64 1400)) none).run Tryd.prog w = .ok (.string (s.extract 0 1400)) w := by
  have hj : (1400 : Int) ≤ (s.size : Int) := by omega
  simp [Instr.slice, Instr.sliceBounds, Instr.sliceBound, asIntOf, run_underlying Tryd.underlying9, hj]
set_option maxRecDepth 100000 in
set_option maxHeartbeats 8000000 in
theorem texts_any {xs : List Nat} {vx : Value} {w : World} (hx : Sl w vx xs) (s : ByteArray) (hs : s.size ≤ 140737488351232) (htab : Tab w) :
    Calls Tryd.prog 4 #[vx, .string s] w fun e w' => e = .returned (.bool true) ∧ Kp w w' := by
  obtain ⟨l, el⟩ : ∃ l, l = s.size := ⟨_, rfl⟩
  have EL := Lib.hid el
  rw [← el] at hs
  clear el
  have qs : ∀ w, (Builtin.len_ #[9] 3 #[.string s]).run Tryd.prog w = .ok (goInt l) w := fun w => by rw [run_len_string w _ _ s Tryd.underlying9, EL.out]
  have HT := Lib.hid htab; have HX := Lib.hid hx; clear htab hx
  go_enter Tryd.func4, Tryd.ntmps4
  go_wp2_with fail
  refine (bounded_any HX.out).mono ?_
  rintro e w1 ⟨⟨va, rfl, ha⟩, rfl⟩
  obtain ⟨x, ex⟩ : ∃ x, x = xs.take 140 := ⟨_, rfl⟩
  rw [← ex] at ha
  have HA := Lib.hid ha; clear ha ex
  obtain ⟨ao, ca, rfl, hca, hma, -⟩ := HA.out.ex
  unfold maxLen at hma
  obtain ⟨la, ela⟩ : ∃ la, la = x.length := ⟨_, rfl⟩
  rw [← ela] at hca HA ⊢
  clear ela
  by_cases h40 : 40 < la
  · go_wp2_with fail
    refine (ltrim_any HA.out).mono ?_
    rintro e wt ⟨⟨vt, rfl, ht⟩, rfl⟩
    have HB := Lib.hid ht; clear ht
    obtain ⟨y, ey⟩ : ∃ y, y = limbs (val (x.take 20)) := ⟨_, rfl⟩
    rw [← ey] at HB
    clear ey
    go_wp2_with fail
    refine (Format_r HB.out HT.out).mono ?_
    intro e w2 h; obtain ⟨rfl, hk⟩ := h
    have HSZ := Lib.hid (fmtS_size HB.out.lt)
    obtain ⟨u, eu⟩ : ∃ u, u = fmtS (y) := ⟨_, rfl⟩
    obtain ⟨E, eE⟩ : ∃ E, E = fmtE (y) := ⟨_, rfl⟩
    rw [← eu, ← eE]; rw [← eu] at HSZ
    have HK2 := Lib.hid hk; have HA2 := Lib.hid (HB.out.keep hk); have EU := Lib.hid eu; have EE := Lib.hid eE; clear hk eu eE
    go_wp2_with fail
    refine (rFormat_r HA2.out).mono ?_
    intro e w3 h; obtain ⟨rfl, hk⟩ := h
    rw [← EU.out, ← EE.out]
    have HK3 := Lib.hid (Kp.trans HK2.out hk); clear hk EU EE HA2
    have hus : ((u.size : Nat) : Int) ≤ 8388608 := by have := HSZ.out; omega
    have hz1 : (ByteArray.size ⟨#[48]⟩ : Int) ≤ 8388608 := by simp [ByteArray.size]
    have hc0 : (u.toList == u.toList) = true := beq_self_eq_true _
    obtain ⟨z, ez⟩ : ∃ z : ByteArray, z = ⟨#[48]⟩ ++ u := ⟨_, rfl⟩
    have hadd : ∀ w, (Op.stringOp .add ⟨#[48]⟩ u).run Tryd.prog w = .ok (.string z) w := fun w => by rw [ez]; exact run_string_add w _ _ hz1 hus
    have HZS : Hid (z.size ≤ 1281) := by show _ ≤ _; rw [ez, ByteArray.size_append]; have := HSZ.out; simp only [ByteArray.size, List.size_toArray, List.length_cons, List.length_nil] at this ⊢; omega
    clear ez hus hz1
    by_cases hl : 1400 < l
    · skip
      obtain ⟨t, et⟩ : ∃ t : ByteArray, t = s.extract 0 1400 := ⟨_, rfl⟩
      have hsl : ∀ w, (Instr.slice 9 (.string s) none (some (.int .i64 1400)) none).run Tryd.prog w = .ok (.string t) w := fun w => by rw [et]; exact cut1400 s (by have := EL.out; omega) w
      have HTS : Hid (t.size ≤ 1400) := by show _ ≤ _; rw [et, ByteArray.size_extract]; omega
      clear et
      have hdl : decide ((1400 : Int) < (l : Int)) = true := decide_eq_true (by omega)
      go_wp2_with fail
      obtain ⟨w4, ew4⟩ : ∃ w4, w4 = w3.alloc (.cells #[.string t, .string u, .string z] 9) := ⟨_, rfl⟩
      have HK4 : Hid (Kp w w4) := by rw [ew4]; exact Kp.alloc HK3.out _
      have HC : Hid (∀ (i : Nat) (v : Value), (#[Value.string t, .string u, .string z] : Array Value)[i]? = some v → w4.cell? ⟨w3.heap.size, i, none⟩ = some v) := fun i v h => by rw [ew4, World.cell?_alloc_new]; exact h
      rw [← ew4]
      clear ew4
      go_loopw [52] (fun iv wr => ∃ i : Nat, i ≤ 3 ∧ iv = .int .i64 i ∧ Kp w4 wr) (fun iv _ => 3 - (intOf iv).toNat)
      case atStart => exact ⟨0, by omega, rfl, Kp.refl _⟩
      case round =>
        obtain ⟨i, hi, rfl, hk⟩ := hrel
        rename World => wr
        have HKR := Lib.hid hk; clear hk
        by_cases hi3 : i < 3
        · have hx : ∃ y : ByteArray, (#[Value.string t, .string u, .string z] : Array Value)[i]? = some (.string y) ∧ y.size ≤ 1000000000 := by
            have h1 := HTS.out; have h2 := HSZ.out; have h3 := HZS.out
            rcases (show i = 0 ∨ i = 1 ∨ i = 2 by omega) with rfl | rfl | rfl
            · exact ⟨t, rfl, by omega⟩
            · exact ⟨u, rfl, by omega⟩
            · exact ⟨z, rfl, by omega⟩
          obtain ⟨y, hy1, hy2⟩ := hx
          have hc4 := HC.out i _ hy1
          have hcell : wr.cell? ⟨w3.heap.size, i, none⟩ = some (.string y) := (HKR.out.cell (World.block_lt_of_cell? w4 _ hc4)).trans hc4
          have HY := Lib.hid hy2
          clear hy1 hc4 hy2
          go_wp2_with fail
          refine (Parse_any y HY.out wr).mono ?_
          intro e w5 h
          obtain ⟨⟨v5, rfl, hs5⟩, hk⟩ := h.op
          obtain ⟨E5, eE⟩ : ∃ E, E = prsE y := ⟨_, rfl⟩
          obtain ⟨V5, eV⟩ : ∃ V, V = prsV y := ⟨_, rfl⟩
          rw [← eE]; rw [← eV] at hs5
          have HS5 := Lib.hid hs5; have HK5 := Lib.hid (Kp.trans HKR.out hk); have HE := Lib.hid eE; have HV := Lib.hid eV; clear hs5 hk eE eV h
          go_wp2_with fail
          refine (rParse_any y HY.out w5).mono ?_
          intro e w6 h
          obtain ⟨⟨v6, rfl, hs6⟩, hk⟩ := h.op
          rw [← HE.out]; rw [← HV.out] at hs6
          have HS6 := Lib.hid hs6; have HS56 := Lib.hid (HS5.out.keep hk); have HK6 := Lib.hid (Kp.trans HK5.out hk); clear hs6 hk h
          go_wp2_with fail
          refine (lsame_eq E5 HS56.out HS6.out).mono ?_
          rintro e w7 ⟨rfl, hk⟩
          have HK7 := Lib.hid (Kp.trans HK6.out hk); clear hk
          go_wp2_with fail
          go_roundw
          case rel => exact ⟨i + 1, by omega, vint (by omega), HK7.out⟩
          case measure => simp [intOf]; omega
        · have hi4 : i = 3 := by omega
          subst hi4
          have HKZ := Lib.hid (Kp.trans HK4.out HKR.out)
          go_wp2_with fail
          refine (awake_any wr (HT.out.keep HKZ.out)).mono ?_
          rintro e wz ⟨rfl, hk⟩
          have KZ := Lib.hid (Kp.trans HKZ.out hk); clear hk
          go_wp2
          go_ret
          exact ⟨rfl, KZ.out⟩
    · skip
      have HTS : Hid (s.size ≤ 1400) := by have := EL.out; show _ ≤ _; omega
      go_wp2_with fail
      obtain ⟨w4, ew4⟩ : ∃ w4, w4 = w3.alloc (.cells #[.string s, .string u, .string z] 9) := ⟨_, rfl⟩
      have HK4 : Hid (Kp w w4) := by rw [ew4]; exact Kp.alloc HK3.out _
      have HC : Hid (∀ (i : Nat) (v : Value), (#[Value.string s, .string u, .string z] : Array Value)[i]? = some v → w4.cell? ⟨w3.heap.size, i, none⟩ = some v) := fun i v h => by rw [ew4, World.cell?_alloc_new]; exact h
      rw [← ew4]
      clear ew4
      go_loopw [52] (fun iv wr => ∃ i : Nat, i ≤ 3 ∧ iv = .int .i64 i ∧ Kp w4 wr) (fun iv _ => 3 - (intOf iv).toNat)
      case atStart => exact ⟨0, by omega, rfl, Kp.refl _⟩
      case round =>
        obtain ⟨i, hi, rfl, hk⟩ := hrel
        rename World => wr
        have HKR := Lib.hid hk; clear hk
        by_cases hi3 : i < 3
        · have hx : ∃ y : ByteArray, (#[Value.string s, .string u, .string z] : Array Value)[i]? = some (.string y) ∧ y.size ≤ 1000000000 := by
            have h1 := HTS.out; have h2 := HSZ.out; have h3 := HZS.out
            rcases (show i = 0 ∨ i = 1 ∨ i = 2 by omega) with rfl | rfl | rfl
            · exact ⟨s, rfl, by omega⟩
            · exact ⟨u, rfl, by omega⟩
            · exact ⟨z, rfl, by omega⟩
          obtain ⟨y, hy1, hy2⟩ := hx
          have hc4 := HC.out i _ hy1
          have hcell : wr.cell? ⟨w3.heap.size, i, none⟩ = some (.string y) := (HKR.out.cell (World.block_lt_of_cell? w4 _ hc4)).trans hc4
          have HY := Lib.hid hy2
          clear hy1 hc4 hy2
          go_wp2_with fail
          refine (Parse_any y HY.out wr).mono ?_
          intro e w5 h
          obtain ⟨⟨v5, rfl, hs5⟩, hk⟩ := h.op
          obtain ⟨E5, eE⟩ : ∃ E, E = prsE y := ⟨_, rfl⟩
          obtain ⟨V5, eV⟩ : ∃ V, V = prsV y := ⟨_, rfl⟩
          rw [← eE]; rw [← eV] at hs5
          have HS5 := Lib.hid hs5; have HK5 := Lib.hid (Kp.trans HKR.out hk); have HE := Lib.hid eE; have HV := Lib.hid eV; clear hs5 hk eE eV h
          go_wp2_with fail
          refine (rParse_any y HY.out w5).mono ?_
          intro e w6 h
          obtain ⟨⟨v6, rfl, hs6⟩, hk⟩ := h.op
          rw [← HE.out]; rw [← HV.out] at hs6
          have HS6 := Lib.hid hs6; have HS56 := Lib.hid (HS5.out.keep hk); have HK6 := Lib.hid (Kp.trans HK5.out hk); clear hs6 hk h
          go_wp2_with fail
          refine (lsame_eq E5 HS56.out HS6.out).mono ?_
          rintro e w7 ⟨rfl, hk⟩
          have HK7 := Lib.hid (Kp.trans HK6.out hk); clear hk
          go_wp2_with fail
          go_roundw
          case rel => exact ⟨i + 1, by omega, vint (by omega), HK7.out⟩
          case measure => simp [intOf]; omega
        · have hi4 : i = 3 := by omega
          subst hi4
          have HKZ := Lib.hid (Kp.trans HK4.out HKR.out)
          go_wp2_with fail
          refine (awake_any wr (HT.out.keep HKZ.out)).mono ?_
          rintro e wz ⟨rfl, hk⟩
          have KZ := Lib.hid (Kp.trans HKZ.out hk); clear hk
          go_wp2
          go_ret
          exact ⟨rfl, KZ.out⟩
  · skip
    go_wp2_with fail
    refine (Format_r HA.out HT.out).mono ?_
    intro e w2 h; obtain ⟨rfl, hk⟩ := h
    have HSZ := Lib.hid (fmtS_size HA.out.lt)
    obtain ⟨u, eu⟩ : ∃ u, u = fmtS (x) := ⟨_, rfl⟩
    obtain ⟨E, eE⟩ : ∃ E, E = fmtE (x) := ⟨_, rfl⟩
    rw [← eu, ← eE]; rw [← eu] at HSZ
    have HK2 := Lib.hid hk; have HA2 := Lib.hid (HA.out.keep hk); have EU := Lib.hid eu; have EE := Lib.hid eE; clear hk eu eE
    go_wp2_with fail
    refine (rFormat_r HA2.out).mono ?_
    intro e w3 h; obtain ⟨rfl, hk⟩ := h
    rw [← EU.out, ← EE.out]
    have HK3 := Lib.hid (Kp.trans HK2.out hk); clear hk EU EE HA2
    have hus : ((u.size : Nat) : Int) ≤ 8388608 := by have := HSZ.out; omega
    have hz1 : (ByteArray.size ⟨#[48]⟩ : Int) ≤ 8388608 := by simp [ByteArray.size]
    have hc0 : (u.toList == u.toList) = true := beq_self_eq_true _
    obtain ⟨z, ez⟩ : ∃ z : ByteArray, z = ⟨#[48]⟩ ++ u := ⟨_, rfl⟩
    have hadd : ∀ w, (Op.stringOp .add ⟨#[48]⟩ u).run Tryd.prog w = .ok (.string z) w := fun w => by rw [ez]; exact run_string_add w _ _ hz1 hus
    have HZS : Hid (z.size ≤ 1281) := by show _ ≤ _; rw [ez, ByteArray.size_append]; have := HSZ.out; simp only [ByteArray.size, List.size_toArray, List.length_cons, List.length_nil] at this ⊢; omega
    clear ez hus hz1
    by_cases hl : 1400 < l
    · skip
      obtain ⟨t, et⟩ : ∃ t : ByteArray, t = s.extract 0 1400 := ⟨_, rfl⟩
      have hsl : ∀ w, (Instr.slice 9 (.string s) none (some (.int .i64 1400)) none).run Tryd.prog w = .ok (.string t) w := fun w => by rw [et]; exact cut1400 s (by have := EL.out; omega) w
      have HTS : Hid (t.size ≤ 1400) := by show _ ≤ _; rw [et, ByteArray.size_extract]; omega
      clear et
      have hdl : decide ((1400 : Int) < (l : Int)) = true := decide_eq_true (by omega)
      go_wp2_with fail
      obtain ⟨w4, ew4⟩ : ∃ w4, w4 = w3.alloc (.cells #[.string t, .string u, .string z] 9) := ⟨_, rfl⟩
      have HK4 : Hid (Kp w w4) := by rw [ew4]; exact Kp.alloc HK3.out _
      have HC : Hid (∀ (i : Nat) (v : Value), (#[Value.string t, .string u, .string z] : Array Value)[i]? = some v → w4.cell? ⟨w3.heap.size, i, none⟩ = some v) := fun i v h => by rw [ew4, World.cell?_alloc_new]; exact h
      rw [← ew4]
      clear ew4
      go_loopw [52] (fun iv wr => ∃ i : Nat, i ≤ 3 ∧ iv = .int .i64 i ∧ Kp w4 wr) (fun iv _ => 3 - (intOf iv).toNat)
      case atStart => exact ⟨0, by omega, rfl, Kp.refl _⟩
      case round =>
        obtain ⟨i, hi, rfl, hk⟩ := hrel
        rename World => wr
        have HKR := Lib.hid hk; clear hk
        by_cases hi3 : i < 3
        · have hx : ∃ y : ByteArray, (#[Value.string t, .string u, .string z] : Array Value)[i]? = some (.string y) ∧ y.size ≤ 1000000000 := by
            have h1 := HTS.out; have h2 := HSZ.out; have h3 := HZS.out
            rcases (show i = 0 ∨ i = 1 ∨ i = 2 by omega) with rfl | rfl | rfl
            · exact ⟨t, rfl, by omega⟩
            · exact ⟨u, rfl, by omega⟩
            · exact ⟨z, rfl, by omega⟩
          obtain ⟨y, hy1, hy2⟩ := hx
          have hc4 := HC.out i _ hy1
          have hcell : wr.cell? ⟨w3.heap.size, i, none⟩ = some (.string y) := (HKR.out.cell (World.block_lt_of_cell? w4 _ hc4)).trans hc4
          have HY := Lib.hid hy2
          clear hy1 hc4 hy2
          go_wp2_with fail
          refine (Parse_any y HY.out wr).mono ?_
          intro e w5 h
          obtain ⟨⟨v5, rfl, hs5⟩, hk⟩ := h.op
          obtain ⟨E5, eE⟩ : ∃ E, E = prsE y := ⟨_, rfl⟩
          obtain ⟨V5, eV⟩ : ∃ V, V = prsV y := ⟨_, rfl⟩
          rw [← eE]; rw [← eV] at hs5
          have HS5 := Lib.hid hs5; have HK5 := Lib.hid (Kp.trans HKR.out hk); have HE := Lib.hid eE; have HV := Lib.hid eV; clear hs5 hk eE eV h
          go_wp2_with fail
          refine (rParse_any y HY.out w5).mono ?_
          intro e w6 h
          obtain ⟨⟨v6, rfl, hs6⟩, hk⟩ := h.op
          rw [← HE.out]; rw [← HV.out] at hs6
          have HS6 := Lib.hid hs6; have HS56 := Lib.hid (HS5.out.keep hk); have HK6 := Lib.hid (Kp.trans HK5.out hk); clear hs6 hk h
          go_wp2_with fail
          refine (lsame_eq E5 HS56.out HS6.out).mono ?_
          rintro e w7 ⟨rfl, hk⟩
          have HK7 := Lib.hid (Kp.trans HK6.out hk); clear hk
          go_wp2_with fail
          go_roundw
          case rel => exact ⟨i + 1, by omega, vint (by omega), HK7.out⟩
          case measure => simp [intOf]; omega
        · have hi4 : i = 3 := by omega
          subst hi4
          have HKZ := Lib.hid (Kp.trans HK4.out HKR.out)
          go_wp2_with fail
          refine (awake_any wr (HT.out.keep HKZ.out)).mono ?_
          rintro e wz ⟨rfl, hk⟩
          have KZ := Lib.hid (Kp.trans HKZ.out hk); clear hk
          go_wp2
          go_ret
          exact ⟨rfl, KZ.out⟩
    · skip
      have HTS : Hid (s.size ≤ 1400) := by have := EL.out; show _ ≤ _; omega
      go_wp2_with fail
      obtain ⟨w4, ew4⟩ : ∃ w4, w4 = w3.alloc (.cells #[.string s, .string u, .string z] 9) := ⟨_, rfl⟩
      have HK4 : Hid (Kp w w4) := by rw [ew4]; exact Kp.alloc HK3.out _
      have HC : Hid (∀ (i : Nat) (v : Value), (#[Value.string s, .string u, .string z] : Array Value)[i]? = some v → w4.cell? ⟨w3.heap.size, i, none⟩ = some v) := fun i v h => by rw [ew4, World.cell?_alloc_new]; exact h
      rw [← ew4]
      clear ew4
      go_loopw [52] (fun iv wr => ∃ i : Nat, i ≤ 3 ∧ iv = .int .i64 i ∧ Kp w4 wr) (fun iv _ => 3 - (intOf iv).toNat)
      case atStart => exact ⟨0, by omega, rfl, Kp.refl _⟩
      case round =>
        obtain ⟨i, hi, rfl, hk⟩ := hrel
        rename World => wr
        have HKR := Lib.hid hk; clear hk
        by_cases hi3 : i < 3
        · have hx : ∃ y : ByteArray, (#[Value.string s, .string u, .string z] : Array Value)[i]? = some (.string y) ∧ y.size ≤ 1000000000 := by
            have h1 := HTS.out; have h2 := HSZ.out; have h3 := HZS.out
            rcases (show i = 0 ∨ i = 1 ∨ i = 2 by omega) with rfl | rfl | rfl
            · exact ⟨s, rfl, by omega⟩
            · exact ⟨u, rfl, by omega⟩
            · exact ⟨z, rfl, by omega⟩
          obtain ⟨y, hy1, hy2⟩ := hx
          have hc4 := HC.out i _ hy1
          have hcell : wr.cell? ⟨w3.heap.size, i, none⟩ = some (.string y) := (HKR.out.cell (World.block_lt_of_cell? w4 _ hc4)).trans hc4
          have HY := Lib.hid hy2
          clear hy1 hc4 hy2
          go_wp2_with fail
          refine (Parse_any y HY.out wr).mono ?_
          intro e w5 h
          obtain ⟨⟨v5, rfl, hs5⟩, hk⟩ := h.op
          obtain ⟨E5, eE⟩ : ∃ E, E = prsE y := ⟨_, rfl⟩
          obtain ⟨V5, eV⟩ : ∃ V, V = prsV y := ⟨_, rfl⟩
          rw [← eE]; rw [← eV] at hs5
          have HS5 := Lib.hid hs5; have HK5 := Lib.hid (Kp.trans HKR.out hk); have HE := Lib.hid eE; have HV := Lib.hid eV; clear hs5 hk eE eV h
          go_wp2_with fail
          refine (rParse_any y HY.out w5).mono ?_
          intro e w6 h
          obtain ⟨⟨v6, rfl, hs6⟩, hk⟩ := h.op
          rw [← HE.out]; rw [← HV.out] at hs6
          have HS6 := Lib.hid hs6; have HS56 := Lib.hid (HS5.out.keep hk); have HK6 := Lib.hid (Kp.trans HK5.out hk); clear hs6 hk h
          go_wp2_with fail
          refine (lsame_eq E5 HS56.out HS6.out).mono ?_
          rintro e w7 ⟨rfl, hk⟩
          have HK7 := Lib.hid (Kp.trans HK6.out hk); clear hk
          go_wp2_with fail
          go_roundw
          case rel => exact ⟨i + 1, by omega, vint (by omega), HK7.out⟩
          case measure => simp [intOf]; omega
        · have hi4 : i = 3 := by omega
          subst hi4
          have HKZ := Lib.hid (Kp.trans HK4.out HKR.out)
          go_wp2_with fail
          refine (awake_any wr (HT.out.keep HKZ.out)).mono ?_
          rintro e wz ⟨rfl, hk⟩
          have KZ := Lib.hid (Kp.trans HKZ.out hk); clear hk
          go_wp2
          go_ret
          exact ⟨rfl, KZ.out⟩
end Go.Proofs.YtfcpfmjoelhlnaaDoor
