/- The reference's numbers: PutUint, PutInt, PutText, Uint. Conditions: the slices hold the bytes that are named, 64-bit integers. -/
import Derived.Test.YtlfoikjbbbhbdaaWAwake
import Derived.Lib.AppendStr
namespace Go.Proofs.Ytlfoikjbbbhbdaa
namespace By
open Go.RowKit WireN
set_option linter.unusedVariables false
set_option linter.unusedSimpArgs false

set_option maxRecDepth 100000 in
set_option maxHeartbeats 1000000 in
theorem rPutUint_any {v : Value} {xs : List Nat} {w : World} (hs : Sl w v xs) (hx : xs.length ≤ 35184372088832) (n : Nat) (hn : n < 18446744073709551616) :
    Calls Try.prog 52 #[v, .int .u64 n] w fun e w' => ∃ v', e = .returned v' ∧ Own w w' v' (xs ++ uv n) := by
  obtain ⟨ao, cap, rfl, -, -, -⟩ := hs.open3
  obtain ⟨X, hX⟩ : ∃ X, X = xs ++ uv n := ⟨_, rfl⟩
  have HXL : Hid (X.length ≤ 35184372088842) := by show _ ≤ _; rw [hX, List.length_append]; have := uv_ten hn; omega
  have HX := Lib.hid hX
  rw [← hX]
  have HS := Lib.hid hs
  have hx' : (xs.length : Int) ≤ 35184372088832 := by omega
  have hn' : (n : Int) ≤ 18446744073709551615 := by omega
  clear hX hs hx hn
  go_enter Try.func52, Try.ntmps52
  go_wp2_with (at_builtin; refine wpList_ap (w := w) rfl (.const (.slice none 0 0)) (.tmp 6) 48 rfl Try.underlying48 _ _ [] xs rfl rfl (Own.start w) HS.out (by simp; omega) ?_)
  intro v0 w0 hown0
  have HOWN0 := Lib.hid hown0; clear hown0
  go_wp2_with fail
  go_loopw [5, 1] (fun v i wy => ∃ (m : Nat) (zs : List Nat), i = .int .u64 m ∧ m ≤ n ∧ zs ++ uv m = X ∧ Own w wy v zs) (fun _ i _ => (intOf i).toNat)
  case atStart => exact ⟨n, xs, rfl, Nat.le_refl _, by rw [HX.out], by simpa using HOWN0.out⟩
  case round =>
    obtain ⟨m, zs, rfl, hm, hz, hown⟩ := hrel
    rename World => wx
    have HZ := Lib.hid hz; have HOWN := Lib.hid hown
    obtain ⟨ao1, c1, hfo, -, -⟩ := hown.form
    subst hfo
    clear hz hown
    have HL : Hid (zs.length ≤ 35184372088842) := by have h1 := congrArg List.length HZ.out; have h2 := HXL.out; rw [List.length_append] at h1; show _ ≤ _; omega
    by_cases h : 128 ≤ m
    · go_wp2_with (at_builtin; refine wpList_ap (w := w) rfl (.tmp 10) (.tmp 15) 48 rfl Try.underlying48 _ _ zs [m % 128 + 128] rfl rfl (HOWN.out.keep (kp_alloc _ _)) (sl_one (by omega) (by omega)) (by have := HL.out; simp; omega) ?_)
      intro v' w1 hown1
      have HOWN1 := Lib.hid hown1; clear hown1
      go_wp2_with fail
      go_roundw
      case rel => exact ⟨m / 128, zs ++ [m % 128 + 128], by go_num, by omega, uv_step HZ.out h, HOWN1.out⟩
      case measure => simp [intOf]; omega
    · have FZ : Hid (zs ++ [m] = X) := by have := HZ.out; rw [uv_lt (by omega)] at this; exact this
      go_wp2_with (at_builtin; refine wpList_ap (w := w) rfl (.tmp 19) (.tmp 22) 48 rfl Try.underlying48 _ _ zs [m] rfl rfl (HOWN.out.keep (kp_alloc _ _)) (sl_one (by omega) (by omega)) (by have := HL.out; simp; omega) ?_)
      intro v' w1 hown1
      rw [FZ.out] at hown1
      have HOWN1 := Lib.hid hown1; clear hown1
      go_wp2_with fail
      go_ret
      exact ⟨_, rfl, HOWN1.out⟩

theorem strCells_U (s : ByteArray) : Lib.strCells s = U (bs s) := by simp [Lib.strCells, U, bs, List.map_map, Function.comp_def]
end By
end Go.Proofs.Ytlfoikjbbbhbdaa

/- The reference's Uint and Int: what is read at any place. Conditions: the slice holds the bytes that are named, 64-bit integers. -/
namespace Go.Proofs.Ytlfoikjbbbhbdaa
namespace By
open Go.RowKit WireN
set_option linter.unusedVariables false
set_option linter.unusedSimpArgs false

theorem jn_at (m : List Nat) (d : Nat) (h : d < m.length) : jn (m.drop d) = m[d]?.getD 0 % 128 + 128 * jn (m.drop (d + 1)) := by
  rw [List.drop_eq_getElem_cons h, List.getElem?_eq_getElem h]; rfl
/-- How a number that ends at E is one. -/
theorem short_ways {k z : Nat} (h : short k z = true) : (k = 9 ∧ z = 1) ∨ k = 0 ∨ (1 ≤ k ∧ k ≤ 8 ∧ z ≠ 0) := by
  unfold short at h
  split at h
  · exact .inl ⟨by omega, by simpa using h⟩
  · simp at h; omega
theorem short_not {k z : Nat} (h : short k z = false) : 10 ≤ k ∨ (k = 9 ∧ 2 ≤ z) ∨ (1 ≤ k ∧ k ≤ 9 ∧ z = 0) := by
  unfold short at h
  split at h
  · have : z ≠ 1 := by simpa using h
    omega
  · simp at h; omega
theorem get_drop (xs : List Nat) (i k : Nat) : (xs.drop i)[k]?.getD 0 = xs[i + k]?.getD 0 := by rw [List.getElem?_drop]

set_option maxRecDepth 100000 in
set_option maxHeartbeats 4000000 in
theorem rUint_in {v : Value} {xs : List Nat} {w : World} (hs : Sl w v xs) (i : Nat) (hi : i ≤ xs.length) :
    Calls Try.prog 63 #[v, .int .i64 (i : Nat)] w fun e w' => e = .returned (rdV xs i) ∧ w = w' := by
  obtain ⟨ao, cap, rfl, hc, hm, hno⟩ := hs.open3
  obtain ⟨len, hlen⟩ : ∃ len, len = xs.length := ⟨_, rfl⟩
  rw [← hlen] at hs hc hi ⊢
  have hlm : len ≤ 140737488355328 := by have := hs.sm; omega
  have HS := Lib.hid hs; have HL := Lib.hid hlen
  clear hs hno hlen hm
  go_enter Try.func63, Try.ntmps63
  go_wp2_with fail
  go_loop [7] (fun p => ∃ E : Nat, i ≤ E ∧ E ≤ len ∧ p = .int .i64 (E : Nat) ∧ Hid (∀ j, i ≤ j → j < E → 128 ≤ xs[j]?.getD 0)) (fun p => len - (intOf p).toNat)
  case atStart => exact ⟨i, Nat.le_refl _, hi, rfl, fun j h1 h2 => absurd h2 (by omega)⟩
  case round =>
    obtain ⟨E, hiE, hEl, rfl, hz⟩ := hrel
    by_cases hlt : E < len
    · obtain ⟨b, off, rfl, hcell⟩ := sl_cell HS.out (by omega)
      have hc1 := hcell E hlt
      obtain ⟨x, ex⟩ : ∃ x, x = xs[E]?.getD 0 := ⟨_, rfl⟩
      have hxb := HS.out.lt E
      rw [← ex] at hc1 hxb
      have EX := Lib.hid ex
      have HCE := Lib.hid hcell
      clear ex hcell
      by_cases hx : 128 ≤ x
      · go_wp2_with fail
        go_round
        case rel => exact ⟨E + 1, by omega, by omega, by go_num, fun j h1 h2 => by
          by_cases hj : j = E
          · subst hj; rw [← EX.out]; exact hx
          · exact hz.out j h1 (by omega)⟩
        case measure => simp [intOf]; omega
      · have hkl : E - i < (xs.drop i).length := by rw [List.length_drop]; have := HL.out; omega
        have hon : on (xs.drop i) = E - i := by
          refine on_eq hkl (fun j hj => ?_) ?_
          · rw [get_drop]; exact hz.out _ (by omega) (by omega)
          · rw [get_drop, show i + (E - i) = E by omega, ← EX.out]; omega
        have hxd : (xs.drop i)[E - i]?.getD 0 = x := by rw [get_drop, show i + (E - i) = E by omega, EX.out]
        by_cases hsh : short (E - i) x = true
        · have hrd := rd_ok (l := xs) (i := i) (by have := HL.out; omega) hon hkl (by rw [hxd]; exact hsh)
          have hjl := short_lt (l := xs.drop i) hkl (by rw [hxd]; exact hsh)
          have HW := Lib.hid (short_ways hsh)
          obtain ⟨M, hM⟩ : ∃ M, M = (xs.drop i).take (E - i + 1) := ⟨_, rfl⟩
          rw [← hM] at hrd hjl
          have HML : Hid (M.length = E - i + 1) := by show _ = _; rw [hM, List.length_take]; omega
          have HMG : Hid (∀ d, d < E - i + 1 → M[d]?.getD 0 = xs[i + d]?.getD 0) := by
            intro d hd
            rw [hM, List.getElem?_take, if_pos (by omega), get_drop]
          have FIN := Lib.hid hrd
          have HJL := Lib.hid hjl
          have HZX : Hid (x = 0 → short (E - i) x = true → E = i) := by
            intro h0 hs
            rcases short_ways hs with ⟨h1, h2⟩ | h1 | ⟨h1, h2, h3⟩ <;> omega
          have KEY : Hid (((E : Int) - i = 9 ∧ x = 1) ∨ (E : Int) ≤ i ∨ (1 ≤ (E : Int) - i ∧ (E : Int) - i ≤ 8 ∧ x ≠ 0)) := by
            rcases HW.out with ⟨h1, h2⟩ | h1 | ⟨h1, h2, h3⟩
            · exact .inl ⟨by omega, h2⟩
            · exact .inr (.inl (by omega))
            · exact .inr (.inr ⟨by omega, by omega, h3⟩)
          clear hkl hon hxd hsh hrd hjl hM HZX
          have key := KEY.out
          rcases key with ⟨h1, h2⟩ | h1 | ⟨h1, h2, h3⟩
          · subst h2
            clear EX
            go_wp2_with fail
            go_loop [8, 4] (fun p n => ∃ c : Nat, i ≤ c ∧ c ≤ E + 1 ∧ p = .int .i64 ((c : Int) - 1) ∧ n = .int .u64 (jn (M.drop (c - i)) : Nat)) (fun p _ => (intOf p + 1 - i).toNat)
            case atStart => exact ⟨E + 1, by omega, by omega, vint (by omega), by rw [List.drop_eq_nil_of_le (by have := HML.out; omega)]; rfl⟩
            case round =>
              obtain ⟨c, hic, hcE, rfl, rfl⟩ := hrel
              by_cases hlt2 : i < c
              · obtain ⟨d, rfl⟩ : ∃ d, c = d + 1 := ⟨c - 1, by omega⟩
                rw [show ((d + 1 : Nat) : Int) - 1 = (d : Int) by omega]
                have hcd := HCE.out d (by omega)
                have hyb := HS.out.lt d
                obtain ⟨y, ey⟩ : ∃ y, y = xs[d]?.getD 0 := ⟨_, rfl⟩
                rw [← ey] at hcd hyb
                have hja := jn_at M (d - i) (by have := HML.out; omega)
                rw [HMG.out (d - i) (by omega), show i + (d - i) = d by omega, ← ey, show d - i + 1 = d + 1 - i by omega] at hja
                have hjle := jn_drop_le M (d - i)
                obtain ⟨J, hJ⟩ : ∃ J, J = jn (M.drop (d + 1 - i)) := ⟨_, rfl⟩
                rw [← hJ] at hja ⊢
                have hJb : (J : Int) * 128 + (y : Int) % 128 ≤ 18446744073709551615 := by have := HJL.out; omega
                have HJA := Lib.hid hja
                clear ey hja hjle hJ
                go_wp2_with fail
                go_round
                case rel => exact ⟨d, by omega, by omega, rfl, by rw [HJA.out]; exact vint (by omega)⟩
                case measure => simp [intOf]; omega
              · obtain rfl : i = c := by omega
                go_wp2_with fail
                go_ret3
                exact ⟨rdV_eq FIN.out rfl (by omega) rfl, rfl⟩
          · have hb9 : ((E : Int) - i == 9) = false := beq_eq_false_iff_ne.2 (by omega)
            go_wp2_with fail
            go_loop [8, 4] (fun p n => ∃ c : Nat, i ≤ c ∧ c ≤ E + 1 ∧ p = .int .i64 ((c : Int) - 1) ∧ n = .int .u64 (jn (M.drop (c - i)) : Nat)) (fun p _ => (intOf p + 1 - i).toNat)
            case atStart => exact ⟨E + 1, by omega, by omega, vint (by omega), by rw [List.drop_eq_nil_of_le (by have := HML.out; omega)]; rfl⟩
            case round =>
              obtain ⟨c, hic, hcE, rfl, rfl⟩ := hrel
              by_cases hlt2 : i < c
              · obtain ⟨d, rfl⟩ : ∃ d, c = d + 1 := ⟨c - 1, by omega⟩
                rw [show ((d + 1 : Nat) : Int) - 1 = (d : Int) by omega]
                have hcd := HCE.out d (by omega)
                have hyb := HS.out.lt d
                obtain ⟨y, ey⟩ : ∃ y, y = xs[d]?.getD 0 := ⟨_, rfl⟩
                rw [← ey] at hcd hyb
                have hja := jn_at M (d - i) (by have := HML.out; omega)
                rw [HMG.out (d - i) (by omega), show i + (d - i) = d by omega, ← ey, show d - i + 1 = d + 1 - i by omega] at hja
                have hjle := jn_drop_le M (d - i)
                obtain ⟨J, hJ⟩ : ∃ J, J = jn (M.drop (d + 1 - i)) := ⟨_, rfl⟩
                rw [← hJ] at hja ⊢
                have hJb : (J : Int) * 128 + (y : Int) % 128 ≤ 18446744073709551615 := by have := HJL.out; omega
                have HJA := Lib.hid hja
                clear ey hja hjle hJ
                go_wp2_with fail
                go_round
                case rel => exact ⟨d, by omega, by omega, rfl, by rw [HJA.out]; exact vint (by omega)⟩
                case measure => simp [intOf]; omega
              · obtain rfl : i = c := by omega
                go_wp2_with fail
                go_ret3
                exact ⟨rdV_eq FIN.out rfl (by omega) rfl, rfl⟩
          · have hb9 : ((E : Int) - i == 9) = false := beq_eq_false_iff_ne.2 (by omega)
            have hb0 : ((x : Int) == 0) = false := beq_eq_false_iff_ne.2 (by omega)
            clear h3
            go_wp2_with fail
            go_loop [8, 4] (fun p n => ∃ c : Nat, i ≤ c ∧ c ≤ E + 1 ∧ p = .int .i64 ((c : Int) - 1) ∧ n = .int .u64 (jn (M.drop (c - i)) : Nat)) (fun p _ => (intOf p + 1 - i).toNat)
            case atStart => exact ⟨E + 1, by omega, by omega, vint (by omega), by rw [List.drop_eq_nil_of_le (by have := HML.out; omega)]; rfl⟩
            case round =>
              obtain ⟨c, hic, hcE, rfl, rfl⟩ := hrel
              by_cases hlt2 : i < c
              · obtain ⟨d, rfl⟩ : ∃ d, c = d + 1 := ⟨c - 1, by omega⟩
                rw [show ((d + 1 : Nat) : Int) - 1 = (d : Int) by omega]
                have hcd := HCE.out d (by omega)
                have hyb := HS.out.lt d
                obtain ⟨y, ey⟩ : ∃ y, y = xs[d]?.getD 0 := ⟨_, rfl⟩
                rw [← ey] at hcd hyb
                have hja := jn_at M (d - i) (by have := HML.out; omega)
                rw [HMG.out (d - i) (by omega), show i + (d - i) = d by omega, ← ey, show d - i + 1 = d + 1 - i by omega] at hja
                have hjle := jn_drop_le M (d - i)
                obtain ⟨J, hJ⟩ : ∃ J, J = jn (M.drop (d + 1 - i)) := ⟨_, rfl⟩
                rw [← hJ] at hja ⊢
                have hJb : (J : Int) * 128 + (y : Int) % 128 ≤ 18446744073709551615 := by have := HJL.out; omega
                have HJA := Lib.hid hja
                clear ey hja hjle hJ
                go_wp2_with fail
                go_round
                case rel => exact ⟨d, by omega, by omega, rfl, by rw [HJA.out]; exact vint (by omega)⟩
                case measure => simp [intOf]; omega
              · obtain rfl : i = c := by omega
                go_wp2_with fail
                go_ret3
                exact ⟨rdV_eq FIN.out rfl (by omega) rfl, rfl⟩
        · have hsf : short (E - i) x = false := by simpa using hsh
          have FIN := Lib.hid (rd_text (l := xs) (i := i) (by have := HL.out; omega) hon hkl (by rw [hxd]; exact hsf))
          have HW := Lib.hid (short_not hsf)
          clear hkl hon hxd hsh hsf
          have key : (10 ≤ (E : Int) - i) ∨ ((E : Int) - i = 9 ∧ 2 ≤ (x : Int)) ∨ ((E : Int) - i = 9 ∧ x = 0) ∨ (1 ≤ (E : Int) - i ∧ (E : Int) - i ≤ 8 ∧ x = 0) := by
            rcases HW.out with h1 | ⟨h1, h2⟩ | ⟨h1, h2, h3⟩ <;> omega
          rcases key with h1 | ⟨h1, h2⟩ | ⟨h1, h2⟩ | ⟨h1, h2, h3⟩
          · go_wp2_with fail
            go_ret3
            exact ⟨rdV_eq FIN.out rfl rfl rfl, rfl⟩
          · go_wp2_with fail
            go_ret3
            exact ⟨rdV_eq FIN.out rfl rfl rfl, rfl⟩
          · subst h2
            clear EX
            go_wp2_with fail
            go_ret3
            exact ⟨rdV_eq FIN.out rfl rfl rfl, rfl⟩
          · have hb9 : ((E : Int) - i == 9) = false := beq_eq_false_iff_ne.2 (by omega)
            subst h3
            clear EX
            go_wp2_with fail
            go_ret3
            exact ⟨rdV_eq FIN.out rfl rfl rfl, rfl⟩
    · obtain rfl : E = len := by omega
      have hlx := HL.out
      have hon : on (xs.drop i) = (xs.drop i).length := on_all (fun j hj => by rw [List.length_drop] at hj; rw [get_drop]; exact hz.out _ (by omega) (by omega))
      have FIN := Lib.hid (rd_end (l := xs) (i := i) (by omega) hon)
      clear hon hlx
      go_wp2_with fail
      go_ret3
      exact ⟨rdV_eq FIN.out rfl rfl rfl, rfl⟩

set_option maxRecDepth 100000 in
set_option maxHeartbeats 1000000 in
theorem rUint_any {v : Value} {xs : List Nat} {w : World} (hs : Sl w v xs) (i : Int) (hi : -9223372036854775808 ≤ i ∧ i ≤ 9223372036854775807) :
    Calls Try.prog 63 #[v, .int .i64 i] w fun e w' => e = .returned (rdV xs i) ∧ w = w' := by
  by_cases h0 : i < 0
  · obtain ⟨ao, cap, rfl, hc, hm, hno⟩ := hs.open3
    have FIN := Lib.hid (rd_range (l := xs) (.inl h0))
    clear hs hno hm
    go_enter Try.func63, Try.ntmps63
    go_wp2_with fail
    go_ret3
    exact ⟨rdV_eq FIN.out rfl rfl rfl, rfl⟩
  · obtain ⟨j, rfl⟩ : ∃ j : Nat, i = j := ⟨i.toNat, by omega⟩
    by_cases hj : xs.length < j
    · obtain ⟨ao, cap, rfl, hc, hm, hno⟩ := hs.open3
      have FIN := Lib.hid (rd_range (l := xs) (i := (j : Int)) (.inr (by omega)))
      clear hs hno hm
      go_enter Try.func63, Try.ntmps63
      go_wp2_with fail
      go_ret3
      exact ⟨rdV_eq FIN.out rfl rfl rfl, rfl⟩
    · exact rUint_in hs j (by omega)
theorem rUint_at {v : Value} {xs : List Nat} {w : World} (hs : Sl w v xs) (i : Int) (hi : -9223372036854775808 ≤ i ∧ i ≤ 9223372036854775807) {n p e : Nat} (h : rd xs i = (n, p, e)) :
    Calls Try.prog 63 #[v, .int .i64 i] w fun r w' => r = .returned (.tuple #[.int .u64 (n : Nat), .int .i64 (p : Nat), .int .i64 (e : Nat)]) ∧ w = w' := by
  rw [← rdV_of h]
  exact rUint_any hs i hi
theorem rd_zero {l : List Nat} {i : Int} {n p e : Nat} (h : rd l i = (n, p, e)) (he : e ≠ 0) : n = 0 ∧ p = 0 := by
  unfold rd at h
  split at h
  · simp at h; omega
  · split at h
    · simp at h; omega
    · split at h
      · simp at h; omega
      · simp at h; omega

end By
end Go.Proofs.Ytlfoikjbbbhbdaa

/- The reference's Text: a string that is read at any place. Conditions: the slice holds the bytes that are named, 64-bit integers. -/
namespace Go.Proofs.Ytlfoikjbbbhbdaa
namespace By
open Go.RowKit WireN
theorem st_inj' {xs ys : List Nat} (hx : Lt xs) (hy : Lt ys) : ((st xs).toList == (st ys).toList) = decide (xs = ys) := by
  rw [Bool.eq_iff_iff, beq_iff_eq, decide_eq_true_eq, st_inj hx hy]
set_option maxRecDepth 100000 in
set_option maxHeartbeats 1000000 in
theorem Same_any {va vb : Value} {xs ys : List Nat} {w : World} (ha : Sl w va xs) (hb : Sl w vb ys) :
    Calls Try.prog 27 #[va, vb] w fun e w' => e = .returned (.bool (decide (xs = ys))) ∧ w = w' := by
  have ca := conv_str ha
  have cb := conv_str hb
  have HBQ := Lib.hid (st_inj' ha.lt hb.lt)
  obtain ⟨sa, hsa⟩ : ∃ sa, sa = st xs := ⟨_, rfl⟩
  obtain ⟨sb, hsb⟩ : ∃ sb, sb = st ys := ⟨_, rfl⟩
  rw [← hsa] at ca HBQ
  rw [← hsb] at cb HBQ
  clear ha hb hsa hsb
  go_enter Try.func27, Try.ntmps27
  go_wp2_with fail
  go_ret
  exact ⟨ret_bool HBQ.out, rfl⟩
end By
end Go.Proofs.Ytlfoikjbbbhbdaa

/- The reference's Checksum and Frame. Conditions: the slices hold the bytes that are named. -/
namespace Go.Proofs.Ytlfoikjbbbhbdaa
namespace By
open Go.RowKit WireN
set_option linter.unusedVariables false
set_option linter.unusedSimpArgs false

set_option maxRecDepth 100000 in
set_option maxHeartbeats 1000000 in
theorem rChecksum_any {v : Value} {xs : List Nat} {w : World} (hs : Sl w v xs) :
    Calls Try.prog 53 #[v] w fun e w' => e = .returned (.int .u32 (ck xs : Nat)) ∧ w = w' := by
  obtain ⟨ao, cap, rfl, hc, hm, hno⟩ := hs.open3
  obtain ⟨len, hlen⟩ : ∃ len, len = xs.length := ⟨_, rfl⟩
  rw [← hlen] at hs hc ⊢
  have hlm : len ≤ 140737488355328 := by have := hs.sm; omega
  have HS := Lib.hid hs; have HL := Lib.hid hlen
  clear hs hlen hno hm hc
  go_enter Try.func53, Try.ntmps53
  go_wp2_with fail
  go_loop [5, 3, 4] (fun i a b => ∃ k : Nat, k ≤ len ∧ i = .int .i64 k ∧ a = .int .u32 ((ab (xs.take k)).1 : Nat) ∧ b = .int .u32 ((ab (xs.take k)).2 : Nat)) (fun i _ _ => len - (intOf i).toNat)
  case atStart => exact ⟨0, Nat.zero_le _, rfl, rfl, rfl⟩
  case round =>
    obtain ⟨k, hk, rfl, rfl, rfl⟩ := hrel
    obtain ⟨hA, hB⟩ := ab_lt (xs.take k)
    by_cases hkl : k < len
    · obtain ⟨b, off, rfl, hcell⟩ := sl_cell HS.out (by omega)
      have hc1 := hcell k hkl
      clear hcell
      have hxb := HS.out.lt k
      obtain ⟨x, ex⟩ : ∃ x, x = xs[k]?.getD 0 := ⟨_, rfl⟩
      rw [← ex] at hc1 hxb
      have hsn : ab (xs.take (k + 1)) = stp (ab (xs.take k)) x := by rw [take_snoc (by have := HL.out; omega), ab_snoc, ex]
      obtain ⟨⟨A, B⟩, hAB⟩ : ∃ p, p = ab (xs.take k) := ⟨_, rfl⟩
      rw [← hAB] at hsn hA hB ⊢
      simp only at hA hB ⊢
      have hA' : (A : Int) < 65521 := by omega
      have hB' : (B : Int) < 65521 := by omega
      have FIN : Hid (ab (xs.take (k + 1)) = ((A + x) % 65521, (B + (A + x) % 65521) % 65521)) := by show _ = _; rw [hsn]; rfl
      clear hsn hAB ex hA hB
      go_wp2_with fail
      go_round
      case rel => exact ⟨k + 1, by omega, by go_num, by rw [FIN.out]; show _ = Value.int .u32 (((A + x) % 65521 : Nat) : Int); exact vint (by omega), by rw [FIN.out]; show _ = Value.int .u32 (((B + (A + x) % 65521) % 65521 : Nat) : Int); exact vint (by omega)⟩
      case measure => simp [intOf]; omega
    · have FIN : Hid (xs.take k = xs) := List.take_of_length_le (by have := HL.out; omega)
      rw [FIN.out] at hA hB ⊢
      have FCK : Hid (ck xs = (ab xs).1 + 65536 * (ab xs).2) := rfl
      obtain ⟨A, hA'⟩ : ∃ A, A = (ab xs).1 := ⟨_, rfl⟩
      obtain ⟨B, hB'⟩ : ∃ B, B = (ab xs).2 := ⟨_, rfl⟩
      rw [← hA'] at hA FCK ⊢
      rw [← hB'] at hB FCK ⊢
      have hA2 : (A : Int) < 65521 := by omega
      have hB2 : (B : Int) < 65521 := by omega
      clear hA' hB' hA hB
      go_wp2_with fail
      go_ret
      exact ⟨ret_int (by rw [FCK.out]; omega), rfl⟩
end By
end Go.Proofs.Ytlfoikjbbbhbdaa
