/- The law on numbers and strings: it returns true for all bytes, numbers and strings, and leaves what was there. Conditions: 64-bit integers. -/
import Derived.Test.YthicocggnficcaaWRefT
import Derived.Test.YthicocggnficcaaWBackA
namespace Go.Proofs.Ythicocggnficcaa
namespace By
open Go.RowKit WireN
set_option linter.unusedVariables false
set_option linter.unusedSimpArgs false

theorem rInt_at {v : Value} {xs : List Nat} {w : World} (hs : Sl w v xs) (i : Int) (hi : -9223372036854775808 ≤ i ∧ i ≤ 9223372036854775807) {n p e : Nat} {k : Int} (h : rd xs i = (n, p, e)) (hk : unfo n = k) :
    Calls Try.prog 18 #[v, .int .i64 i] w fun r w' => r = .returned (.tuple #[.int .i64 k, .int .i64 (p : Nat), .int .i64 (e : Nat)]) ∧ w = w' := by
  have := rInt_any hs i hi
  unfold rdIV at this
  rw [h] at this
  rw [← hk]
  exact this
theorem rText_at {v : Value} {xs : List Nat} {w : World} (hs : Sl w v xs) (i : Int) (hi : -9223372036854775808 ≤ i ∧ i ≤ 9223372036854775807) (most : Int) (hm : -9223372036854775808 ≤ most ∧ most ≤ 9223372036854775807) {b : List Nat} {p e : Nat} {s : ByteArray} (h : rdT xs i most = (b, p, e)) (hk : st b = s) :
    Calls Try.prog 20 #[v, .int .i64 i, .int .i64 most] w fun r w' => r = .returned (.tuple #[.string s, .int .i64 (p : Nat), .int .i64 (e : Nat)]) ∧ w = w' := by
  have := rText_any hs i hi most hm
  unfold rdTV at this
  rw [h] at this
  rw [← hk]
  exact this
theorem str_to (s : ByteArray) (h : 300 < s.size) (w : World) : (Instr.slice 9 (.string s) none (some (.int .i64 300)) none).run Try.prog w = .ok (.string (s.extract 0 300)) w :=
  run_slice_string_h w 9 s Try.underlying9 .i64 300 (by omega) (by omega)
theorem cut_to {w : World} {ao : Option Addr} {len cap : Nat} {xs : List Nat} (h : Sl w (.slice ao len cap) xs) (k : Nat) (hk : k ≤ len) : Sl w (.slice ao k cap) (xs.take k) := by
  obtain ⟨⟨ao', cap', e, h2, h3, h4, h5⟩, hl, hs⟩ := h
  simp only [Value.slice.injEq] at e
  obtain ⟨rfl, rfl, rfl⟩ := e
  have e : (xs.take k).length = k := by rw [List.length_take]; omega
  exact ⟨⟨ao, cap, by rw [e], by omega, h3, h4.take k, h5⟩, hl.take k, by omega⟩

set_option maxRecDepth 100000 in
set_option maxHeartbeats 8000000 in
theorem numbers_a {v : Value} {xs : List Nat} {w : World} (hs : Sl w v xs) (n : Nat) (hn : n < 18446744073709551616) (k : Int) (hk : -9223372036854775808 ≤ k ∧ k ≤ 9223372036854775807) (at' : Int) (hat : -9223372036854775808 ≤ at' ∧ at' ≤ 9223372036854775807)
    (most : Int) (hm : -9223372036854775808 ≤ most ∧ most ≤ 9223372036854775807) (s : ByteArray) (hlen : xs.length ≤ 600) (hsz : s.size ≤ 300) :
    Calls Try.prog 3 #[v, .int .u64 n, .int .i64 k, .int .i64 at', .int .i64 most, .string s] w fun e w' => e = .returned (.bool true) ∧ Kp w w' := by
  obtain ⟨ao, cap, rfl, -, -, -⟩ := hs.open3
  obtain ⟨len, hl⟩ : ∃ len, len = xs.length := ⟨_, rfl⟩
  rw [← hl] at hs hlen ⊢
  obtain ⟨l, el⟩ : ∃ l, l = s.size := ⟨_, rfl⟩
  have qs : ∀ w, (Builtin.len_ #[9] 3 #[.string s]).run Try.prog w = .ok (goInt l) w := fun w => by rw [run_len_string w _ _ s Try.underlying9, el]
  obtain ⟨XS, hXS⟩ : ∃ XS, XS = xs := ⟨_, rfl⟩
  have hxl : XS.length ≤ 600 := by rw [hXS]; omega
  rw [← hXS] at hs
  have HSV := Lib.hid hs
  have hll : (len : Int) ≤ 600 := by omega
  clear hXS
  obtain ⟨S, hS⟩ : ∃ S, S = s := ⟨_, rfl⟩
  have hsl : S.size ≤ 300 := by rw [hS]; exact hsz
  have hl2 : (l : Int) ≤ 300 := by omega
  rw [← hS] at qs ⊢
  clear hS
  have HN := Lib.hid hn; have HK := Lib.hid hk; have HAT := Lib.hid hat; have HM := Lib.hid hm
  have HT1 := Lib.hid (uv_ten hn); have HT2 := Lib.hid (uv_ten (fo_lt hk)); have HT3 := Lib.hid (uv_ten (n := S.size) (by omega))
  clear hs hl el hn hk hat hm hlen hsz
  go_enter Try.func3, Try.ntmps3
  go_wp2_with fail
  refine (PutUint_any HSV.out (by omega) n HN.out).mono ?_
  rintro e w1 ⟨v1, rfl, ho1⟩
  have HO1 := Lib.hid ho1; clear ho1
  go_wp2_with fail
  refine (PutInt_any (HO1.out.sl (by have := HT1.out; simp; omega)) (by have := HT1.out; simp; omega) k HK.out).mono ?_
  rintro e w2 ⟨v2, rfl, ho2⟩
  have HO2 := Lib.hid (ho2.base HO1.out.kp); clear ho2
  go_wp2_with fail
  refine (PutText_any (HO2.out.sl (by have := HT1.out; have := HT2.out; simp; omega)) (by have := HT1.out; have := HT2.out; simp; omega) S (by omega)).mono ?_
  rintro e w3 ⟨v3, rfl, ho3⟩
  have HO3 := Lib.hid (ho3.base HO2.out.kp)
  have HSV3 := Lib.hid (HSV.out.keep HO3.out.kp); clear ho3
  go_wp2_with fail
  refine (rPutUint_any HSV3.out (by omega) n HN.out).mono ?_
  rintro e w4 ⟨v4, rfl, ho4⟩
  have HO4 := Lib.hid ho4; clear ho4
  go_wp2_with fail
  refine (rPutInt_any (HO4.out.sl (by have := HT1.out; simp; omega)) (by have := HT1.out; simp; omega) k HK.out).mono ?_
  rintro e w5 ⟨v5, rfl, ho5⟩
  have HO5 := Lib.hid (ho5.base HO4.out.kp); clear ho5
  go_wp2_with fail
  refine (rPutText_any (HO5.out.sl (by have := HT1.out; have := HT2.out; simp; omega)) (by have := HT1.out; have := HT2.out; simp; omega) S (by omega)).mono ?_
  rintro e w6 ⟨v6, rfl, ho6⟩
  have ho6' := ho6.base HO5.out.kp
  obtain ⟨X, hX⟩ : ∃ X, X = XS ++ uv n ++ uv (fo k) ++ (uv S.size ++ bs S) := ⟨_, rfl⟩
  have HXL : Hid (X.length ≤ 140737488355328) := by
    show _ ≤ _
    rw [hX]; have := HT1.out; have := HT2.out; have := HT3.out; simp [bs_len]; omega
  have hx3 := HO3.out
  rw [← hX] at hx3 ho6'
  have HY := Lib.hid (ho6'.sl HXL.out)
  have HX := Lib.hid ((hx3.sl HXL.out).keep ho6'.kp)
  have HK6 := Lib.hid (Kp.trans HO3.out.kp ho6'.kp)
  clear ho6 ho6' hX hx3
  go_wp2_with fail
  refine (Same_any HX.out HY.out).mono ?_
  rintro e w' ⟨rfl, rfl⟩
  rw [decide_eq_true (rfl : X = X)]
  go_wp2_with fail
  go_loop [14] (fun j => ∃ c : Nat, c ≤ 42 ∧ j = .int .i64 ((c : Int) - 1)) (fun j => (41 - intOf j).toNat)
  case atStart => exact ⟨0, by omega, rfl⟩
  case round =>
    obtain ⟨c, hc42, rfl⟩ := hrel
    by_cases hc : c ≤ 41
    · by_cases hc41 : c = 41
      · have hb : ((c : Int) - 1 == 40) = true := by rw [beq_iff_eq]; omega
        obtain ⟨J, hJ⟩ : ∃ J, J = at' := ⟨_, rfl⟩
        have hJb : Hid (-9223372036854775808 ≤ J ∧ J ≤ 9223372036854775807) := by rw [hJ]; exact HAT.out
        rw [← hJ]
        clear hJ
        obtain ⟨⟨a, p, er⟩, hr⟩ : ∃ r, rd X J = r := ⟨_, rfl⟩
        obtain ⟨⟨b, q, ef⟩, hrT⟩ : ∃ r, rdT X J most = r := ⟨_, rfl⟩
        obtain ⟨S2, hS2⟩ : ∃ S2, st b = S2 := ⟨_, rfl⟩
        obtain ⟨u, hu⟩ : ∃ u, unfo a = u := ⟨_, rfl⟩
        have HR := Lib.hid hr; have HRT := Lib.hid hrT; have HS2 := Lib.hid hS2; have HU := Lib.hid hu
        clear hr hrT hS2 hu
        go_wp2_with fail
        refine (Uint_at HX.out J hJb.out HR.out).mono ?_
        rintro e w' ⟨rfl, rfl⟩
        go_wp2_with fail
        refine (rUint_at HX.out J hJb.out HR.out).mono ?_
        rintro e w' ⟨rfl, rfl⟩
        go_wp2_with fail
        refine (Int_at HX.out J hJb.out HR.out HU.out).mono ?_
        rintro e w' ⟨rfl, rfl⟩
        go_wp2_with fail
        refine (rInt_at HX.out J hJb.out HR.out HU.out).mono ?_
        rintro e w' ⟨rfl, rfl⟩
        go_wp2_with fail
        refine (Text_at HX.out J hJb.out most HM.out HRT.out HS2.out).mono ?_
        rintro e w' ⟨rfl, rfl⟩
        go_wp2_with fail
        refine (rText_at HX.out J hJb.out most HM.out HRT.out HS2.out).mono ?_
        rintro e w' ⟨rfl, rfl⟩
        go_wp2_with fail
        go_round
        case rel => exact ⟨c + 1, by omega, vint (by omega)⟩
        case measure => simp [intOf]; omega
      · have hb : ((c : Int) - 1 == 40) = false := beq_eq_false_iff_ne.2 (by omega)
        obtain ⟨J, hJ⟩ : ∃ J, J = (c : Int) - 1 := ⟨_, rfl⟩
        have hJb : Hid (-9223372036854775808 ≤ J ∧ J ≤ 9223372036854775807) := by show _ ∧ _; omega
        have hJc : (c : Int) = J + 1 := by omega
        have hj1 : -1 ≤ J ∧ J ≤ 39 := by omega
        have HCJ := Lib.hid hJc
        rw [← hJ] at hb ⊢
        clear hJ hJc
        obtain ⟨⟨a, p, er⟩, hr⟩ : ∃ r, rd X J = r := ⟨_, rfl⟩
        obtain ⟨⟨b, q, ef⟩, hrT⟩ : ∃ r, rdT X J most = r := ⟨_, rfl⟩
        obtain ⟨S2, hS2⟩ : ∃ S2, st b = S2 := ⟨_, rfl⟩
        obtain ⟨u, hu⟩ : ∃ u, unfo a = u := ⟨_, rfl⟩
        have HR := Lib.hid hr; have HRT := Lib.hid hrT; have HS2 := Lib.hid hS2; have HU := Lib.hid hu
        clear hr hrT hS2 hu
        go_wp2_with fail
        refine (Uint_at HX.out J hJb.out HR.out).mono ?_
        rintro e w' ⟨rfl, rfl⟩
        go_wp2_with fail
        refine (rUint_at HX.out J hJb.out HR.out).mono ?_
        rintro e w' ⟨rfl, rfl⟩
        go_wp2_with fail
        refine (Int_at HX.out J hJb.out HR.out HU.out).mono ?_
        rintro e w' ⟨rfl, rfl⟩
        go_wp2_with fail
        refine (rInt_at HX.out J hJb.out HR.out HU.out).mono ?_
        rintro e w' ⟨rfl, rfl⟩
        go_wp2_with fail
        refine (Text_at HX.out J hJb.out most HM.out HRT.out HS2.out).mono ?_
        rintro e w' ⟨rfl, rfl⟩
        go_wp2_with fail
        refine (rText_at HX.out J hJb.out most HM.out HRT.out HS2.out).mono ?_
        rintro e w' ⟨rfl, rfl⟩
        go_wp2_with fail
        go_round
        case rel => exact ⟨c + 1, by omega, vint (by have := HCJ.out; omega)⟩
        case measure => simp [intOf]; omega
    · go_wp2_with fail
      refine (awake_any _).mono ?_
      rintro e w9 ⟨rfl, hk9⟩
      have HK9 := Lib.hid (Kp.trans HK6.out hk9); clear hk9
      go_wp2_with fail
      go_ret
      exact ⟨rfl, HK9.out⟩
set_option maxRecDepth 100000 in
set_option maxHeartbeats 8000000 in
theorem numbers_b {v : Value} {xs : List Nat} {w : World} (hs : Sl w v xs) (n : Nat) (hn : n < 18446744073709551616) (k : Int) (hk : -9223372036854775808 ≤ k ∧ k ≤ 9223372036854775807) (at' : Int) (hat : -9223372036854775808 ≤ at' ∧ at' ≤ 9223372036854775807)
    (most : Int) (hm : -9223372036854775808 ≤ most ∧ most ≤ 9223372036854775807) (s : ByteArray) (hlen : 600 < xs.length) (hsz : s.size ≤ 300) :
    Calls Try.prog 3 #[v, .int .u64 n, .int .i64 k, .int .i64 at', .int .i64 most, .string s] w fun e w' => e = .returned (.bool true) ∧ Kp w w' := by
  obtain ⟨ao, cap, rfl, -, -, -⟩ := hs.open3
  obtain ⟨len, hl⟩ : ∃ len, len = xs.length := ⟨_, rfl⟩
  rw [← hl] at hs hlen ⊢
  obtain ⟨l, el⟩ : ∃ l, l = s.size := ⟨_, rfl⟩
  have qs : ∀ w, (Builtin.len_ #[9] 3 #[.string s]).run Try.prog w = .ok (goInt l) w := fun w => by rw [run_len_string w _ _ s Try.underlying9, el]
  have hsv := cut_to hs 600 (by omega)
  have hcl : (len : Int) ≤ cap := by
    obtain ⟨ao', cap', e, h1, h2, h3⟩ := hs.open3
    simp only [Value.slice.injEq] at e
    omega
  obtain ⟨XS, hXS⟩ : ∃ XS, XS = xs.take 600 := ⟨_, rfl⟩
  have hxl : XS.length ≤ 600 := by rw [hXS, List.length_take]; omega
  rw [← hXS] at hsv
  have HSV := Lib.hid hsv
  have hll : (600 : Int) < (len : Int) := by omega
  clear hXS hsv
  obtain ⟨S, hS⟩ : ∃ S, S = s := ⟨_, rfl⟩
  have hsl : S.size ≤ 300 := by rw [hS]; exact hsz
  have hl2 : (l : Int) ≤ 300 := by omega
  rw [← hS] at qs ⊢
  clear hS
  have HN := Lib.hid hn; have HK := Lib.hid hk; have HAT := Lib.hid hat; have HM := Lib.hid hm
  have HT1 := Lib.hid (uv_ten hn); have HT2 := Lib.hid (uv_ten (fo_lt hk)); have HT3 := Lib.hid (uv_ten (n := S.size) (by omega))
  clear hs hl el hn hk hat hm hlen hsz
  go_enter Try.func3, Try.ntmps3
  go_wp2_with fail
  refine (PutUint_any HSV.out (by omega) n HN.out).mono ?_
  rintro e w1 ⟨v1, rfl, ho1⟩
  have HO1 := Lib.hid ho1; clear ho1
  go_wp2_with fail
  refine (PutInt_any (HO1.out.sl (by have := HT1.out; simp; omega)) (by have := HT1.out; simp; omega) k HK.out).mono ?_
  rintro e w2 ⟨v2, rfl, ho2⟩
  have HO2 := Lib.hid (ho2.base HO1.out.kp); clear ho2
  go_wp2_with fail
  refine (PutText_any (HO2.out.sl (by have := HT1.out; have := HT2.out; simp; omega)) (by have := HT1.out; have := HT2.out; simp; omega) S (by omega)).mono ?_
  rintro e w3 ⟨v3, rfl, ho3⟩
  have HO3 := Lib.hid (ho3.base HO2.out.kp)
  have HSV3 := Lib.hid (HSV.out.keep HO3.out.kp); clear ho3
  go_wp2_with fail
  refine (rPutUint_any HSV3.out (by omega) n HN.out).mono ?_
  rintro e w4 ⟨v4, rfl, ho4⟩
  have HO4 := Lib.hid ho4; clear ho4
  go_wp2_with fail
  refine (rPutInt_any (HO4.out.sl (by have := HT1.out; simp; omega)) (by have := HT1.out; simp; omega) k HK.out).mono ?_
  rintro e w5 ⟨v5, rfl, ho5⟩
  have HO5 := Lib.hid (ho5.base HO4.out.kp); clear ho5
  go_wp2_with fail
  refine (rPutText_any (HO5.out.sl (by have := HT1.out; have := HT2.out; simp; omega)) (by have := HT1.out; have := HT2.out; simp; omega) S (by omega)).mono ?_
  rintro e w6 ⟨v6, rfl, ho6⟩
  have ho6' := ho6.base HO5.out.kp
  obtain ⟨X, hX⟩ : ∃ X, X = XS ++ uv n ++ uv (fo k) ++ (uv S.size ++ bs S) := ⟨_, rfl⟩
  have HXL : Hid (X.length ≤ 140737488355328) := by
    show _ ≤ _
    rw [hX]; have := HT1.out; have := HT2.out; have := HT3.out; simp [bs_len]; omega
  have hx3 := HO3.out
  rw [← hX] at hx3 ho6'
  have HY := Lib.hid (ho6'.sl HXL.out)
  have HX := Lib.hid ((hx3.sl HXL.out).keep ho6'.kp)
  have HK6 := Lib.hid (Kp.trans HO3.out.kp ho6'.kp)
  clear ho6 ho6' hX hx3
  go_wp2_with fail
  refine (Same_any HX.out HY.out).mono ?_
  rintro e w' ⟨rfl, rfl⟩
  rw [decide_eq_true (rfl : X = X)]
  go_wp2_with fail
  go_loop [14] (fun j => ∃ c : Nat, c ≤ 42 ∧ j = .int .i64 ((c : Int) - 1)) (fun j => (41 - intOf j).toNat)
  case atStart => exact ⟨0, by omega, rfl⟩
  case round =>
    obtain ⟨c, hc42, rfl⟩ := hrel
    by_cases hc : c ≤ 41
    · by_cases hc41 : c = 41
      · have hb : ((c : Int) - 1 == 40) = true := by rw [beq_iff_eq]; omega
        obtain ⟨J, hJ⟩ : ∃ J, J = at' := ⟨_, rfl⟩
        have hJb : Hid (-9223372036854775808 ≤ J ∧ J ≤ 9223372036854775807) := by rw [hJ]; exact HAT.out
        rw [← hJ]
        clear hJ
        obtain ⟨⟨a, p, er⟩, hr⟩ : ∃ r, rd X J = r := ⟨_, rfl⟩
        obtain ⟨⟨b, q, ef⟩, hrT⟩ : ∃ r, rdT X J most = r := ⟨_, rfl⟩
        obtain ⟨S2, hS2⟩ : ∃ S2, st b = S2 := ⟨_, rfl⟩
        obtain ⟨u, hu⟩ : ∃ u, unfo a = u := ⟨_, rfl⟩
        have HR := Lib.hid hr; have HRT := Lib.hid hrT; have HS2 := Lib.hid hS2; have HU := Lib.hid hu
        clear hr hrT hS2 hu
        go_wp2_with fail
        refine (Uint_at HX.out J hJb.out HR.out).mono ?_
        rintro e w' ⟨rfl, rfl⟩
        go_wp2_with fail
        refine (rUint_at HX.out J hJb.out HR.out).mono ?_
        rintro e w' ⟨rfl, rfl⟩
        go_wp2_with fail
        refine (Int_at HX.out J hJb.out HR.out HU.out).mono ?_
        rintro e w' ⟨rfl, rfl⟩
        go_wp2_with fail
        refine (rInt_at HX.out J hJb.out HR.out HU.out).mono ?_
        rintro e w' ⟨rfl, rfl⟩
        go_wp2_with fail
        refine (Text_at HX.out J hJb.out most HM.out HRT.out HS2.out).mono ?_
        rintro e w' ⟨rfl, rfl⟩
        go_wp2_with fail
        refine (rText_at HX.out J hJb.out most HM.out HRT.out HS2.out).mono ?_
        rintro e w' ⟨rfl, rfl⟩
        go_wp2_with fail
        go_round
        case rel => exact ⟨c + 1, by omega, vint (by omega)⟩
        case measure => simp [intOf]; omega
      · have hb : ((c : Int) - 1 == 40) = false := beq_eq_false_iff_ne.2 (by omega)
        obtain ⟨J, hJ⟩ : ∃ J, J = (c : Int) - 1 := ⟨_, rfl⟩
        have hJb : Hid (-9223372036854775808 ≤ J ∧ J ≤ 9223372036854775807) := by show _ ∧ _; omega
        have hJc : (c : Int) = J + 1 := by omega
        have hj1 : -1 ≤ J ∧ J ≤ 39 := by omega
        have HCJ := Lib.hid hJc
        rw [← hJ] at hb ⊢
        clear hJ hJc
        obtain ⟨⟨a, p, er⟩, hr⟩ : ∃ r, rd X J = r := ⟨_, rfl⟩
        obtain ⟨⟨b, q, ef⟩, hrT⟩ : ∃ r, rdT X J most = r := ⟨_, rfl⟩
        obtain ⟨S2, hS2⟩ : ∃ S2, st b = S2 := ⟨_, rfl⟩
        obtain ⟨u, hu⟩ : ∃ u, unfo a = u := ⟨_, rfl⟩
        have HR := Lib.hid hr; have HRT := Lib.hid hrT; have HS2 := Lib.hid hS2; have HU := Lib.hid hu
        clear hr hrT hS2 hu
        go_wp2_with fail
        refine (Uint_at HX.out J hJb.out HR.out).mono ?_
        rintro e w' ⟨rfl, rfl⟩
        go_wp2_with fail
        refine (rUint_at HX.out J hJb.out HR.out).mono ?_
        rintro e w' ⟨rfl, rfl⟩
        go_wp2_with fail
        refine (Int_at HX.out J hJb.out HR.out HU.out).mono ?_
        rintro e w' ⟨rfl, rfl⟩
        go_wp2_with fail
        refine (rInt_at HX.out J hJb.out HR.out HU.out).mono ?_
        rintro e w' ⟨rfl, rfl⟩
        go_wp2_with fail
        refine (Text_at HX.out J hJb.out most HM.out HRT.out HS2.out).mono ?_
        rintro e w' ⟨rfl, rfl⟩
        go_wp2_with fail
        refine (rText_at HX.out J hJb.out most HM.out HRT.out HS2.out).mono ?_
        rintro e w' ⟨rfl, rfl⟩
        go_wp2_with fail
        go_round
        case rel => exact ⟨c + 1, by omega, vint (by have := HCJ.out; omega)⟩
        case measure => simp [intOf]; omega
    · go_wp2_with fail
      refine (awake_any _).mono ?_
      rintro e w9 ⟨rfl, hk9⟩
      have HK9 := Lib.hid (Kp.trans HK6.out hk9); clear hk9
      go_wp2_with fail
      go_ret
      exact ⟨rfl, HK9.out⟩
set_option maxRecDepth 100000 in
set_option maxHeartbeats 8000000 in
theorem numbers_c {v : Value} {xs : List Nat} {w : World} (hs : Sl w v xs) (n : Nat) (hn : n < 18446744073709551616) (k : Int) (hk : -9223372036854775808 ≤ k ∧ k ≤ 9223372036854775807) (at' : Int) (hat : -9223372036854775808 ≤ at' ∧ at' ≤ 9223372036854775807)
    (most : Int) (hm : -9223372036854775808 ≤ most ∧ most ≤ 9223372036854775807) (s : ByteArray) (hlen : xs.length ≤ 600) (hsz : 300 < s.size) :
    Calls Try.prog 3 #[v, .int .u64 n, .int .i64 k, .int .i64 at', .int .i64 most, .string s] w fun e w' => e = .returned (.bool true) ∧ Kp w w' := by
  obtain ⟨ao, cap, rfl, -, -, -⟩ := hs.open3
  obtain ⟨len, hl⟩ : ∃ len, len = xs.length := ⟨_, rfl⟩
  rw [← hl] at hs hlen ⊢
  obtain ⟨l, el⟩ : ∃ l, l = s.size := ⟨_, rfl⟩
  have qs : ∀ w, (Builtin.len_ #[9] 3 #[.string s]).run Try.prog w = .ok (goInt l) w := fun w => by rw [run_len_string w _ _ s Try.underlying9, el]
  obtain ⟨XS, hXS⟩ : ∃ XS, XS = xs := ⟨_, rfl⟩
  have hxl : XS.length ≤ 600 := by rw [hXS]; omega
  rw [← hXS] at hs
  have HSV := Lib.hid hs
  have hll : (len : Int) ≤ 600 := by omega
  clear hXS
  have hqs := str_to s hsz
  obtain ⟨S, hS⟩ : ∃ S, S = s.extract 0 300 := ⟨_, rfl⟩
  have hsl : S.size ≤ 300 := by rw [hS, ByteArray.size_extract]; omega
  rw [← hS] at hqs
  have hl2 : (300 : Int) < (l : Int) := by omega
  clear hS
  have HN := Lib.hid hn; have HK := Lib.hid hk; have HAT := Lib.hid hat; have HM := Lib.hid hm
  have HT1 := Lib.hid (uv_ten hn); have HT2 := Lib.hid (uv_ten (fo_lt hk)); have HT3 := Lib.hid (uv_ten (n := S.size) (by omega))
  clear hs hl el hn hk hat hm hlen hsz
  go_enter Try.func3, Try.ntmps3
  go_wp2_with fail
  refine (PutUint_any HSV.out (by omega) n HN.out).mono ?_
  rintro e w1 ⟨v1, rfl, ho1⟩
  have HO1 := Lib.hid ho1; clear ho1
  go_wp2_with fail
  refine (PutInt_any (HO1.out.sl (by have := HT1.out; simp; omega)) (by have := HT1.out; simp; omega) k HK.out).mono ?_
  rintro e w2 ⟨v2, rfl, ho2⟩
  have HO2 := Lib.hid (ho2.base HO1.out.kp); clear ho2
  go_wp2_with fail
  refine (PutText_any (HO2.out.sl (by have := HT1.out; have := HT2.out; simp; omega)) (by have := HT1.out; have := HT2.out; simp; omega) S (by omega)).mono ?_
  rintro e w3 ⟨v3, rfl, ho3⟩
  have HO3 := Lib.hid (ho3.base HO2.out.kp)
  have HSV3 := Lib.hid (HSV.out.keep HO3.out.kp); clear ho3
  go_wp2_with fail
  refine (rPutUint_any HSV3.out (by omega) n HN.out).mono ?_
  rintro e w4 ⟨v4, rfl, ho4⟩
  have HO4 := Lib.hid ho4; clear ho4
  go_wp2_with fail
  refine (rPutInt_any (HO4.out.sl (by have := HT1.out; simp; omega)) (by have := HT1.out; simp; omega) k HK.out).mono ?_
  rintro e w5 ⟨v5, rfl, ho5⟩
  have HO5 := Lib.hid (ho5.base HO4.out.kp); clear ho5
  go_wp2_with fail
  refine (rPutText_any (HO5.out.sl (by have := HT1.out; have := HT2.out; simp; omega)) (by have := HT1.out; have := HT2.out; simp; omega) S (by omega)).mono ?_
  rintro e w6 ⟨v6, rfl, ho6⟩
  have ho6' := ho6.base HO5.out.kp
  obtain ⟨X, hX⟩ : ∃ X, X = XS ++ uv n ++ uv (fo k) ++ (uv S.size ++ bs S) := ⟨_, rfl⟩
  have HXL : Hid (X.length ≤ 140737488355328) := by
    show _ ≤ _
    rw [hX]; have := HT1.out; have := HT2.out; have := HT3.out; simp [bs_len]; omega
  have hx3 := HO3.out
  rw [← hX] at hx3 ho6'
  have HY := Lib.hid (ho6'.sl HXL.out)
  have HX := Lib.hid ((hx3.sl HXL.out).keep ho6'.kp)
  have HK6 := Lib.hid (Kp.trans HO3.out.kp ho6'.kp)
  clear ho6 ho6' hX hx3
  go_wp2_with fail
  refine (Same_any HX.out HY.out).mono ?_
  rintro e w' ⟨rfl, rfl⟩
  rw [decide_eq_true (rfl : X = X)]
  go_wp2_with fail
  go_loop [14] (fun j => ∃ c : Nat, c ≤ 42 ∧ j = .int .i64 ((c : Int) - 1)) (fun j => (41 - intOf j).toNat)
  case atStart => exact ⟨0, by omega, rfl⟩
  case round =>
    obtain ⟨c, hc42, rfl⟩ := hrel
    by_cases hc : c ≤ 41
    · by_cases hc41 : c = 41
      · have hb : ((c : Int) - 1 == 40) = true := by rw [beq_iff_eq]; omega
        obtain ⟨J, hJ⟩ : ∃ J, J = at' := ⟨_, rfl⟩
        have hJb : Hid (-9223372036854775808 ≤ J ∧ J ≤ 9223372036854775807) := by rw [hJ]; exact HAT.out
        rw [← hJ]
        clear hJ
        obtain ⟨⟨a, p, er⟩, hr⟩ : ∃ r, rd X J = r := ⟨_, rfl⟩
        obtain ⟨⟨b, q, ef⟩, hrT⟩ : ∃ r, rdT X J most = r := ⟨_, rfl⟩
        obtain ⟨S2, hS2⟩ : ∃ S2, st b = S2 := ⟨_, rfl⟩
        obtain ⟨u, hu⟩ : ∃ u, unfo a = u := ⟨_, rfl⟩
        have HR := Lib.hid hr; have HRT := Lib.hid hrT; have HS2 := Lib.hid hS2; have HU := Lib.hid hu
        clear hr hrT hS2 hu
        go_wp2_with fail
        refine (Uint_at HX.out J hJb.out HR.out).mono ?_
        rintro e w' ⟨rfl, rfl⟩
        go_wp2_with fail
        refine (rUint_at HX.out J hJb.out HR.out).mono ?_
        rintro e w' ⟨rfl, rfl⟩
        go_wp2_with fail
        refine (Int_at HX.out J hJb.out HR.out HU.out).mono ?_
        rintro e w' ⟨rfl, rfl⟩
        go_wp2_with fail
        refine (rInt_at HX.out J hJb.out HR.out HU.out).mono ?_
        rintro e w' ⟨rfl, rfl⟩
        go_wp2_with fail
        refine (Text_at HX.out J hJb.out most HM.out HRT.out HS2.out).mono ?_
        rintro e w' ⟨rfl, rfl⟩
        go_wp2_with fail
        refine (rText_at HX.out J hJb.out most HM.out HRT.out HS2.out).mono ?_
        rintro e w' ⟨rfl, rfl⟩
        go_wp2_with fail
        go_round
        case rel => exact ⟨c + 1, by omega, vint (by omega)⟩
        case measure => simp [intOf]; omega
      · have hb : ((c : Int) - 1 == 40) = false := beq_eq_false_iff_ne.2 (by omega)
        obtain ⟨J, hJ⟩ : ∃ J, J = (c : Int) - 1 := ⟨_, rfl⟩
        have hJb : Hid (-9223372036854775808 ≤ J ∧ J ≤ 9223372036854775807) := by show _ ∧ _; omega
        have hJc : (c : Int) = J + 1 := by omega
        have hj1 : -1 ≤ J ∧ J ≤ 39 := by omega
        have HCJ := Lib.hid hJc
        rw [← hJ] at hb ⊢
        clear hJ hJc
        obtain ⟨⟨a, p, er⟩, hr⟩ : ∃ r, rd X J = r := ⟨_, rfl⟩
        obtain ⟨⟨b, q, ef⟩, hrT⟩ : ∃ r, rdT X J most = r := ⟨_, rfl⟩
        obtain ⟨S2, hS2⟩ : ∃ S2, st b = S2 := ⟨_, rfl⟩
        obtain ⟨u, hu⟩ : ∃ u, unfo a = u := ⟨_, rfl⟩
        have HR := Lib.hid hr; have HRT := Lib.hid hrT; have HS2 := Lib.hid hS2; have HU := Lib.hid hu
        clear hr hrT hS2 hu
        go_wp2_with fail
        refine (Uint_at HX.out J hJb.out HR.out).mono ?_
        rintro e w' ⟨rfl, rfl⟩
        go_wp2_with fail
        refine (rUint_at HX.out J hJb.out HR.out).mono ?_
        rintro e w' ⟨rfl, rfl⟩
        go_wp2_with fail
        refine (Int_at HX.out J hJb.out HR.out HU.out).mono ?_
        rintro e w' ⟨rfl, rfl⟩
        go_wp2_with fail
        refine (rInt_at HX.out J hJb.out HR.out HU.out).mono ?_
        rintro e w' ⟨rfl, rfl⟩
        go_wp2_with fail
        refine (Text_at HX.out J hJb.out most HM.out HRT.out HS2.out).mono ?_
        rintro e w' ⟨rfl, rfl⟩
        go_wp2_with fail
        refine (rText_at HX.out J hJb.out most HM.out HRT.out HS2.out).mono ?_
        rintro e w' ⟨rfl, rfl⟩
        go_wp2_with fail
        go_round
        case rel => exact ⟨c + 1, by omega, vint (by have := HCJ.out; omega)⟩
        case measure => simp [intOf]; omega
    · go_wp2_with fail
      refine (awake_any _).mono ?_
      rintro e w9 ⟨rfl, hk9⟩
      have HK9 := Lib.hid (Kp.trans HK6.out hk9); clear hk9
      go_wp2_with fail
      go_ret
      exact ⟨rfl, HK9.out⟩
set_option maxRecDepth 100000 in
set_option maxHeartbeats 8000000 in
theorem numbers_d {v : Value} {xs : List Nat} {w : World} (hs : Sl w v xs) (n : Nat) (hn : n < 18446744073709551616) (k : Int) (hk : -9223372036854775808 ≤ k ∧ k ≤ 9223372036854775807) (at' : Int) (hat : -9223372036854775808 ≤ at' ∧ at' ≤ 9223372036854775807)
    (most : Int) (hm : -9223372036854775808 ≤ most ∧ most ≤ 9223372036854775807) (s : ByteArray) (hlen : 600 < xs.length) (hsz : 300 < s.size) :
    Calls Try.prog 3 #[v, .int .u64 n, .int .i64 k, .int .i64 at', .int .i64 most, .string s] w fun e w' => e = .returned (.bool true) ∧ Kp w w' := by
  obtain ⟨ao, cap, rfl, -, -, -⟩ := hs.open3
  obtain ⟨len, hl⟩ : ∃ len, len = xs.length := ⟨_, rfl⟩
  rw [← hl] at hs hlen ⊢
  obtain ⟨l, el⟩ : ∃ l, l = s.size := ⟨_, rfl⟩
  have qs : ∀ w, (Builtin.len_ #[9] 3 #[.string s]).run Try.prog w = .ok (goInt l) w := fun w => by rw [run_len_string w _ _ s Try.underlying9, el]
  have hsv := cut_to hs 600 (by omega)
  have hcl : (len : Int) ≤ cap := by
    obtain ⟨ao', cap', e, h1, h2, h3⟩ := hs.open3
    simp only [Value.slice.injEq] at e
    omega
  obtain ⟨XS, hXS⟩ : ∃ XS, XS = xs.take 600 := ⟨_, rfl⟩
  have hxl : XS.length ≤ 600 := by rw [hXS, List.length_take]; omega
  rw [← hXS] at hsv
  have HSV := Lib.hid hsv
  have hll : (600 : Int) < (len : Int) := by omega
  clear hXS hsv
  have hqs := str_to s hsz
  obtain ⟨S, hS⟩ : ∃ S, S = s.extract 0 300 := ⟨_, rfl⟩
  have hsl : S.size ≤ 300 := by rw [hS, ByteArray.size_extract]; omega
  rw [← hS] at hqs
  have hl2 : (300 : Int) < (l : Int) := by omega
  clear hS
  have HN := Lib.hid hn; have HK := Lib.hid hk; have HAT := Lib.hid hat; have HM := Lib.hid hm
  have HT1 := Lib.hid (uv_ten hn); have HT2 := Lib.hid (uv_ten (fo_lt hk)); have HT3 := Lib.hid (uv_ten (n := S.size) (by omega))
  clear hs hl el hn hk hat hm hlen hsz
  go_enter Try.func3, Try.ntmps3
  go_wp2_with fail
  refine (PutUint_any HSV.out (by omega) n HN.out).mono ?_
  rintro e w1 ⟨v1, rfl, ho1⟩
  have HO1 := Lib.hid ho1; clear ho1
  go_wp2_with fail
  refine (PutInt_any (HO1.out.sl (by have := HT1.out; simp; omega)) (by have := HT1.out; simp; omega) k HK.out).mono ?_
  rintro e w2 ⟨v2, rfl, ho2⟩
  have HO2 := Lib.hid (ho2.base HO1.out.kp); clear ho2
  go_wp2_with fail
  refine (PutText_any (HO2.out.sl (by have := HT1.out; have := HT2.out; simp; omega)) (by have := HT1.out; have := HT2.out; simp; omega) S (by omega)).mono ?_
  rintro e w3 ⟨v3, rfl, ho3⟩
  have HO3 := Lib.hid (ho3.base HO2.out.kp)
  have HSV3 := Lib.hid (HSV.out.keep HO3.out.kp); clear ho3
  go_wp2_with fail
  refine (rPutUint_any HSV3.out (by omega) n HN.out).mono ?_
  rintro e w4 ⟨v4, rfl, ho4⟩
  have HO4 := Lib.hid ho4; clear ho4
  go_wp2_with fail
  refine (rPutInt_any (HO4.out.sl (by have := HT1.out; simp; omega)) (by have := HT1.out; simp; omega) k HK.out).mono ?_
  rintro e w5 ⟨v5, rfl, ho5⟩
  have HO5 := Lib.hid (ho5.base HO4.out.kp); clear ho5
  go_wp2_with fail
  refine (rPutText_any (HO5.out.sl (by have := HT1.out; have := HT2.out; simp; omega)) (by have := HT1.out; have := HT2.out; simp; omega) S (by omega)).mono ?_
  rintro e w6 ⟨v6, rfl, ho6⟩
  have ho6' := ho6.base HO5.out.kp
  obtain ⟨X, hX⟩ : ∃ X, X = XS ++ uv n ++ uv (fo k) ++ (uv S.size ++ bs S) := ⟨_, rfl⟩
  have HXL : Hid (X.length ≤ 140737488355328) := by
    show _ ≤ _
    rw [hX]; have := HT1.out; have := HT2.out; have := HT3.out; simp [bs_len]; omega
  have hx3 := HO3.out
  rw [← hX] at hx3 ho6'
  have HY := Lib.hid (ho6'.sl HXL.out)
  have HX := Lib.hid ((hx3.sl HXL.out).keep ho6'.kp)
  have HK6 := Lib.hid (Kp.trans HO3.out.kp ho6'.kp)
  clear ho6 ho6' hX hx3
  go_wp2_with fail
  refine (Same_any HX.out HY.out).mono ?_
  rintro e w' ⟨rfl, rfl⟩
  rw [decide_eq_true (rfl : X = X)]
  go_wp2_with fail
  go_loop [14] (fun j => ∃ c : Nat, c ≤ 42 ∧ j = .int .i64 ((c : Int) - 1)) (fun j => (41 - intOf j).toNat)
  case atStart => exact ⟨0, by omega, rfl⟩
  case round =>
    obtain ⟨c, hc42, rfl⟩ := hrel
    by_cases hc : c ≤ 41
    · by_cases hc41 : c = 41
      · have hb : ((c : Int) - 1 == 40) = true := by rw [beq_iff_eq]; omega
        obtain ⟨J, hJ⟩ : ∃ J, J = at' := ⟨_, rfl⟩
        have hJb : Hid (-9223372036854775808 ≤ J ∧ J ≤ 9223372036854775807) := by rw [hJ]; exact HAT.out
        rw [← hJ]
        clear hJ
        obtain ⟨⟨a, p, er⟩, hr⟩ : ∃ r, rd X J = r := ⟨_, rfl⟩
        obtain ⟨⟨b, q, ef⟩, hrT⟩ : ∃ r, rdT X J most = r := ⟨_, rfl⟩
        obtain ⟨S2, hS2⟩ : ∃ S2, st b = S2 := ⟨_, rfl⟩
        obtain ⟨u, hu⟩ : ∃ u, unfo a = u := ⟨_, rfl⟩
        have HR := Lib.hid hr; have HRT := Lib.hid hrT; have HS2 := Lib.hid hS2; have HU := Lib.hid hu
        clear hr hrT hS2 hu
        go_wp2_with fail
        refine (Uint_at HX.out J hJb.out HR.out).mono ?_
        rintro e w' ⟨rfl, rfl⟩
        go_wp2_with fail
        refine (rUint_at HX.out J hJb.out HR.out).mono ?_
        rintro e w' ⟨rfl, rfl⟩
        go_wp2_with fail
        refine (Int_at HX.out J hJb.out HR.out HU.out).mono ?_
        rintro e w' ⟨rfl, rfl⟩
        go_wp2_with fail
        refine (rInt_at HX.out J hJb.out HR.out HU.out).mono ?_
        rintro e w' ⟨rfl, rfl⟩
        go_wp2_with fail
        refine (Text_at HX.out J hJb.out most HM.out HRT.out HS2.out).mono ?_
        rintro e w' ⟨rfl, rfl⟩
        go_wp2_with fail
        refine (rText_at HX.out J hJb.out most HM.out HRT.out HS2.out).mono ?_
        rintro e w' ⟨rfl, rfl⟩
        go_wp2_with fail
        go_round
        case rel => exact ⟨c + 1, by omega, vint (by omega)⟩
        case measure => simp [intOf]; omega
      · have hb : ((c : Int) - 1 == 40) = false := beq_eq_false_iff_ne.2 (by omega)
        obtain ⟨J, hJ⟩ : ∃ J, J = (c : Int) - 1 := ⟨_, rfl⟩
        have hJb : Hid (-9223372036854775808 ≤ J ∧ J ≤ 9223372036854775807) := by show _ ∧ _; omega
        have hJc : (c : Int) = J + 1 := by omega
        have hj1 : -1 ≤ J ∧ J ≤ 39 := by omega
        have HCJ := Lib.hid hJc
        rw [← hJ] at hb ⊢
        clear hJ hJc
        obtain ⟨⟨a, p, er⟩, hr⟩ : ∃ r, rd X J = r := ⟨_, rfl⟩
        obtain ⟨⟨b, q, ef⟩, hrT⟩ : ∃ r, rdT X J most = r := ⟨_, rfl⟩
        obtain ⟨S2, hS2⟩ : ∃ S2, st b = S2 := ⟨_, rfl⟩
        obtain ⟨u, hu⟩ : ∃ u, unfo a = u := ⟨_, rfl⟩
        have HR := Lib.hid hr; have HRT := Lib.hid hrT; have HS2 := Lib.hid hS2; have HU := Lib.hid hu
        clear hr hrT hS2 hu
        go_wp2_with fail
        refine (Uint_at HX.out J hJb.out HR.out).mono ?_
        rintro e w' ⟨rfl, rfl⟩
        go_wp2_with fail
        refine (rUint_at HX.out J hJb.out HR.out).mono ?_
        rintro e w' ⟨rfl, rfl⟩
        go_wp2_with fail
        refine (Int_at HX.out J hJb.out HR.out HU.out).mono ?_
        rintro e w' ⟨rfl, rfl⟩
        go_wp2_with fail
        refine (rInt_at HX.out J hJb.out HR.out HU.out).mono ?_
        rintro e w' ⟨rfl, rfl⟩
        go_wp2_with fail
        refine (Text_at HX.out J hJb.out most HM.out HRT.out HS2.out).mono ?_
        rintro e w' ⟨rfl, rfl⟩
        go_wp2_with fail
        refine (rText_at HX.out J hJb.out most HM.out HRT.out HS2.out).mono ?_
        rintro e w' ⟨rfl, rfl⟩
        go_wp2_with fail
        go_round
        case rel => exact ⟨c + 1, by omega, vint (by have := HCJ.out; omega)⟩
        case measure => simp [intOf]; omega
    · go_wp2_with fail
      refine (awake_any _).mono ?_
      rintro e w9 ⟨rfl, hk9⟩
      have HK9 := Lib.hid (Kp.trans HK6.out hk9); clear hk9
      go_wp2_with fail
      go_ret
      exact ⟨rfl, HK9.out⟩

theorem numbers_any {v : Value} {xs : List Nat} {w : World} (hs : Sl w v xs) (n : Nat) (hn : n < 18446744073709551616) (k : Int) (hk : -9223372036854775808 ≤ k ∧ k ≤ 9223372036854775807) (at' : Int) (hat : -9223372036854775808 ≤ at' ∧ at' ≤ 9223372036854775807)
    (most : Int) (hm : -9223372036854775808 ≤ most ∧ most ≤ 9223372036854775807) (s : ByteArray) (_hz : s.size ≤ 140737488351232) :
    Calls Try.prog 3 #[v, .int .u64 n, .int .i64 k, .int .i64 at', .int .i64 most, .string s] w fun e w' => e = .returned (.bool true) ∧ Kp w w' := by
  by_cases h1 : 600 < xs.length
  · by_cases h2 : 300 < s.size
    · exact numbers_d hs n hn k hk at' hat most hm s h1 h2
    · exact numbers_b hs n hn k hk at' hat most hm s h1 (by omega)
  · by_cases h2 : 300 < s.size
    · exact numbers_c hs n hn k hk at' hat most hm s (by omega) h2
    · exact numbers_a hs n hn k hk at' hat most hm s (by omega) (by omega)
end By
end Go.Proofs.Ythicocggnficcaa
