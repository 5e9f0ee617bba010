/- The program's Text: a string that is read at any place. Conditions: the slice holds the bytes that are named, 64-bit integers. -/
import Derived.Test.YthicocggnficcaaWUint
namespace Go.Proofs.Ythicocggnficcaa
namespace By
open Go.RowKit WireN
set_option linter.unusedVariables false
set_option linter.unusedSimpArgs false

def rdTV (xs : List Nat) (i most : Int) : Value := .tuple #[.string (st (rdT xs i most).1), .int .i64 ((rdT xs i most).2.1 : Nat), .int .i64 ((rdT xs i most).2.2 : Nat)]
theorem rdTV_eq {xs : List Nat} {i most : Int} {b : List Nat} {p e : Nat} (h : rdT xs i most = (b, p, e)) {s : ByteArray} {P E : Int} (hs : s = st b) (hP : P = p) (hE : E = e) : Ending.returned (.tuple #[.string s, .int .i64 P, .int .i64 E]) = .returned (rdTV xs i most) := by
  unfold rdTV; rw [h, hs, hP, hE]
theorem st_nil : (⟨#[]⟩ : ByteArray) = st [] := rfl
set_option maxRecDepth 100000 in
set_option maxHeartbeats 2000000 in
theorem Text_any {v : Value} {xs : List Nat} {w : World} (hs : Sl w v xs) (i : Int) (hi : -9223372036854775808 ≤ i ∧ i ≤ 9223372036854775807) (most : Int) (hm : -9223372036854775808 ≤ most ∧ most ≤ 9223372036854775807) :
    Calls Try.prog 19 #[v, .int .i64 i, .int .i64 most] w fun e w' => e = .returned (rdTV xs i most) ∧ w = w' := by
  have HI := Lib.hid hi; have hn := rd_lt xs i; have hp := rd_next xs i
  obtain ⟨hm1, hm2⟩ := hm
  obtain ⟨ao, cap, rfl, hc, hcm, hno⟩ := hs.open3
  unfold maxLen at hcm
  obtain ⟨len, hlen⟩ : ∃ len, len = xs.length := ⟨_, rfl⟩
  have hlm : len ≤ 140737488355328 := by have := hs.sm; omega
  have hrT : rdT xs i most = rdT xs i most := rfl
  obtain ⟨⟨n, p, er⟩, hr⟩ : ∃ r, r = rd xs i := ⟨_, rfl⟩
  have HR := Lib.hid hr.symm
  rw [← hr] at hn hp
  conv at hrT => rhs; unfold rdT
  rw [← hr, ← hlen] at hrT
  rw [← hlen] at hc hp ⊢
  simp only at hrT hn hp
  have hn' : (n : Int) ≤ 18446744073709551615 := by omega
  clear hn
  have hs' := hs
  rw [← hlen] at hs'
  have HS := Lib.hid hs'
  clear hr hno hs hi
  by_cases he : er = 0
  · subst he
    rw [if_neg (by simp)] at hrT
    by_cases hneg : most < 0
    · rw [if_pos (.inl hneg)] at hrT
      have FIN := Lib.hid hrT
      clear hrT hs' hlen
      go_enter Try.func19, Try.ntmps19
      go_wp2_with fail
      refine (Uint_any HS.out i HI.out).mono ?_
      rintro e w' ⟨rfl, rfl⟩
      rw [rdV_of HR.out]
      go_wp2_with fail
      go_ret3
      exact ⟨rdTV_eq FIN.out st_nil rfl rfl, rfl⟩
    · by_cases hbig : most < (n : Int)
      · rw [if_pos (.inr hbig)] at hrT
        have FIN := Lib.hid hrT
        clear hrT hs' hlen
        go_enter Try.func19, Try.ntmps19
        go_wp2_with fail
        refine (Uint_any HS.out i HI.out).mono ?_
        rintro e w' ⟨rfl, rfl⟩
        rw [rdV_of HR.out]
        go_wp2_with fail
        go_ret3
        exact ⟨rdTV_eq FIN.out st_nil rfl rfl, rfl⟩
      · rw [if_neg (by omega)] at hrT
        by_cases hend : len - p < n
        · rw [if_pos hend] at hrT
          have FIN := Lib.hid hrT
          clear hrT hs' hlen
          go_enter Try.func19, Try.ntmps19
          go_wp2_with fail
          refine (Uint_any HS.out i HI.out).mono ?_
          rintro e w' ⟨rfl, rfl⟩
          rw [rdV_of HR.out]
          go_wp2_with fail
          go_ret3
          exact ⟨rdTV_eq FIN.out st_nil rfl rfl, rfl⟩
        · rw [if_neg hend] at hrT
          have hsl := slice_span ao len cap p (p + n) (p : Int) ((p : Int) + (n : Int)) rfl (by omega) (by omega) (by omega)
          have hsd := hs'.cut p (p + n) (by omega) (by omega)
          rw [List.drop_take, show p + n - p = n by omega] at hsd
          obtain ⟨V, hV⟩ : ∃ V, V = sliced ao p (p + n) cap 1 := ⟨_, rfl⟩
          rw [← hV] at hsl hsd
          have hcv := conv_str hsd
          have FIN := Lib.hid hrT
          clear hrT hs' hlen hV hsd
          go_enter Try.func19, Try.ntmps19
          go_wp2_with fail
          refine (Uint_any HS.out i HI.out).mono ?_
          rintro e w' ⟨rfl, rfl⟩
          rw [rdV_of HR.out]
          go_wp2_with fail
          go_ret3
          exact ⟨rdTV_eq FIN.out rfl (by omega) rfl, rfl⟩
  · rw [if_pos he] at hrT
    have hne : (((er : Nat) : Int) == 0) = false := beq_eq_false_iff_ne.2 (by omega)
    have hne2 : (((er : Nat) : Int) != 0) = true := by simp [bne, hne]
    have FIN := Lib.hid hrT
    clear hrT hs' hlen
    go_enter Try.func19, Try.ntmps19
    go_wp2_with fail
    refine (Uint_any HS.out i HI.out).mono ?_
    rintro e w' ⟨rfl, rfl⟩
    rw [rdV_of HR.out]
    go_wp2_with fail
    go_ret3
    exact ⟨rdTV_eq FIN.out st_nil rfl rfl, rfl⟩
end By
end Go.Proofs.Ythicocggnficcaa
