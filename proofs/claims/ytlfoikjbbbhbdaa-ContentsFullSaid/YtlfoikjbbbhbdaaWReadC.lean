/- The program's reader of a checksum. Conditions: the state lies in memory as it is named, and what it reads lies elsewhere. -/
import Derived.Test.YtlfoikjbbbhbdaaWReadB
import Derived.Laws.EntriesVeiled
namespace Go.Proofs.Ytlfoikjbbbhbdaa
namespace By
open Go.RowKit WireN
set_option linter.unusedVariables false
set_option linter.unusedSimpArgs false

section
variable {w : World} {g : Nat} {ao : Option Addr} {len cap b a k n : Nat} {vp : Value} {xs : List Nat}
set_option maxRecDepth 100000 in
set_option maxHeartbeats 1000000 in
theorem sum_end (hst : St w g ao len cap b a k n vp) (hc : Ctx w g ao len cap xs) (hb : b + 1 ≤ a) (ha : a ≤ len) (h : len < a + 4) :
    Calls Try.prog 70 #[.pointer (some ⟨g, 0, none⟩)] w fun r w' => r = .returned (.int .i64 7) ∧ Only g w w' := by
  obtain ⟨-, hlc, -, hl⟩ := hc.facts
  have HST := Lib.hid hst
  have c0 := hst.c0; have c1 := hst.c1; have c2 := hst.c2
  have hsl := fun w => slice_span ao len cap (b + 1) a ((b : Int) + 1) (a : Int) (by omega) rfl hb (by omega) w
  obtain ⟨V, hV⟩ : ∃ V, V = sliced ao (b + 1) a cap 1 := ⟨_, rfl⟩
  rw [← hV] at hsl
  clear hst hc hV
  go_enter Try.func70, Try.ntmps70
  go_wp2_with fail
  go_quiet (fail)
  go_wp2_with fail
  refine (take_end (HST.out.drewN _) ha hl 4 (by omega) h).mono ?_
  rintro e w1 ⟨rfl, ho⟩
  have HO := Lib.hid (Only.trans (Only.drewN (Only.refl g w) _) ho); clear ho c0 c1 c2
  go_wp2_with fail
  go_ret
  exact ⟨rfl, HO.out⟩

set_option maxRecDepth 100000 in
set_option maxHeartbeats 2000000 in
theorem sum_any (hst : St w g ao len cap b a k n vp) (hc : Ctx w g ao len cap xs) (hb : b + 1 ≤ a) (h : a + 4 ≤ len) {E : Nat} (hE : E = if (xs.drop a).take 4 = le4 (ck ((xs.take a).drop (b + 1))) then 0 else 8) :
    Calls Try.prog 70 #[.pointer (some ⟨g, 0, none⟩)] w fun r w' => r = .returned (.int .i64 (E : Nat)) ∧ St w' g ao len cap b (a + 4) k n vp ∧ Stp g w w' := by
  obtain ⟨hlx, hlc, hcm, hl⟩ := hc.facts
  have HST := Lib.hid hst; have HC := Lib.hid hc; have HCM := Lib.hid hcm
  have c0 := hst.c0; have c1 := hst.c1; have c2 := hst.c2
  have hsl := fun w => slice_span ao len cap (b + 1) a ((b : Int) + 1) (a : Int) (by omega) rfl hb (by omega) w
  have hcut : ∀ w', Only g w w' → Sl w' (sliced ao (b + 1) a cap 1) ((xs.take a).drop (b + 1)) := fun w' ho => (hc.only ho).sl.cut (b + 1) a hb (by omega)
  obtain ⟨V, hV⟩ : ∃ V, V = sliced ao (b + 1) a cap 1 := ⟨_, rfl⟩
  rw [← hV] at hsl hcut
  obtain ⟨bo, bc, hV4, hsl4⟩ := hc.part a 4 h
  obtain ⟨S, hS⟩ : ∃ S, S = (xs.take a).drop (b + 1) := ⟨_, rfl⟩
  obtain ⟨F, hF⟩ : ∃ F, F = (xs.drop a).take 4 := ⟨_, rfl⟩
  rw [← hS] at hcut hE
  rw [← hF] at hsl4 hE
  have HCUT := Lib.hid hcut; have HSL4 := Lib.hid hsl4; have HV4 := Lib.hid hV4
  clear hst hc hV hcm hcut hsl4 hV4 hlx hS hF
  by_cases heq : F = le4 (ck S)
  · have HD := Lib.hid (decide_eq_true heq)
    rw [if_pos heq] at hE
    subst hE
    clear heq
    go_enter Try.func70, Try.ntmps70
    go_wp2_with fail
    go_quiet (fail)
    go_wp2_with fail
    refine (take_ok (HST.out.drewN _) hl 4 h hlc HCM.out HV4.out).mono ?_
    rintro e w1 ⟨rfl, hst1, ho⟩
    have HO := Lib.hid (Only.trans (Only.drewN (Only.refl g w) _) ho); have HST1 := Lib.hid hst1; clear ho c0 c1 c2 hst1
    go_wp2_with fail
    refine (sumOf_any (HCUT.out w1 HO.out)).mono ?_
    rintro e w2 ⟨⟨v2, rfl, hs2, -⟩, hk2⟩
    have HS2 := Lib.hid hs2; have HK2 := Lib.hid hk2; clear hs2 hk2
    go_wp2_with fail
    refine (Equal_any ((HSL4.out w1 HO.out).keep HK2.out) HS2.out).mono ?_
    rintro e w3 ⟨rfl, rfl⟩
    rw [HD.out]
    go_wp2_with fail
    go_ret
    exact ⟨rfl, HST1.out.keep HK2.out, ⟨_, HO.out, HK2.out⟩⟩
  · have HD := Lib.hid (decide_eq_false heq)
    rw [if_neg heq] at hE
    subst hE
    clear heq
    go_enter Try.func70, Try.ntmps70
    go_wp2_with fail
    go_quiet (fail)
    go_wp2_with fail
    refine (take_ok (HST.out.drewN _) hl 4 h hlc HCM.out HV4.out).mono ?_
    rintro e w1 ⟨rfl, hst1, ho⟩
    have HO := Lib.hid (Only.trans (Only.drewN (Only.refl g w) _) ho); have HST1 := Lib.hid hst1; clear ho c0 c1 c2 hst1
    go_wp2_with fail
    refine (sumOf_any (HCUT.out w1 HO.out)).mono ?_
    rintro e w2 ⟨⟨v2, rfl, hs2, -⟩, hk2⟩
    have HS2 := Lib.hid hs2; have HK2 := Lib.hid hk2; clear hs2 hk2
    go_wp2_with fail
    refine (Equal_any ((HSL4.out w1 HO.out).keep HK2.out) HS2.out).mono ?_
    rintro e w3 ⟨rfl, rfl⟩
    rw [HD.out]
    go_wp2_with fail
    go_ret
    exact ⟨rfl, HST1.out.keep HK2.out, ⟨_, HO.out, HK2.out⟩⟩
end

set_option maxRecDepth 100000 in
set_option maxHeartbeats 1000000 in
theorem parts_any (w : World) : Calls Try.prog 64 #[] w fun e w' =>
    e = .returned (.agg #[.func (.func 66) #[] #[], .func (.func 67) #[] #[], .func (.func 68) #[] #[], .func (.func 69) #[] #[], .func (.func 70) #[] #[]]) ∧ Kp w w' := by
  go_enter Try.func64, Try.ntmps64
  go_wp2_with fail
  exact bodyPost_ret (by simp [results, Try.results64, go_sem]) rfl ⟨rfl, kp_alloc _ _⟩
end By
end Go.Proofs.Ytlfoikjbbbhbdaa
