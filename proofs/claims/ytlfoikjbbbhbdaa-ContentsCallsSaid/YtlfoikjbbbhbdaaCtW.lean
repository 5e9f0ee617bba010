/- Decode of the program and of the reference answer the same, of any bytes. Condition: at most a million bytes. -/
import Derived.Test.YtlfoikjbbbhbdaaCtU
import Derived.Test.YtlfoikjbbbhbdaaCtV
namespace Go.Proofs.Ytlfoikjbbbhbdaa
namespace By
open Go.RowKit WireN CtN
set_option linter.unusedVariables false
set_option linter.unusedSimpArgs false

def DecC : Prop := ∀ {w : World} {v : Value} {xs : List Nat}, Sl w v xs → xs.length ≤ 1000000 → Calls Try.prog 32 #[v] w (DecR xs w)
theorem dcL_len {fs : List (Nat × List Nat)} {E : Nat} : (dcL fs E).length ≤ fs.length := by
  unfold dcL; split <;> simp
theorem chain_few : ∀ {fs : List (Nat × List Nat)} {l : List Nat} {p q : Nat}, Chain l p fs q → p ≤ l.length → fs.length + p ≤ q ∧ q ≤ l.length
  | [], l, p, q, h, hp => by
    obtain rfl : p = q := h
    exact ⟨by simp, hp⟩
  | f :: fs, l, p, q, h, hp => by
    obtain ⟨h1, h2, h3, h4⟩ := h
    have hm := nx_more (l := l) (q := p) h2
    have ih := chain_few h4 hm.2
    simp only [List.length_cons]
    omega
set_option maxRecDepth 100000 in
set_option maxHeartbeats 4000000 in
theorem decodes_any (HD : DecC) {w : World} {v : Value} {xs : List Nat} (hs : Sl w v xs) (hsm : xs.length ≤ 1000000) :
    Calls Try.prog 28 #[v] w fun e w' => e = .returned (.bool true) ∧ Kp w w' := by
  have HA := Lib.hid (HD hs hsm)
  have HS := Lib.hid hs; have HSM := Lib.hid hsm
  obtain ⟨ao, xc, rfl, -, -, -⟩ := hs.open3
  obtain ⟨xl, hxl⟩ : ∃ xl, xl = xs.length := ⟨_, rfl⟩
  rw [← hxl] at HA HS ⊢
  clear hs hsm hxl HD
  go_enter Try.func28, Try.ntmps28
  go_wp2_with fail
  refine HA.out.mono ?_
  rintro e w1 ⟨fs, q, E, u, hc, hst, rfl, hu, -, hk1⟩
  have HC := Lib.hid hc; have HST := Lib.hid hst
  have HU := Lib.hid hu; have HK1 := Lib.hid hk1
  have HK2 : Hid (Kp w (w1.alloc (.cells #[u] 25))) := Lib.hid (hk1.trans (kp_alloc _ _))
  obtain ⟨u1, u3, rfl, -⟩ := hu.open3
  obtain ⟨ul, hul⟩ : ∃ ul, ul = (dcL fs E).length := ⟨_, rfl⟩
  rw [← hul] at HU HK2 ⊢
  have HB := Lib.hid (rDecT_any (HS.out.keep HK2.out) HSM.out)
  have hB1 := Blk.new w1 25 #[.slice u1 ul u3]
  have HB1 := Lib.hid hB1
  clear hc hst hu hk1 hul hB1
  go_wp2_with fail
  refine HB.out.mono ?_
  rintro e w2 ⟨fs2, q2, E2, u2, hc2, hst2, rfl, hu2, -, hk2⟩
  obtain ⟨rfl, -, rfl⟩ := Chain.unique HC.out HST.out hc2 hst2
  have HK3 : Hid (Kp w (w2.alloc (.cells #[u2] 25))) := Lib.hid ((HK2.out.trans hk2).trans (kp_alloc _ _))
  have HK4 : Hid (Kp w1 (w2.alloc (.cells #[u2] 25))) := Lib.hid (((kp_alloc w1 _).trans hk2).trans (kp_alloc _ _))
  have hfew : (dcL fs E).length ≤ 1000000 := by
    have h1 := dcL_len (fs := fs) (E := E)
    have h2 := chain_few HC.out (Nat.zero_le _)
    have := HSM.out
    omega
  have HSA := Lib.hid (rSameT_any (HU.out.keep HK4.out) (hu2.keep (kp_alloc w2 (.cells #[u2] 25))) hfew)
  obtain ⟨v1, v3, rfl, -⟩ := hu2.open3
  obtain ⟨vl, hvl⟩ : ∃ vl, vl = (dcL fs E).length := ⟨_, rfl⟩
  have c1 := (HB1.out.keep (hk2.trans (kp_alloc w2 (.cells #[.slice v1 (dcL fs E).length v3] 25)))).cell 0 rfl
  rw [← hvl] at HSA c1 HK3 ⊢
  have q : ((dcE fs E : Int) == (dcE fs E : Int)) = true := beq_iff_eq.2 rfl
  obtain ⟨R, hR⟩ : ∃ R, R = dcE fs E := ⟨_, rfl⟩
  rw [← hR] at q ⊢
  rw [decide_eq_true rfl] at HSA
  clear hc2 hst2 hu2 hk2 hvl hR
  go_wp2_with fail
  refine HSA.out.mono ?_
  rintro e w3 ⟨rfl, hk3⟩
  have HK5 := Lib.hid (HK3.out.trans hk3)
  clear hk3 c1
  go_wp2_with fail
  go_ret
  exact ⟨rfl, HK5.out⟩
end By
end Go.Proofs.Ytlfoikjbbbhbdaa
