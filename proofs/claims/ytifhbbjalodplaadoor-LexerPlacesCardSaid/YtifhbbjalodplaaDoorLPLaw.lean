/- The law on tokens' places: it returns true for all strings, and leaves what was there. Condition: a package variable of the library holds some integer. -/
import Derived.Test.YtifhbbjalodplaaDoorLSame
import Derived.Test.YtifhbbjalodplaaDoorLPlc
namespace Go.Proofs.YtifhbbjalodplaaDoor
namespace By
open Go.RowKit WireN LexN
set_option linter.unusedVariables false
set_option linter.unusedSimpArgs false

theorem good_drop {l : List Nat} {p k : Nat} {ts : List Tok} (hk : k < ts.length) (h : LexN.Good l p (ts.drop k)) : p ≤ ts[k].2.2.2 ∧ ((k + 1 = ts.length ∧ ts[k] = (5, [], 0, l.length)) ∨ (k + 1 < ts.length ∧ Fine l ts[k] ∧ LexN.Good l (ts[k].2.2.2 + wide ts[k]) (ts.drop (k + 1)))) := by
  rw [List.drop_eq_getElem_cons hk] at h
  refine ⟨h.1, ?_⟩
  rcases h.2 with ⟨h1, h2⟩ | ⟨h1, h2, h3⟩
  · left
    have := congrArg List.length h1
    rw [List.length_drop] at this
    exact ⟨by simp at this; omega, h2⟩
  · right
    refine ⟨?_, h2, h3⟩
    rcases Nat.lt_or_ge (k + 1) ts.length with h4 | h4
    · exact h4
    · exact absurd (List.drop_eq_nil_of_le h4) h1

set_option maxRecDepth 100000 in
set_option maxHeartbeats 4000000 in
theorem places_st {l : List Nat} (hl : Lt l) {w : World} (hx : MX w) : Calls Tryd.prog 7 #[.string (st l)] w fun e w' => e = .returned (.bool true) ∧ Kp w w' := by
  have HX := Lib.hid hx
  have H1 := Lib.hid (fun w => limited_any (l := l) w)
  obtain ⟨a, ha⟩ : ∃ a, a = l.take 2000 := ⟨_, rfl⟩
  have hla : Lt a := ha ▸ hl.take 2000
  have hza : a.length ≤ 2000 := by rw [ha, List.length_take]; omega
  have HLA := Lib.hid hla
  have HTK := Lib.hid (fun w => Tokens_any hla w)
  have HGD := Lib.hid (toks_good (l := a) (by omega))
  have HLEN := Lib.hid (toks_len a)
  obtain ⟨N, hN⟩ : ∃ N, N = a.length := ⟨_, rfl⟩
  have HN := Lib.hid hN
  have qs : ∀ w, (Builtin.len_ #[9] 3 #[.string (st a)]).run Tryd.prog w = .ok (goInt N) w := fun w => by rw [hN]; exact len w
  obtain ⟨r, hr⟩ : ∃ r, r = toks a := ⟨_, rfl⟩
  rw [← hr] at HTK HGD HLEN
  obtain ⟨ts, at0, e0⟩ := r
  simp only at HGD HLEN
  obtain ⟨A, hA⟩ : ∃ A, A = st a := ⟨_, rfl⟩
  have HA := Lib.hid hA
  rw [← ha, ← hA] at H1
  rw [← hA] at HTK qs
  obtain ⟨S, hS⟩ : ∃ S, S = st l := ⟨_, rfl⟩
  rw [← hS] at H1 ⊢
  have hNi : (N : Int) ≤ 2000 := by omega
  clear ha hla hza hN hr hA hS hl hx
  go_enter Tryd.func7, Tryd.ntmps7
  go_wp2_with fail
  refine (H1.out _).mono ?_
  rintro e w' ⟨rfl, rfl⟩
  go_wp2_with fail
  refine (HTK.out _).mono ?_
  rintro e w1 ⟨v1, u1, rfl, hr1, hk1⟩
  simp only
  obtain ⟨ao1, c1, hv1, hc1⟩ := hr1.form
  have HR1 := Lib.hid hr1; have HK1 := Lib.hid (Kp.trans hk1 hr1.kp)
  simp only at hv1 hc1
  obtain ⟨n, hn⟩ : ∃ n, n = ts.length := ⟨_, rfl⟩
  have HNN := Lib.hid hn
  rw [← hn] at hv1 hc1
  subst hv1
  have hc1i : (n : Int) ≤ (c1 : Int) := by omega
  have hnb : (n : Int) ≤ 16385 := by have := HLEN.out; omega
  clear hr1 hk1 hc1
  by_cases hE : e0 = 0
  · have q1 : ((e0 : Int) != 0) = false := by rw [hE]; rfl
    have q2 : ((e0 : Int) == 0) = true := by rw [hE]; rfl
    have HG := Lib.hid (HGD.out.1 hE)
    have hn0 : (0 : Int) < (n : Int) := by
      have := HG.out.1.ne
      have := List.length_pos_iff.2 this
      omega
    clear hE hn
    go_wp2_with fail
    go_loopw [6, 37] (fun p q wr => ∃ k P : Nat, q = .int .i64 k ∧ k ≤ n ∧ p = .int .i64 P ∧ (k < n → LexN.Good a P (ts.drop k)) ∧ P ≤ 5000 ∧ Kp w1 wr) (fun _ q _ => n - (intOf q).toNat)
    case atStart => exact ⟨0, 0, rfl, Nat.zero_le _, rfl, fun _ => by simpa using HG.out.1, by omega, Kp.refl _⟩
    case round =>
      obtain ⟨k, P, rfl, hk, rfl, hgd, hP, hkp⟩ := hrel
      rename World => wx
      have HKP := Lib.hid hkp; have HGK := Lib.hid hgd
      have hPi : (P : Int) ≤ 5000 := by omega
      clear hgd
      by_cases hkn : k < n
      · have hkl : k < ts.length := by have := HNN.out; omega
        obtain ⟨g1, d1, e1, -, -, -, hcell1⟩ := (HR1.out.keep hkp).cell (by have := HNN.out; omega)
        injection e1 with e1a e1b e1c
        subst e1a e1c
        have hgk := good_drop hkl (HGK.out hkn)
        have htk : ts[k]? = some ts[k] := List.getElem?_eq_getElem hkl
        obtain ⟨⟨K, TX, NM, AT⟩, ht⟩ : ∃ t, t = ts[k] := ⟨_, rfl⟩
        rw [← ht] at hgk htk
        rw [← HNN.out] at hgk
        have a0 : wx.cell? ⟨g1, k * 4, none⟩ = some (.int .i64 (K : Nat)) := hcell1 k _ htk 0 _ rfl
        have a1 : wx.cell? ⟨g1, k * 4 + 1, none⟩ = some (.string (st TX)) := hcell1 k _ htk 1 _ rfl
        have a2 : wx.cell? ⟨g1, k * 4 + 2, none⟩ = some (.int .i64 (NM : Nat)) := hcell1 k _ htk 2 _ rfl
        have a3 : wx.cell? ⟨g1, k * 4 + 3, none⟩ = some (.int .i64 (AT : Nat)) := hcell1 k _ htk 3 _ rfl
        have hKZ := Lib.hid (fun cs => Kp.trans HKP.out (kp_alloc wx (.cells cs 42)))
        obtain ⟨hPA, hgk⟩ := hgk
        simp only at hPA
        have hPAi : (P : Int) ≤ (AT : Int) := by omega
        clear hcell1 ht htk hkl hkp e1b
        rcases hgk with ⟨hlast, hend⟩ | ⟨hlast, hfine, hgood⟩
        · simp only [Prod.mk.injEq] at hend
          obtain ⟨rfl, rfl, rfl, hAT⟩ := hend
          have hATN : AT = N := by rw [HN.out]; exact hAT
          have iAT : (AT : Int) ≤ (N : Int) := by omega
          have b1 : ((k : Int) == (n : Int) - 1) = true := beq_iff_eq.2 (by omega)
          have HATB : Hid (AT ≤ 2000) := Lib.hid (by omega)
          rw [show st [] = (⟨#[]⟩ : ByteArray) from rfl] at a1
          have HKL : Hid (¬ (k + 1 < n)) := Lib.hid (by omega)
          clear hAT hATN hlast hPA hP
          go_wp2_with fail
          go_quiet (fail)
          go_wp2_with fail
          exact ⟨⟨k + 1, AT, by go_num, by omega, rfl, fun h => absurd h HKL.out, by have := HATB.out; omega, Kp.trans (hKZ.out _) (Kp.drewN _ _)⟩, by simp [intOf]; omega⟩
        · simp only at hfine hgood
          have hal := hfine.at_lt
          have htx := hfine.text
          have htl := hfine.len
          simp only at hal htx htl
          have hATN : (AT : Int) ≤ (N : Int) := by have := HN.out; omega
          have b1 : ((k : Int) == (n : Int) - 1) = false := beq_eq_false_iff_ne.2 (by omega)
          obtain ⟨TL, hTL⟩ : ∃ TL, TL = TX.length := ⟨_, rfl⟩
          have qx : ∀ w, (Builtin.len_ #[9] 3 #[.string (st TX)]).run Tryd.prog w = .ok (goInt TL) w := fun w => by rw [hTL]; exact len w
          have HTLB : Hid (AT + TL ≤ 4000) := Lib.hid (by have := HN.out; omega)
          have HGD2 : Hid (wide (K, TX, NM, AT) = TL + if K = 1 ∨ K = 4 then 0 else if K = 2 then 1 else 0) := Lib.hid (by
            unfold wide
            rw [← hTL]
            rcases hfine.kind with h | h | h | h <;> simp only at h <;> subst h <;> rfl)
          have HGO := Lib.hid hgood
          have htli : (TL : Int) ≤ 2000 := by have := HN.out; omega
          have hati : (AT : Int) ≤ 2000 := by have := HN.out; omega
          have hkk : (k : Int) < (n : Int) := by omega
          rcases hfine.kind with hk1 | hk1 | hk1 | hk1
          · simp only at hk1
            subst hk1
            obtain ⟨h1, h2, h3⟩ := htx (.inl rfl)
            rw [← hTL] at h1 h2 h3
            have hcut : ∀ w, (Instr.slice 9 (.string A) (some (.int .i64 (AT : Int))) (some (.int .i64 ((AT : Int) + (TL : Int)))) none).run Tryd.prog w = .ok (.string (st TX)) w := fun w => by
              have h := cut (l := a) (i := AT) (j := AT + TL) (by omega) h1 w
              rw [h2] at h
              rw [HA.out]
              have e : ((AT + TL : Nat) : Int) = (AT : Int) + (TL : Int) := by omega
              rw [e] at h
              exact h
            have hend : (AT : Int) + (TL : Int) ≤ (N : Int) := by have := HN.out; omega
            have b2 : ((TL : Int) == 0) = false := beq_eq_false_iff_ne.2 (by omega)
            obtain ⟨X, hX⟩ : ∃ X, X = st TX := ⟨_, rfl⟩
            rw [← hX] at hcut qx a1
            have HWD : Hid (wide (1, TX, NM, AT) = TL) := Lib.hid (by rw [HGD2.out]; rfl)
            clear hfine hgood hal htx htl hTL h1 h2 h3 hX hPA hP hlast
            go_wp2_with fail
            go_quiet (fail)
            go_wp2_with fail
            exact ⟨⟨k + 1, AT + TL, by go_num, by omega, vint (by omega), fun _ => by have h := HGO.out; rw [HWD.out] at h; exact h, by have := HTLB.out; omega, Kp.trans (hKZ.out _) (Kp.drewN _ _)⟩, by simp [intOf]; omega⟩
          · simp only at hk1
            subst hk1
            obtain ⟨X, hX⟩ : ∃ X, X = st TX := ⟨_, rfl⟩
            rw [← hX] at qx a1
            have HWD : Hid (wide (2, TX, NM, AT) = TL + 1) := Lib.hid (by rw [HGD2.out]; rfl)
            clear hfine hgood hal htx htl hTL hX hPA hP hlast
            go_wp2_with fail
            go_quiet (fail)
            go_wp2_with fail
            exact ⟨⟨k + 1, AT + TL + 1, by go_num, by omega, vint (by omega), fun _ => by have h := HGO.out; rw [HWD.out] at h; exact h, by have := HTLB.out; omega, Kp.trans (hKZ.out _) (Kp.drewN _ _)⟩, by simp [intOf]; omega⟩
          · simp only at hk1
            subst hk1
            obtain ⟨X, hX⟩ : ∃ X, X = st TX := ⟨_, rfl⟩
            rw [← hX] at qx a1
            have HWD : Hid (wide (3, TX, NM, AT) = TL + 0) := Lib.hid (by rw [HGD2.out]; rfl)
            clear hfine hgood hal htx htl hTL hX hPA hP hlast
            go_wp2_with fail
            go_quiet (fail)
            go_wp2_with fail
            exact ⟨⟨k + 1, AT + TL, by go_num, by omega, vint (by omega), fun _ => by have h := HGO.out; rw [HWD.out] at h; exact h, by have := HTLB.out; omega, Kp.trans (hKZ.out _) (Kp.drewN _ _)⟩, by simp [intOf]; omega⟩
          · simp only at hk1
            subst hk1
            obtain ⟨h1, h2, h3⟩ := htx (.inr rfl)
            rw [← hTL] at h1 h2 h3
            have hcut : ∀ w, (Instr.slice 9 (.string A) (some (.int .i64 (AT : Int))) (some (.int .i64 ((AT : Int) + (TL : Int)))) none).run Tryd.prog w = .ok (.string (st TX)) w := fun w => by
              have h := cut (l := a) (i := AT) (j := AT + TL) (by omega) h1 w
              rw [h2] at h
              rw [HA.out]
              have e : ((AT + TL : Nat) : Int) = (AT : Int) + (TL : Int) := by omega
              rw [e] at h
              exact h
            have hend : (AT : Int) + (TL : Int) ≤ (N : Int) := by have := HN.out; omega
            have b2 : ((TL : Int) == 0) = false := beq_eq_false_iff_ne.2 (by omega)
            obtain ⟨X, hX⟩ : ∃ X, X = st TX := ⟨_, rfl⟩
            rw [← hX] at hcut qx a1
            have HWD : Hid (wide (4, TX, NM, AT) = TL) := Lib.hid (by rw [HGD2.out]; rfl)
            clear hfine hgood hal htx htl hTL h1 h2 h3 hX hPA hP hlast
            go_wp2_with fail
            go_quiet (fail)
            go_wp2_with fail
            exact ⟨⟨k + 1, AT + TL, by go_num, by omega, vint (by omega), fun _ => by have h := HGO.out; rw [HWD.out] at h; exact h, by have := HTLB.out; omega, Kp.trans (hKZ.out _) (Kp.drewN _ _)⟩, by simp [intOf]; omega⟩
      · have hmx := HX.out.keep (Kp.trans HK1.out HKP.out)
        have HM := Lib.hid hmx
        clear hmx hkp
        go_wp2_with fail
        refine (awake_any HM.out).mono ?_
        rintro e w4 ⟨rfl, hk4⟩
        have HK4 := Lib.hid (Kp.trans (Kp.trans HK1.out HKP.out) hk4)
        clear hk4
        go_wp2_with fail
        go_ret
        exact ⟨rfl, HK4.out⟩
  · have q1 : ((e0 : Int) != 0) = true := by rw [bne_iff_ne]; omega
    have q2 : ((e0 : Int) == 0) = false := beq_eq_false_iff_ne.2 (by omega)
    have hbad := HGD.out.2 hE
    have hn0 : ((n : Int) == 0) = true := by
      rw [hbad.1] at hn
      simp at hn
      subst hn; rfl
    have hat : (at0 : Int) ≤ (N : Int) := by have := hbad.2; have := HN.out; omega
    clear hE hn hbad
    go_wp2_with fail
    refine (awake_any (HX.out.keep HK1.out)).mono ?_
    rintro e w4 ⟨rfl, hk4⟩
    have HK4 := Lib.hid (Kp.trans HK1.out hk4)
    clear hk4
    go_wp2_with fail
    go_ret
    exact ⟨rfl, HK4.out⟩
theorem places_any {w : World} (hx : MX w) (s : ByteArray) (hs : s.size ≤ 140737488351232) : Calls Tryd.prog 7 #[.string s] w fun e w' => e = .returned (.bool true) ∧ Kp w w' := by
  have h := places_st (bs_lt s) hx
  rw [st_bs] at h
  exact h
end By
end Go.Proofs.YtifhbbjalodplaaDoor

