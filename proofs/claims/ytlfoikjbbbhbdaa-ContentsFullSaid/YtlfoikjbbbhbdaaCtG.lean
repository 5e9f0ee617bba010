/- The reference's Put. Condition: at most a million texts. -/
import Derived.Test.YtlfoikjbbbhbdaaCtF
namespace Go.Proofs.Ytlfoikjbbbhbdaa
namespace By
open Go.RowKit WireN CtN
set_option linter.unusedVariables false
set_option linter.unusedSimpArgs false

/-- What Put leaves. -/
def PutR (x : Tx) (ts : List Tx) (w : World) (e : Ending) (w' : World) : Prop :=
  ∃ u, e = .returned (.tuple #[.agg #[u], .int .i64 (ptN x ts : Nat), .int .i64 (ptE x ts : Nat)]) ∧ Tw w' u (ptL x ts) ∧ (∀ b, u.ownBlock = some b → w.heap.size ≤ b) ∧ Kp w w'
set_option maxRecDepth 100000 in
set_option maxHeartbeats 4000000 in
theorem rPutT_any {w : World} {v : Value} {ts : List Tx} (hs : Tw w v ts) (hn2 : ts.length ≤ 1000000) {x : Tx} (hx : TxOk x) :
    Calls Try.prog 14 #[.agg #[v], .string (st x)] w (PutR x ts w) := by
  obtain ⟨Q, hQ⟩ : ∃ Q, Q = PutR x ts w := ⟨_, rfl⟩
  rw [← hQ]
  obtain ⟨W, hW⟩ : ∃ W, W = (w.alloc (.cells #[v] 25)).alloc (.cells #[.slice none 0 0] 25) := ⟨_, rfl⟩
  have hk0 : Kp w W := by rw [hW]; exact Kp.alloc (kp_alloc _ _) _
  have b1 : Blk W w.heap.size 25 #[v] := by rw [hW]; exact (Blk.new _ _ _).keep (kp_alloc _ _)
  have b2 : Blk W (w.heap.size + 1) 25 #[.slice none 0 0] := by
    have := Blk.new (w.alloc (.cells #[v] 25)) 25 #[.slice none 0 0]
    rw [hW]
    simpa using this
  have hsz : W.heap.size = w.heap.size + 2 := by rw [hW]; simp
  have FIN : Hid (∀ (W' : World) (u0 u : Value) (N E : Nat) (a : Act), Blk W' (w.heap.size + 1) 25 #[u0] → Kp w W' → a.defers = [] → a.tmps.getD 4 undef = .pointer (some ⟨w.heap.size + 1, 0, none⟩) → a.tmps.getD 5 undef = .int .i64 (N : Nat) → a.tmps.getD 6 undef = .int .i64 (E : Nat) → Tw W' u (ptL x ts) → (∀ b, u.ownBlock = some b → w.heap.size + 2 ≤ b) → N = ptN x ts → E = ptE x ts →
      bodyPost Try.prog Try.f14 Q .ret a (W'.setCell ⟨w.heap.size + 1, 0, none⟩ u)) := Lib.hid (by
    intro W' u0 u N E a hb hk h0 h4 h5 h6 hT hu hN hE
    have b3 := hb.set 0 u
    have e0 := b3.cell 0 (v := u) rfl
    have h4' : a.tmps[4]?.getD undef = .pointer (some ⟨w.heap.size + 1, 0, none⟩) := by simpa using h4
    have h5' : a.tmps[5]?.getD undef = .int .i64 (N : Nat) := by simpa using h5
    have h6' : a.tmps[6]?.getD undef = .int .i64 (E : Nat) := by simpa using h6
    refine bodyPost_ret (v := .tuple #[.agg #[u], .int .i64 (N : Nat), .int .i64 (E : Nat)]) (by simp [results, Try.results14, go_sem, h4', h5', h6', e0]) h0 ?_
    rw [hQ]
    exact ⟨u, by rw [hN, hE], hT.setc (fun b hb2 => by have := hu b hb2; omega), fun b hb2 => by have := hu b hb2; omega, Only.kp hk ((Only.refl (w.heap.size + 1) W').set 0 _) (by omega)⟩)
  have HB := Lib.hid (rCheckT_any (hs.keep hk0))
  have HW := Lib.hid hW; have HK := Lib.hid hk0; have HB1 := Lib.hid b1; have HB2 := Lib.hid b2; have HS := Lib.hid hs; have HX := Lib.hid hx; have HSZ := Lib.hid hsz; have HN2 := Lib.hid hn2
  have c0 := b1.cell 0 rfl
  obtain ⟨E, hE⟩ : ∃ E, E = err ts := ⟨_, rfl⟩
  have HE := Lib.hid hE
  rw [← hE] at HB
  obtain ⟨ao, cap, rfl, hcap, -, -⟩ := hs.open3
  obtain ⟨m, hm⟩ : ∃ m, m = ts.length := ⟨_, rfl⟩
  rw [← hm] at HW HB1 HS HB c0 hcap ⊢
  have HM := Lib.hid hm
  have i1 : (m : Int) ≤ (cap : Int) := by omega
  have i2 : (m : Int) ≤ 1000000 := by omega
  obtain ⟨X, hX⟩ : ∃ X, X = st x := ⟨_, rfl⟩
  rw [← hX]
  have HXX := Lib.hid hX
  clear hs hk0 b1 b2 hW hE hcap hm hx hQ hsz hn2 hX
  by_cases he : E = 0
  · have q : ((E : Int) != 0) = false := by simp [he]
    have HE0 : Hid (err ts = 0) := Lib.hid (HE.out ▸ he)
    clear he
    by_cases hmem : x ∈ ts
    · have F : Hid (ptE x ts = 0 ∧ ptL x ts = ts ∧ ptN x ts = fnd x ts) := Lib.hid (by
        have h := ptE_in HE0.out hmem
        have h2 := ptL_ok h
        rw [add_in hmem] at h2
        exact ⟨h, h2⟩)
      have HFI : Hid (fndI x ts = ((fnd x ts : Nat) : Int)) := Lib.hid (fndI_ge hmem)
      obtain ⟨FN, hFN⟩ : ∃ FN, FN = fnd x ts := ⟨_, rfl⟩
      rw [← hFN] at F HFI
      have i3 : (0 : Int) ≤ (FN : Int) := by omega
      clear hmem hFN
      go_enter Try.func14, Try.ntmps14
      go_wp2_with fail
      rw [← HW.out]
      refine HB.out.mono ?_
      rintro e w1 ⟨rfl, hk1⟩
      have HK1 := Lib.hid hk1
      have c1 := (HB1.out.keep hk1).cell 0 rfl
      have HT1 := Lib.hid (HS.out.keep (HK.out.trans hk1))
      clear hk1 c0
      go_wp2_with (at_builtin; refine wpList_cln rfl (.const (.slice none 0 0)) (.tmp 17) rfl rfl rfl HT1.out (by rw [← HM.out]; omega) ?_)
      intro u w2 ho2
      have HO2 := Lib.hid ho2
      obtain ⟨⟨ua, ul, uc, rfl⟩, -⟩ := row_frc ho2.owns
      have HK3 : Hid (Kp w (w2.alloc (.cells #[.slice ua ul uc] 25))) := Lib.hid (((HK.out.trans HK1.out).trans ho2.kp).trans (kp_alloc _ _))
      have c2 := (HB1.out.keep (HK1.out.trans ho2.kp)).cell 0 rfl
      have c2' := (HB1.out.keep ((HK1.out.trans ho2.kp).trans (kp_alloc w2 (.cells #[.slice ua ul uc] 25)))).cell 0 rfl
      have HFD := Lib.hid (rfind_any (HS.out.keep HK3.out) (by have := HN2.out; omega) HX.out.1)
      rw [HFI.out] at HFD
      rw [← HXX.out] at HFD
      clear ho2 c1
      go_wp2_with fail
      refine HFD.out.mono ?_
      rintro e w4 ⟨rfl, hk4⟩
      have HK4 := Lib.hid hk4
      have c4 := ((Blk.new w2 25 #[.slice ua ul uc]).keep hk4).cell 0 rfl
      have hb4 := HB2.out.keep (((HK1.out.trans HO2.out.kp).trans (kp_alloc w2 (.cells #[.slice ua ul uc] 25))).trans hk4)
      have HB4 := Lib.hid hb4
      have f4 := hb4.free 0; have d4 := hb4.cell 0 rfl
      clear hk4 c2 c2' hb4
      go_wp2_with fail
      exact FIN.out w4 _ _ FN 0 _ HB4.out (HK3.out.trans HK4.out) rfl rfl rfl rfl (by rw [F.out.2.1]; exact (HO2.out.keep ((kp_alloc _ _).trans HK4.out)).tw) (fun b hb => by have := HO2.out.newer b hb; have := HK1.out.size; have := HSZ.out; omega) F.out.2.2.symm F.out.1.symm
    · have HFI : Hid (fndI x ts = -1) := Lib.hid (fndI_no hmem)
      by_cases hfull : m = 4096
      · have F : Hid (ptE x ts = 2 ∧ ptL x ts = [] ∧ ptN x ts = 0) := Lib.hid (by
          have h := ptE_full HE0.out hmem (HM.out ▸ hfull)
          exact ⟨h, ptL_no (by rw [h]; decide)⟩)
        have j0 : ((m : Int) == 4096) = true := beq_iff_eq.2 (by omega)
        clear hmem hfull
        go_enter Try.func14, Try.ntmps14
        go_wp2_with fail
        rw [← HW.out]
        refine HB.out.mono ?_
        rintro e w1 ⟨rfl, hk1⟩
        have HK1 := Lib.hid hk1
        have c1 := (HB1.out.keep hk1).cell 0 rfl
        have HT1 := Lib.hid (HS.out.keep (HK.out.trans hk1))
        clear hk1 c0
        go_wp2_with (at_builtin; refine wpList_cln rfl (.const (.slice none 0 0)) (.tmp 17) rfl rfl rfl HT1.out (by rw [← HM.out]; omega) ?_)
        intro u w2 ho2
        have HO2 := Lib.hid ho2
        obtain ⟨⟨ua, ul, uc, rfl⟩, -⟩ := row_frc ho2.owns
        have HK3 : Hid (Kp w (w2.alloc (.cells #[.slice ua ul uc] 25))) := Lib.hid (((HK.out.trans HK1.out).trans ho2.kp).trans (kp_alloc _ _))
        have c2 := (HB1.out.keep (HK1.out.trans ho2.kp)).cell 0 rfl
        have c2' := (HB1.out.keep ((HK1.out.trans ho2.kp).trans (kp_alloc w2 (.cells #[.slice ua ul uc] 25)))).cell 0 rfl
        have HFD := Lib.hid (rfind_any (HS.out.keep HK3.out) (by have := HN2.out; omega) HX.out.1)
        rw [HFI.out] at HFD
        rw [← HXX.out] at HFD
        clear ho2 c1
        go_wp2_with fail
        refine HFD.out.mono ?_
        rintro e w4 ⟨rfl, hk4⟩
        have HK4 := Lib.hid hk4
        have hb1' := HB1.out.keep (((HK1.out.trans HO2.out.kp).trans (kp_alloc w2 (.cells #[.slice ua ul uc] 25))).trans hk4)
        have hbo := (Blk.new w2 25 #[.slice ua ul uc]).keep hk4
        have c4 := hbo.cell 0 rfl
        have e4 := hb1'.cell 0 rfl
        have hb4 := HB2.out.keep (((HK1.out.trans HO2.out.kp).trans (kp_alloc w2 (.cells #[.slice ua ul uc] 25))).trans hk4)
        have HB4 := Lib.hid hb4; have HB1' := Lib.hid hb1'; have HBO := Lib.hid hbo
        have f4 := hb4.free 0; have d4 := hb4.cell 0 rfl
        clear hk4 c2 c2' hb4 hb1' hbo
        go_wp2_with fail
        exact FIN.out w4 _ _ 0 2 _ HB4.out (HK3.out.trans HK4.out) rfl rfl rfl rfl (by rw [F.out.2.1]; exact Tw.nil _) (fun b hb => by simp [Value.ownBlock] at hb) F.out.2.2.symm F.out.1.symm
      · have F : Hid (ptE x ts = 0 ∧ ptL x ts = ts ++ [x] ∧ ptN x ts = m) := Lib.hid (by
          have h := ptE_new HE0.out (x := x) (by rw [← HM.out]; exact hfull)
          have h2 := ptL_ok h
          rw [add_new hmem, fnd_snoc hmem, ← HM.out] at h2
          exact ⟨h, h2⟩)
        have j0 : ((m : Int) == 4096) = false := beq_eq_false_iff_ne.2 (by omega)
        clear hmem hfull
        go_enter Try.func14, Try.ntmps14
        go_wp2_with fail
        rw [← HW.out]
        refine HB.out.mono ?_
        rintro e w1 ⟨rfl, hk1⟩
        have HK1 := Lib.hid hk1
        have c1 := (HB1.out.keep hk1).cell 0 rfl
        have HT1 := Lib.hid (HS.out.keep (HK.out.trans hk1))
        clear hk1 c0
        go_wp2_with (at_builtin; refine wpList_cln rfl (.const (.slice none 0 0)) (.tmp 17) rfl rfl rfl HT1.out (by rw [← HM.out]; omega) ?_)
        intro u w2 ho2
        have HO2 := Lib.hid ho2
        obtain ⟨⟨ua, ul, uc, rfl⟩, -⟩ := row_frc ho2.owns
        have HK3 : Hid (Kp w (w2.alloc (.cells #[.slice ua ul uc] 25))) := Lib.hid (((HK.out.trans HK1.out).trans ho2.kp).trans (kp_alloc _ _))
        have c2 := (HB1.out.keep (HK1.out.trans ho2.kp)).cell 0 rfl
        have c2' := (HB1.out.keep ((HK1.out.trans ho2.kp).trans (kp_alloc w2 (.cells #[.slice ua ul uc] 25)))).cell 0 rfl
        have HFD := Lib.hid (rfind_any (HS.out.keep HK3.out) (by have := HN2.out; omega) HX.out.1)
        rw [HFI.out] at HFD
        rw [← HXX.out] at HFD
        clear ho2 c1
        go_wp2_with fail
        refine HFD.out.mono ?_
        rintro e w4 ⟨rfl, hk4⟩
        have HK4 := Lib.hid hk4
        have hb1' := HB1.out.keep (((HK1.out.trans HO2.out.kp).trans (kp_alloc w2 (.cells #[.slice ua ul uc] 25))).trans hk4)
        have hbo := (Blk.new w2 25 #[.slice ua ul uc]).keep hk4
        have c4 := hbo.cell 0 rfl
        have e4 := hb1'.cell 0 rfl
        have hb4 := HB2.out.keep (((HK1.out.trans HO2.out.kp).trans (kp_alloc w2 (.cells #[.slice ua ul uc] 25))).trans hk4)
        have HB4 := Lib.hid hb4; have HB1' := Lib.hid hb1'; have HBO := Lib.hid hbo
        have f4 := hb4.free 0; have d4 := hb4.cell 0 rfl
        clear hk4 c2 c2' hb4 hb1' hbo
        have HO4 := Lib.hid ((HO2.out.keep ((kp_alloc w2 (.cells #[.slice ua ul uc] 25)).trans HK4.out)).keep (kp_alloc w4 (.cells #[.string X] 9)))
        have HNB : Hid (Blk (w4.alloc (.cells #[.string X] 9)) w4.heap.size 9 #[.string (st x)]) := Lib.hid (by rw [← HXX.out]; exact Blk.new _ _ _)
        go_wp2_with (at_builtin; refine wpList_tx (w := w1) rfl (.tmp 33) (.tmp 35) rfl _ rfl HO4.out (by rw [← HM.out]; omega) x HX.out w4.heap.size rfl HNB.out ?_)
        intro v6 w6 ho6 hg6 ha6
        obtain ⟨⟨va, vl, vc, rfl⟩, hv6⟩ := row_frc ho6.owns
        have hrow := (row_frc HO2.out.owns).2
        have hne : ∀ b, b = w.heap.size ∨ b = w.heap.size + 1 ∨ b = w2.heap.size → some b ≠ (Value.slice ua ul uc).ownBlock := fun b hb e => by
          have h1 := hrow b e.symm
          have := HK1.out.size; have := HSZ.out
          omega
        have p1 := ((HB1'.out.keep (kp_alloc w4 (.cells #[.string X] 9))).by hg6 (hne _ (.inl rfl)))
        have p2 := ((HB4.out.keep (kp_alloc w4 (.cells #[.string X] 9))).by hg6 (hne _ (.inr (.inl rfl))))
        have p3 := ((HBO.out.keep (kp_alloc w4 (.cells #[.string X] 9))).by hg6 (hne _ (.inr (.inr rfl))))
        have g3 := p3.cell 0 rfl; have g3' := p3.free 0
        obtain ⟨W7, hW7⟩ : ∃ W7, W7 = w6.setCell ⟨w2.heap.size, 0, none⟩ (.slice va vl vc) := ⟨_, rfl⟩
        have hlt2 : w.heap.size + 2 ≤ w2.heap.size := by have := HO2.out.kp.size; have := HK1.out.size; have := HSZ.out; omega
        have r1 : Blk W7 w.heap.size 25 #[.slice ao m cap] := by rw [hW7]; exact p1.other ((Only.refl w2.heap.size w6).set 0 _) (by omega)
        have r2 : Blk W7 (w.heap.size + 1) 25 #[.slice none 0 0] := by rw [hW7]; exact p2.other ((Only.refl w2.heap.size w6).set 0 _) (by omega)
        have r3 : Blk W7 w2.heap.size 25 #[.slice va vl vc] := by rw [hW7]; exact p3.set 0 _
        have hv6' : ∀ b, (Value.slice va vl vc).ownBlock = some b → b ≠ w2.heap.size := fun b hb e => by
          subst e
          rcases ha6 with h | h
          · exact hne _ (.inr (.inr rfl)) (h ▸ hb).symm
          · rw [h] at hb; injection hb with hb
            have := ((kp_alloc w2 (.cells #[.slice ua ul uc] 25)).trans HK4.out).size
            have := (kp_alloc w4 (.cells #[.string X] 9)).size
            have hh : w2.heap.size < w4.heap.size := HBO.out.lt
            omega
        have HT7 : Hid (Tw W7 (.slice va vl vc) (ts ++ [x])) := Lib.hid (by rw [hW7]; exact ho6.tw.setc hv6')
        have HK7 : Hid (Kp w W7) := Lib.hid (by
          rw [hW7]
          exact Only.kp ((HK.out.trans HK1.out).trans ho6.kp) ((Only.refl w2.heap.size w6).set 0 _) (by omega))
        have HV6 : Hid (∀ b, (Value.slice va vl vc).ownBlock = some b → w.heap.size + 2 ≤ b) := Lib.hid (fun b hb => by have := (hv6 b hb).1; have := HK1.out.size; have := HSZ.out; omega)
        have HW7 := Lib.hid hW7; have HR2 := Lib.hid r2
        have k1 := r1.cell 0 rfl; have k2 := r2.cell 0 rfl; have k3 := r3.cell 0 rfl; have k2' := r2.free 0
        clear ho6 hg6 ha6 hv6 hrow hne p1 p2 p3 hW7 r1 r2 r3 hv6' c4 e4 f4 d4
        go_wp2_with fail
        rw [← HW7.out]
        go_region
        go_wp2_with fail
        exact FIN.out W7.drew _ _ m 0 _ HR2.out (HK7.out.trans (kp_drew _)) rfl rfl rfl rfl (by rw [F.out.2.1]; exact HT7.out.drew) HV6.out F.out.2.2.symm F.out.1.symm
  · have q : ((E : Int) != 0) = true := by simp; omega
    have F : Hid (ptE x ts = E ∧ ptL x ts = [] ∧ ptN x ts = 0) := Lib.hid (by
      have h := ptE_bad (x := x) (HE.out ▸ he)
      exact ⟨h.trans HE.out.symm, ptL_no (by rw [h, ← HE.out]; exact he)⟩)
    clear he
    go_enter Try.func14, Try.ntmps14
    go_wp2_with fail
    rw [← HW.out]
    refine HB.out.mono ?_
    rintro e w1 ⟨rfl, hk1⟩
    have HK1 := Lib.hid hk1
    have hb4 := HB2.out.keep hk1
    have HB4 := Lib.hid hb4
    have f4 := hb4.free 0; have d4 := hb4.cell 0 rfl
    clear hk1 c0 hb4
    go_wp2_with fail
    exact FIN.out w1 _ _ 0 E _ HB4.out (HK.out.trans HK1.out) rfl rfl rfl rfl (by rw [F.out.2.1]; exact Tw.nil _) (fun b hb => by simp [Value.ownBlock] at hb) F.out.2.2.symm F.out.1.symm
end By
end Go.Proofs.Ytlfoikjbbbhbdaa
