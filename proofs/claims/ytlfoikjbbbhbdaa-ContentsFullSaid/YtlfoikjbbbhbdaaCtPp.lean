/- The program's Put. No condition but that the text is not too long. -/
import Derived.Test.YtlfoikjbbbhbdaaCtSt
import Derived.Test.YtlfoikjbbbhbdaaCtG
namespace Go.Proofs.Ytlfoikjbbbhbdaa
namespace By
open Go.RowKit WireN CtN
set_option linter.unusedVariables false
set_option linter.unusedSimpArgs false

theorem pt_bad {x : Tx} {ts : List Tx} (h : err ts = 0) (h2 : 4096 < (add ts x).length) : stE (add ts x) = 2 ∧ stL (add ts x) = [] ∧ ptE x ts = 2 ∧ ptL x ts = [] ∧ ptN x ts = 0 := by
  have h3 := (err_ok.1 h).1
  have hm : x ∉ ts := fun hm => by rw [add_in hm] at h2; omega
  have h4 : ts.length = 4096 := by rw [add_new hm] at h2; simp at h2; omega
  have h5 := ptE_full h hm h4
  exact ⟨if_pos h2, if_pos h2, h5, ptL_no (by rw [h5]; decide)⟩
theorem pt_fine {x : Tx} {ts : List Tx} (h : err ts = 0) (h2 : ¬ 4096 < (add ts x).length) : stE (add ts x) = 0 ∧ stL (add ts x) = add ts x ∧ ptE x ts = 0 ∧ ptL x ts = add ts x ∧ ptN x ts = fnd x (add ts x) := by
  have h5 : ptE x ts = 0 := by
    by_cases hm : x ∈ ts
    · exact ptE_in h hm
    · exact ptE_new h (fun h4 => by rw [add_new hm] at h2; simp at h2; omega)
  exact ⟨if_neg h2, if_neg h2, h5, ptL_ok h5⟩
set_option maxRecDepth 100000 in
set_option maxHeartbeats 4000000 in
theorem put13_any {w : World} {v : Value} {ts : List Tx} (hs : Tw w v ts) {x : Tx} (hx : TxOk x) :
    Calls Try.prog 13 #[.agg #[v], .string (st x)] w (PutR x ts w) := by
  obtain ⟨Q, hQ⟩ : ∃ Q, Q = PutR x ts w := ⟨_, rfl⟩
  rw [← hQ]
  obtain ⟨W, hW⟩ : ∃ W, W = (w.alloc (.cells #[v] 25)).alloc (.cells #[.slice none 0 0] 25) := ⟨_, rfl⟩
  have hk0 : Kp w W := by rw [hW]; exact Kp.alloc (kp_alloc _ _) _
  have b1 : Blk W w.heap.size 25 #[v] := by rw [hW]; exact (Blk.new _ _ _).keep (kp_alloc _ _)
  have b2 : Blk W (w.heap.size + 1) 25 #[.slice none 0 0] := by
    have := Blk.new (w.alloc (.cells #[v] 25)) 25 #[.slice none 0 0]
    rw [hW]
    simpa using this
  have hsz : W.heap.size = w.heap.size + 2 := by rw [hW]; simp
  have FIN : Hid (∀ (W' W2 : World) (u0 u : Value) (N E : Nat) (a : Act), W2 = W'.setCell ⟨w.heap.size + 1, 0, none⟩ u → Blk W' (w.heap.size + 1) 25 #[u0] → Kp w W' → a.defers = [] → a.tmps.getD 4 undef = .pointer (some ⟨w.heap.size + 1, 0, none⟩) → a.tmps.getD 5 undef = .int .i64 (N : Nat) → a.tmps.getD 6 undef = .int .i64 (E : Nat) → Tw W' u (ptL x ts) → (∀ b, u.ownBlock = some b → w.heap.size + 2 ≤ b) → N = ptN x ts → E = ptE x ts →
      bodyPost Try.prog Try.f13 Q .ret a W2) := Lib.hid (by
    intro W' W2 u0 u N E a hw2 hb hk h0 h4 h5 h6 hT hu hN hE
    subst hw2
    have b3 := hb.set 0 u
    have e0 := b3.cell 0 (v := u) rfl
    have h4' : a.tmps[4]?.getD undef = .pointer (some ⟨w.heap.size + 1, 0, none⟩) := by simpa using h4
    have h5' : a.tmps[5]?.getD undef = .int .i64 (N : Nat) := by simpa using h5
    have h6' : a.tmps[6]?.getD undef = .int .i64 (E : Nat) := by simpa using h6
    refine bodyPost_ret (v := .tuple #[.agg #[u], .int .i64 (N : Nat), .int .i64 (E : Nat)]) (by simp [results, Try.results13, go_sem, h4', h5', h6', e0]) h0 ?_
    rw [hQ]
    exact ⟨u, by rw [hN, hE], hT.setc (fun b hb2 => by have := hu b hb2; omega), fun b hb2 => by have := hu b hb2; omega, Only.kp hk ((Only.refl (w.heap.size + 1) W').set 0 _) (by omega)⟩)
  have HB := Lib.hid (tableOf_any (hs.keep hk0))
  have HW := Lib.hid hW; have HK := Lib.hid hk0; have HB1 := Lib.hid b1; have HB2 := Lib.hid b2; have HX := Lib.hid hx; have HSZ := Lib.hid hsz
  have c0 := b1.cell 0 rfl
  obtain ⟨ao, cap, rfl, -, -, -⟩ := hs.open3
  obtain ⟨m, hm⟩ : ∃ m, m = ts.length := ⟨_, rfl⟩
  rw [← hm] at HW HB1 HB c0 ⊢
  obtain ⟨X, hX⟩ : ∃ X, X = st x := ⟨_, rfl⟩
  rw [← hX]
  have HXX := Lib.hid hX
  clear hs hk0 b1 b2 hW hx hQ hsz hX hm
  go_enter Try.func13, Try.ntmps13
  go_wp2_with fail
  rw [← HW.out]
  refine HB.out.mono ?_
  rintro e w1 ⟨hk1, h⟩
  have HK1 := Lib.hid hk1
  clear hk1 c0
  rcases h with ⟨h0, rfl⟩ | ⟨h0, p, v, b, rfl, hT⟩
  · have F : Hid (ptE x ts = err ts ∧ ptL x ts = [] ∧ ptN x ts = 0) := Lib.hid (by
      have h := ptE_bad (x := x) h0
      exact ⟨h, ptL_no (by rw [h]; exact h0)⟩)
    obtain ⟨E, hE⟩ : ∃ E, E = err ts := ⟨_, rfl⟩
    rw [← hE] at h0 F ⊢
    have q : ((E : Int) != 0) = true := by simp; omega
    have hb4 := HB2.out.keep HK1.out
    have HB4 := Lib.hid hb4
    have f4 := hb4.free 0; have d4 := hb4.cell 0 rfl
    have hself := hb4.selfT (i := 0) (v := .slice none 0 0) rfl
    have HSF := Lib.hid hself
    clear hE h0 hb4 hself
    go_wp2_with fail
    exact FIN.out w1 _ _ (.slice none 0 0) 0 E _ (by first | exact HSF.out.symm | rfl) HB4.out (HK.out.trans HK1.out) rfl rfl rfl rfl (by rw [F.out.2.1]; exact Tw.nil _) (fun b hb => by simp [Value.ownBlock] at hb) F.out.2.2.symm F.out.1.symm
  · have hl := (err_ok.1 h0).1
    have HP := Lib.hid (put_any hT (by omega) HX.out)
    rw [← HXX.out] at HP
    have H0 := Lib.hid h0
    clear h0 hT hl
    go_wp2_with fail
    refine HP.out.mono ?_
    rintro e w2 ⟨v', rfl, hT2, -, -⟩
    have HK2 := Lib.hid hT2.kp
    have HS := Lib.hid (store_any hT2)
    obtain ⟨N, hN⟩ : ∃ N, N = fnd x (add ts x) := ⟨_, rfl⟩
    rw [← hN]
    have HN := Lib.hid hN
    clear hT2 hN
    go_wp2_with fail
    refine HS.out.mono ?_
    rintro e w3 ⟨u, rfl, hu, hnw, hk3⟩
    have hk4 : Kp W w3 := HK2.out.trans hk3
    by_cases hbig : 4096 < (add ts x).length
    · have F := Lib.hid (pt_bad H0.out hbig)
      rw [F.out.1]
      rw [F.out.2.1] at hu
      obtain ⟨x1, x3, rfl, -⟩ := hu.open3
      simp only [List.length_nil] at hu hnw ⊢
      have hb4 := (HB2.out.keep hk4).keep (kp_alloc w3 (.cells #[.slice x1 0 x3] 25))
      have HB4 := Lib.hid hb4
      have HK4 := Lib.hid ((HK.out.trans hk4).trans (kp_alloc w3 (.cells #[.slice x1 0 x3] 25)))
      have f4 := hb4.free 0; have d4 := hb4.cell 0 rfl
      have HSF := Lib.hid (hb4.selfT (i := 0) (v := .slice none 0 0) rfl)
      clear hbig hu hnw hk3 hk4 hb4
      go_wp2_with fail
      exact FIN.out _ _ _ (.slice none 0 0) 0 2 _ (by first | exact HSF.out.symm | rfl) HB4.out HK4.out rfl rfl rfl rfl (by rw [F.out.2.2.2.1]; exact Tw.nil _) (fun b hb => by simp [Value.ownBlock] at hb) F.out.2.2.2.2.symm F.out.2.2.1.symm
    · have F := Lib.hid (pt_fine H0.out hbig)
      rw [F.out.1]
      rw [F.out.2.1] at hu
      obtain ⟨x1, x3, rfl, -⟩ := hu.open3
      obtain ⟨x2, hx2⟩ : ∃ x2, x2 = (add ts x).length := ⟨_, rfl⟩
      rw [← hx2] at hu hnw ⊢
      have hb4 := (HB2.out.keep hk4).keep (kp_alloc w3 (.cells #[.slice x1 x2 x3] 25))
      have HB4 := Lib.hid hb4
      have HK4 := Lib.hid ((HK.out.trans hk4).trans (kp_alloc w3 (.cells #[.slice x1 x2 x3] 25)))
      have f4 := hb4.free 0; have d4 := hb4.cell 0 rfl
      have e4 := (Blk.new w3 25 #[.slice x1 x2 x3]).cell 0 rfl
      have HU := Lib.hid (hu.keep (kp_alloc w3 (.cells #[.slice x1 x2 x3] 25)))
      have HNW : Hid (∀ b, (Value.slice x1 x2 x3).ownBlock = some b → w.heap.size + 2 ≤ b) := Lib.hid (fun b hb => by have h1 := hnw b hb; have h2 := HK2.out.size; have h3 := HSZ.out; omega)
      clear hbig hu hnw hk3 hk4 hb4 hx2
      go_wp2_with fail
      exact FIN.out _ _ _ (.slice x1 x2 x3) N 0 _ rfl HB4.out HK4.out rfl rfl rfl rfl (by rw [F.out.2.2.2.1]; exact HU.out) HNW.out (by rw [HN.out]; exact F.out.2.2.2.2.symm) F.out.2.2.1.symm
end By
end Go.Proofs.Ytlfoikjbbbhbdaa
