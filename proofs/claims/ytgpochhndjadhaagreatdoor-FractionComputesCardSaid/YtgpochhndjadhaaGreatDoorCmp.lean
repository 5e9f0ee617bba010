/- The order of two fractions by their continued fractions. Conditions: the slices hold the numbers that are named, of at most 128 limbs, and no denominator is 0. -/
import Derived.Test.YtgpochhndjadhaaGreatDoorTimes
import Derived.Test.YtgpochhndjadhaaGreatDoorMFm
import Derived.Deep.LoopGhost
namespace Go.Proofs.YtgpochhndjadhaaGreatDoor
open Go.RowKit LimbN
set_option linter.unusedVariables false
set_option linter.unusedSimpArgs false

/-- What the loop holds: the fractions of this round. -/
structure CmpSt (w wy : World) (g A B C D : Nat) (ao : Option Addr) (al ac : Nat) (bo : Option Addr) (bl bc : Nat) (co : Option Addr) (cl cc : Nat) (do' : Option Addr) (dl dc : Nat) : Prop where
  t1 : Two wy g 25 (.slice ao al ac) (.slice bo bl bc)
  t2 : Two wy (g + 1) 25 (.slice co cl cc) (.slice do' dl dc)
  sa : Sl wy (.slice ao al ac) (limbs A)
  sb : Sl wy (.slice bo bl bc) (limbs B)
  sc : Sl wy (.slice co cl cc) (limbs C)
  sd : Sl wy (.slice do' dl dc) (limbs D)
  oa : Off g (.slice ao al ac) (limbs A) ∧ Off (g + 1) (.slice ao al ac) (limbs A)
  ob : Off g (.slice bo bl bc) (limbs B) ∧ Off (g + 1) (.slice bo bl bc) (limbs B)
  oc : Off g (.slice co cl cc) (limbs C) ∧ Off (g + 1) (.slice co cl cc) (limbs C)
  od : Off g (.slice do' dl dc) (limbs D) ∧ Off (g + 1) (.slice do' dl dc) (limbs D)
  la : (limbs A).length ≤ 128
  lb : (limbs B).length ≤ 128
  lc : (limbs C).length ≤ 128
  ld : (limbs D).length ≤ 128
  b0 : B ≠ 0
  d0 : D ≠ 0
  kp : Kp w wy
  ge : w.heap.size ≤ g
theorem CmpSt.drewN {w wy : World} {g A B C D : Nat} {ao : Option Addr} {al ac : Nat} {bo : Option Addr} {bl bc : Nat} {co : Option Addr} {cl cc : Nat} {do' : Option Addr} {dl dc : Nat} (h : CmpSt w wy g A B C D ao al ac bo bl bc co cl cc do' dl dc) (n : Nat) :
    CmpSt w (wy.drewN n) g A B C D ao al ac bo bl bc co cl cc do' dl dc :=
  ⟨h.t1.drewN n, h.t2.drewN n, h.sa.keep (Kp.drewN _ n), h.sb.keep (Kp.drewN _ n), h.sc.keep (Kp.drewN _ n), h.sd.keep (Kp.drewN _ n), h.oa, h.ob, h.oc, h.od, h.la, h.lb, h.lc, h.ld, h.b0, h.d0, Kp.trans h.kp (Kp.drewN _ n), h.ge⟩
theorem CmpSt.next {w wy w5 P1 P2 : World} {g A B C D X Y : Nat} {ao : Option Addr} {al ac : Nat} {bo : Option Addr} {bl bc : Nat} {co : Option Addr} {cl cc : Nat} {do' : Option Addr} {dl dc : Nat} {xo : Option Addr} {xl xc : Nat} {yo : Option Addr} {yl yc : Nat}
    (h : CmpSt w wy g A B C D ao al ac bo bl bc co cl cc do' dl dc) (hk : Kp wy w5) (sx : Sl w5 (.slice xo xl xc) (limbs X)) (nx : New wy.heap.size (.slice xo xl xc)) (sy : Sl w5 (.slice yo yl yc) (limbs Y)) (ny : New wy.heap.size (.slice yo yl yc))
    (hx : X ≠ 0) (hy : Y ≠ 0) (lx : (limbs X).length ≤ 128) (ly : (limbs Y).length ≤ 128) (u1 : Put w5 P1 g 25 (.slice bo bl bc) (.slice xo xl xc)) (u2 : Put P1 P2 (g + 1) 25 (.slice do' dl dc) (.slice yo yl yc)) :
    CmpSt w P2 g B X D Y bo bl bc xo xl xc do' dl dc yo yl yc := by
  have g1 := h.t1.lt
  have g2 := h.t2.lt
  have ox : Off g (.slice xo xl xc) (limbs X) ∧ Off (g + 1) (.slice xo xl xc) (limbs X) := ⟨nx.offs g1 _, nx.offs g2 _⟩
  have oy : Off g (.slice yo yl yc) (limbs Y) ∧ Off (g + 1) (.slice yo yl yc) (limbs Y) := ⟨ny.offs g1 _, ny.offs g2 _⟩
  exact ⟨u1.two.other u2.only (by omega), u2.two, ((h.sb.keep hk).only u1.only h.ob.1).only u2.only h.ob.2, (sx.only u1.only ox.1).only u2.only ox.2, ((h.sd.keep hk).only u1.only h.od.1).only u2.only h.od.2, (sy.only u1.only oy.1).only u2.only oy.2, h.ob, ox, h.od, oy, h.lb, lx, h.ld, ly, hx, hy, u2.only.kp (u1.only.kp (Kp.trans h.kp hk) h.ge) (Nat.le_succ_of_le h.ge), h.ge⟩
theorem ord_cases (x y : Nat) : FracN.ord x y = -1 ∨ FracN.ord x y = 0 ∨ FracN.ord x y = 1 := by
  unfold FracN.ord; split
  · exact .inl rfl
  · split
    · exact .inr (.inr rfl)
    · exact .inr (.inl rfl)
theorem ord_zero_iff (x y : Nat) : FracN.ord x y = 0 ↔ x = y := by
  constructor
  · intro h
    by_cases e : x = y
    · exact e
    · exact absurd h (FracN.ord_ne e)
  · rintro rfl; exact FracN.ord_self x
set_option maxRecDepth 100000 in
set_option maxHeartbeats 4000000 in
theorem fcompare_n {a b c d : Nat} {va vb vc vd : Value} {w : World} (hb0 : b ≠ 0) (hd0 : d ≠ 0) (la : (limbs a).length ≤ 128) (lb : (limbs b).length ≤ 128) (lc : (limbs c).length ≤ 128) (ld : (limbs d).length ≤ 128)
    (ha : Sl w va (limbs a)) (hb : Sl w vb (limbs b)) (hcc : Sl w vc (limbs c)) (hd : Sl w vd (limbs d)) :
    Calls Tryz.prog 44 #[.agg #[va, vb], .agg #[vc, vd]] w fun e w' => e = .returned (.int .i64 (FracN.ord (a * d) (c * b))) ∧ Kp w w' := by
  obtain ⟨ao, al, ac, rfl⟩ := ha.open3
  obtain ⟨bo, bl, bc, rfl⟩ := hb.open3
  obtain ⟨co, cl, cc, rfl⟩ := hcc.open3
  obtain ⟨do', dl, dc, rfl⟩ := hd.open3
  obtain ⟨w1, hw1, HK1, HB1, hz1⟩ := box2 w 25 (.slice ao al ac) (.slice bo bl bc)
  obtain ⟨w2, hw2, HK2, HB2, hz2⟩ := box2 w1 25 (.slice co cl cc) (.slice do' dl dc)
  have hs1 : w1.heap.size = w.heap.size + 1 := by rw [hw1]; simp
  rw [hs1] at HB2
  have hk02 := Kp.trans HK1.out HK2.out
  have off : ∀ {v : Value} {xs : List Nat}, Sl w v xs → Off w.heap.size v xs ∧ Off (w.heap.size + 1) v xs := fun h => ⟨h.off (Nat.le_refl _), h.off (Nat.le_succ _)⟩
  have hst : CmpSt w w2 w.heap.size a b c d ao al ac bo bl bc co cl cc do' dl dc := ⟨HB1.out.keep HK2.out, HB2.out, ha.keep hk02, hb.keep hk02, hcc.keep hk02, hd.keep hk02, off ha, off hb, off hcc, off hd, la, lb, lc, ld, hb0, hd0, hk02, Nat.le_refl _⟩
  have HST := Lib.hid hst
  have hw : w2 = (w.alloc (Obj.cells #[.slice ao al ac, .slice bo bl bc] 25)).alloc (Obj.cells #[.slice co cl cc, .slice do' dl dc] 25) := by rw [hw2, hw1]
  have HW := Lib.hid hw
  obtain ⟨R, hR⟩ : ∃ R, R = FracN.ord (a * d) (c * b) := ⟨_, rfl⟩
  rw [← hR]
  have HR := Lib.hid hR
  clear hw1 hw2 hw hs1 hk02 off hst ha hb hcc hd hz1 hz2 HK1 HK2 HB1 HB2 hb0 hd0 la lb lc ld hR
  go_enter Tryz.func44, Tryz.ntmps44
  go_wp2_with fail
  rw [← HW.out]
  go_loopg [5] b (fun k s wy => ∃ (A C D : Nat) (σ : Int) (ao : Option Addr) (al ac : Nat) (bo : Option Addr) (bl bc : Nat) (co : Option Addr) (cl cc : Nat) (do' : Option Addr) (dl dc : Nat), s = .int .i64 σ ∧ (σ = 1 ∨ σ = -1) ∧ σ * FracN.ord (A * D) (C * k) = R ∧ CmpSt w wy w.heap.size A k C D ao al ac bo bl bc co cl cc do' dl dc)
  case atStart => exact ⟨a, c, d, 1, _, _, _, _, _, _, _, _, _, _, _, _, rfl, .inl rfl, by rw [HR.out, Int.one_mul], HST.out⟩
  case round =>
    obtain ⟨A, C, D, σ, ao, al, ac, bo, bl, bc, co, cl, cc, do', dl, dc, rfl, hσ, hR, hst⟩ := hrel
    have HS := Lib.hid hst; have HRR := Lib.hid hR
    have c0 := hst.t1.c0; have c1 := hst.t1.c1
    clear hst hR
    go_wp2_with fail
    clear c0 c1
    refine (fdivide_n HS.out.sa HS.out.sb HS.out.la HS.out.lb HS.out.b0).mono ?_
    intro e w3 hq
    obtain ⟨⟨vq, vr, rfl, h1, h2, h3, h4⟩, hk⟩ := hq
    have HQA := Lib.hid h1; have HRA := Lib.hid h2; have NRA := Lib.hid h4; have HK3 := Lib.hid hk
    have c0 := (HS.out.t2.keep hk).c0; have c1 := (HS.out.t2.keep hk).c1
    clear h1 h2 h3 h4 hk
    go_wp2_with fail
    clear c0 c1
    refine (fdivide_n (HS.out.sc.keep HK3.out) (HS.out.sd.keep HK3.out) HS.out.lc HS.out.ld HS.out.d0).mono ?_
    intro e w4 hq
    obtain ⟨⟨vq2, vr2, rfl, h1, h2, h3, h4⟩, hk⟩ := hq
    have HQB := Lib.hid h1; have HRB := Lib.hid h2; have NRB := Lib.hid h4; have HK4 := Lib.hid (Kp.trans HK3.out hk); have HQA4 := Lib.hid (HQA.out.keep hk); have HRA4 := Lib.hid (HRA.out.keep hk); have HK34 := Lib.hid hk
    clear h1 h2 h3 h4 hk
    go_wp2_with fail
    refine (ncmp_n HQA4.out HQB.out (Nat.le_trans (limbs_mono (Nat.div_le_self _ _)) HS.out.la) (Nat.le_trans (limbs_mono (Nat.div_le_self _ _)) HS.out.lc)).mono ?_
    rintro e w5 ⟨rfl, hk⟩
    have HK5 := Lib.hid (Kp.trans HK4.out hk); have HRA5 := Lib.hid (HRA4.out.keep hk); have HRB5 := Lib.hid (HRB.out.keep hk); have HK35 := Lib.hid (Kp.trans HK34.out hk); have HK45 := Lib.hid hk
    clear hk
    obtain ⟨T, hT⟩ : ∃ T, T = FracN.ord (A / gk) (C / D) := ⟨_, rfl⟩
    rw [show (if A / gk < C / D then -1 else if C / D < A / gk then 1 else 0 : Int) = T from hT.symm]
    have KALL := Lib.hid (Kp.trans HS.out.kp HK5.out)
    by_cases h0 : A / gk = C / D
    · obtain rfl : T = 0 := by rw [hT]; exact (ord_zero_iff _ _).2 h0
      have HRE := Lib.hid (FracN.ord_rest (a := A) (b := gk) (c := C) (d := D) h0)
      obtain ⟨X, hX⟩ : ∃ X, X = A % gk := ⟨_, rfl⟩
      obtain ⟨Y, hY⟩ : ∃ Y, Y = C % D := ⟨_, rfl⟩
      have hXlt : X < gk := by rw [hX]; exact Nat.mod_lt _ (Nat.pos_of_ne_zero HS.out.b0)
      have HXL := Lib.hid hXlt
      have LX : Hid ((limbs X).length ≤ 128) := by show _ ≤ _; rw [hX]; exact Nat.le_trans (limbs_mono (Nat.mod_le _ _)) HS.out.la
      have LY : Hid ((limbs Y).length ≤ 128) := by show _ ≤ _; rw [hY]; exact Nat.le_trans (limbs_mono (Nat.mod_le _ _)) HS.out.lc
      rw [← hX] at HRA5 HRE
      rw [← hY] at HRB5 HRE
      clear HRA HRA4 HRB hT h0 hX hY hXlt
      obtain ⟨xo, xc, rfl, -⟩ := HRA5.out.ex
      obtain ⟨yo, yc, rfl, -⟩ := HRB5.out.ex
      obtain ⟨l1, e1⟩ : ∃ l1, l1 = (limbs X).length := ⟨_, rfl⟩
      obtain ⟨l2, e2⟩ : ∃ l2, l2 = (limbs Y).length := ⟨_, rfl⟩
      have z1 := limbs_len_zero (n := X); have z2 := limbs_len_zero (n := Y)
      rw [← e1] at z1 HRA5 NRA ⊢
      rw [← e2] at z2 HRB5 NRB ⊢
      clear e1 e2
      by_cases hz : X = 0 ∨ Y = 0
      · have HZO := Lib.hid (FracN.ord_zero (b := gk) (d := D) (x := X) (y := Y) (Nat.pos_of_ne_zero HS.out.b0) (Nat.pos_of_ne_zero HS.out.d0) hz)
        have hb : (((l1 : Int) == 0) || ((l2 : Int) == 0)) = true := by
          rcases hz with h | h
          · have := z1.2 h; subst this; rfl
          · have := z2.2 h; subst this; simp
        have FINC : ∀ w6, Kp w5 w6 → Kp w w6 := fun w6 hk => Kp.trans KALL.out hk
        have HFC := Lib.hid FINC
        obtain ⟨T2, hT2⟩ : ∃ T2, T2 = FracN.ord X Y := ⟨_, rfl⟩
        have HFR : Hid (σ * T2 = R) := by show _ = _; rw [hT2, ← HZO.out, ← HRE.out]; exact HRR.out
        have HT2 := Lib.hid hT2
        have hT2c := ord_cases X Y
        rw [← hT2] at hT2c
        clear FINC hT2 hz z1 z2
        by_cases q1 : ((l1 : Int) == 0) = true
        · go_wp2_with fail
          refine (ncmp_n HRA5.out HRB5.out LX.out LY.out).mono ?_
          rintro e w6 ⟨rfl, hk⟩
          rw [show (if X < Y then -1 else if Y < X then 1 else 0 : Int) = T2 from HT2.out.symm]
          have HK6 := Lib.hid (HFC.out w6 hk)
          clear hk
          rcases hσ with rfl | rfl <;> rcases hT2c with rfl | rfl | rfl <;> (go_wp2; go_ret; exact ⟨by rw [← HFR.out]; rfl, HK6.out⟩)
        · have q1' : ((l1 : Int) == 0) = false := by simpa using q1
          have q2' : ((l2 : Int) == 0) = true := by rw [q1', Bool.false_or] at hb; exact hb
          clear q1 hb
          go_wp2_with fail
          refine (ncmp_n HRA5.out HRB5.out LX.out LY.out).mono ?_
          rintro e w6 ⟨rfl, hk⟩
          rw [show (if X < Y then -1 else if Y < X then 1 else 0 : Int) = T2 from HT2.out.symm]
          have HK6 := Lib.hid (HFC.out w6 hk)
          clear hk
          rcases hσ with rfl | rfl <;> rcases hT2c with rfl | rfl | rfl <;> (go_wp2; go_ret; exact ⟨by rw [← HFR.out]; rfl, HK6.out⟩)
      · have hX0 : X ≠ 0 := fun h => hz (.inl h)
        have hY0 : Y ≠ 0 := fun h => hz (.inr h)
        have q1 : ((l1 : Int) == 0) = false := beq_eq_false_iff_ne.2 (fun h => hX0 (z1.1 (by omega)))
        have q2 : ((l2 : Int) == 0) = false := beq_eq_false_iff_ne.2 (fun h => hY0 (z2.1 (by omega)))
        have HRN : Hid (-σ * FracN.ord (gk * Y) (D * X) = R) := by
          show _ = _
          rw [← HRR.out, HRE.out, FracN.ord_turn gk D X Y]
          rw [Int.neg_mul, Int.mul_neg]
        have hT1 := HS.out.t1.keep HK5.out
        have hT2 := HS.out.t2.keep HK5.out
        have u1 := Put.made hT1 (.slice bo bl bc) (.slice xo l1 xc)
        have hT2' := hT2.other u1.only (by omega)
        have u2 := Put.made hT2' (.slice do' dl dc) (.slice yo l2 yc)
        have hn := HS.out.next HK5.out HRA5.out NRA.out HRB5.out (NRB.out.mono HK3.out.size) hX0 hY0 LX.out LY.out u1 u2
        have HN := Lib.hid hn
        have k1 := hT1.c1; have k2 := hT2.c1; have k2' := hT2'.c1
        have f10 := hT1.free 0; have c10 := hT1.c0; have f11 := (hT1.set0 (.slice bo bl bc)).free 1; have c11 := (hT1.set0 (.slice bo bl bc)).c1
        have f20 := hT2'.free 0; have c20 := hT2'.c0; have f21 := (hT2'.set0 (.slice do' dl dc)).free 1; have c21 := (hT2'.set0 (.slice do' dl dc)).c1
        clear hT1 hT2 u1 hT2' u2 hn z1 z2 hX0 hY0 hz
        go_wp2_with fail
        go_region
        all_goals go_wp2_with fail
        go_roundg X
        case measure => exact HXL.out
        case rel => exact ⟨gk, D, Y, -σ, _, _, _, _, _, _, _, _, _, _, _, _, rfl, by rcases hσ with rfl | rfl <;> simp, HRN.out, HN.out.drewN 1⟩
    · have HWH := Lib.hid (FracN.ord_whole (a := A) (b := gk) (c := C) (d := D) (Nat.pos_of_ne_zero HS.out.b0) (Nat.pos_of_ne_zero HS.out.d0) h0)
      have HFR : Hid (σ * T = R) := by show _ = _; rw [hT, ← HWH.out]; exact HRR.out
      have hTc := ord_cases (A / gk) (C / D)
      have hTn : T ≠ 0 := by rw [hT]; exact FracN.ord_ne h0
      rw [← hT] at hTc
      clear hT h0
      rcases hσ with rfl | rfl <;> rcases hTc with rfl | rfl | rfl
      all_goals first
        | exact absurd rfl hTn
        | (clear hTn; go_wp2; go_ret; exact ⟨by rw [← HFR.out]; rfl, KALL.out⟩)
end Go.Proofs.YtgpochhndjadhaaGreatDoor
