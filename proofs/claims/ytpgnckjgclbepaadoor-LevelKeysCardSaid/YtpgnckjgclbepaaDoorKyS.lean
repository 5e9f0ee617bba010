/- The library's insertion sort at keys. Conditions: the keys lie in a row of the call's own; Compare answers the order. -/
import Derived.Test.YtpgnckjgclbepaaDoorKyR
namespace Go.Proofs.YtpgnckjgclbepaaDoor
namespace By
open Go.RowKit WireN LexN RevN KeyN
set_option linter.unusedVariables false
set_option linter.unusedSimpArgs false

/-- What Compare answers. -/
def CmpAns : Prop := ∀ (x y : Ky), KyOk x → KyOk y → ∀ W : World, Calls Tryd.prog 36 #[.agg #[.int .i64 x.1, .string (st x.2.1), .string (st x.2.2)], .agg #[.int .i64 y.1, .string (st y.2.1), .string (st y.2.2)]] W fun e w' => e = .returned (.int .i64 (cpk x y)) ∧ Kp W w'
set_option maxRecDepth 100000 in
set_option maxHeartbeats 4000000 in
theorem insertionSort_k {w : World} {g n cap : Nat} {ks : List Ky} (hC : CmpAns) (hr : RK w g ks) (hn : ks.length = n) (hcap : n ≤ cap) (hn2 : n ≤ 1000) (hok : ∀ x ∈ ks, KyOk x) :
    Calls Tryd.prog 66 #[.slice (some ⟨g, 0, none⟩) n cap, .int .i64 0, .int .i64 (n : Nat), .func (.func 36) #[] #[]] w fun e w' => e = .returned (.tuple #[]) ∧ ∃ ys, ys.length = n ∧ (∀ y, y ∈ ys ↔ y ∈ ks) ∧ SrtK ys n ∧ RK w' g ys ∧ Gr g w w' := by
  have HC := Lib.hid hC; have HR := Lib.hid hr; have HOK := Lib.hid hok; have HN := Lib.hid hn
  have hci : (n : Int) ≤ (cap : Int) := by omega
  have hni : (n : Int) ≤ 1000 := by omega
  clear hC hr hok hn hcap
  go_enter Tryd.func66, Tryd.ntmps66
  go_wp2_with fail
  go_loopw [8] (fun v wr => ∃ (i : Nat) (ys : List Ky), v = .int .i64 (i : Nat) ∧ 1 ≤ i ∧ i ≤ n + 1 ∧ ys.length = n ∧ (∀ y, y ∈ ys ↔ y ∈ ks) ∧ SrtK ys (min i n) ∧ RK wr g ys ∧ Gr g w wr) (fun v _ => n + 1 - (intOf v).toNat)
  case atStart => exact ⟨1, ks, rfl, Nat.le_refl _, by omega, HN.out, fun _ => Iff.rfl, fun a b h1 h2 => by omega, HR.out, Gr.refl _ _⟩
  case round =>
    obtain ⟨i, ys, rfl, hi1, hi, hlen, hmem, hsrt, hrk, hgr⟩ := hrel
    rename World => wx
    have HMEM := Lib.hid hmem; have HSRT := Lib.hid hsrt; have HRK := Lib.hid hrk; have HGR := Lib.hid hgr; have HLEN := Lib.hid hlen
    clear hmem hsrt hrk hgr hlen
    by_cases hin : i < n
    · have hii : (i : Int) < (n : Int) := by omega
      go_wp2_with fail
      go_loopw [9] (fun v wr => ∃ (j : Nat) (zs : List Ky), v = .int .i64 (j : Nat) ∧ j ≤ i ∧ zs.length = n ∧ (∀ y, y ∈ zs ↔ y ∈ ks) ∧ InvK zs i j ∧ RK wr g zs ∧ Gr g w wr) (fun v _ => (intOf v).toNat)
      case atStart => exact ⟨i, ys, rfl, Nat.le_refl _, HLEN.out, HMEM.out, InvK.start (by have := HSRT.out; rwa [Nat.min_eq_left (by omega)] at this), HRK.out, HGR.out⟩
      case round =>
        obtain ⟨j, zs, rfl, hj, hlen, hmem, hinv, hrk, hgr⟩ := hrel
        rename World => wy
        have HMEM2 := Lib.hid hmem; have HINV := Lib.hid hinv; have HRK2 := Lib.hid hrk; have HGR2 := Lib.hid hgr; have HLEN2 := Lib.hid hlen
        clear hmem hinv hrk hgr hlen
        by_cases hj0 : 0 < j
        · obtain ⟨m, rfl⟩ : ∃ m, j = m + 1 := ⟨j - 1, by omega⟩
          have i1 : (m : Int) < (n : Int) := by omega
          have i2 : (m : Int) + 1 < (n : Int) := by omega
          have i3 : (0 : Int) < (m : Int) + 1 := by omega
          have i4 : (m : Int) < 1000 := by omega
          have i5 : (0 : Int) ≤ (m : Int) + 1 := by omega
          have hw : IntKind.i64.wrap (m : Int) = (m : Int) := by simp [IntKind.wrap, IntKind.bits, IntKind.signed]; omega
          clear hj0
          obtain ⟨x, hx⟩ : ∃ x, x = ga zs (m + 1) := ⟨_, rfl⟩
          obtain ⟨y, hy⟩ : ∃ y, y = ga zs m := ⟨_, rfl⟩
          have HX := Lib.hid hx; have HY := Lib.hid hy
          have hxk : KyOk x := HOK.out x ((HMEM2.out x).1 (by rw [hx]; exact ga_mem (by have := HLEN2.out; omega)))
          have hyk : KyOk y := HOK.out y ((HMEM2.out y).1 (by rw [hy]; exact ga_mem (by have := HLEN2.out; omega)))
          have FACT : Hid (∀ W, Kp wy W → K3 W g ((m + 1) * 3) x ∧ K3 W g (m * 3) y ∧ RK W g zs) := Lib.hid (fun W hk => by
            have hr := HRK2.out.keep hk
            exact ⟨by rw [hx]; exact hr.cell (ga_get (by have := HLEN2.out; omega)), by rw [hy]; exact hr.cell (ga_get (by have := HLEN2.out; omega)), hr⟩)
          have HCC := Lib.hid (HC.out x y hxk hyk)
          have HLT := Lib.hid (cpk_lt x y)
          obtain ⟨c, hc⟩ : ∃ c, c = cpk x y := ⟨_, rfl⟩
          rw [← hc] at HCC HLT
          obtain ⟨x1, x2, x3⟩ := x
          obtain ⟨y1, y2, y3⟩ := y
          obtain ⟨S2, hS2⟩ : ∃ S, S = st x2 := ⟨_, rfl⟩
          obtain ⟨S3, hS3⟩ : ∃ S, S = st x3 := ⟨_, rfl⟩
          obtain ⟨T2, hT2⟩ : ∃ S, S = st y2 := ⟨_, rfl⟩
          obtain ⟨T3, hT3⟩ : ∃ S, S = st y3 := ⟨_, rfl⟩
          have CELL : Hid (∀ W, Kp wy W → (W.cell? ⟨g, (m + 1) * 3, none⟩ = some (.int .i64 x1) ∧ W.cell? ⟨g, (m + 1) * 3 + 1, none⟩ = some (.string S2) ∧ W.cell? ⟨g, (m + 1) * 3 + 2, none⟩ = some (.string S3)) ∧ (W.cell? ⟨g, m * 3, none⟩ = some (.int .i64 y1) ∧ W.cell? ⟨g, m * 3 + 1, none⟩ = some (.string T2) ∧ W.cell? ⟨g, m * 3 + 2, none⟩ = some (.string T3))) := Lib.hid (fun W hk => by
            obtain ⟨a, b, -⟩ := FACT.out W hk
            rw [hS2, hS3, hT2, hT3]
            exact ⟨a, b⟩)
          simp only [← hS2, ← hS3, ← hT2, ← hT3] at HCC
          have HS2 := Lib.hid hS2; have HS3 := Lib.hid hS3; have HT2 := Lib.hid hT2; have HT3 := Lib.hid hT3
          have HCE := Lib.hid hc
          clear hx hy hxk hyk hc hS2 hS3 hT2 hT3
          go_wp2_with fail
          go_region_held3 (fun w' => (w'.cell? ⟨g, (m + 1) * 3, none⟩ = some (.int .i64 x1) ∧ w'.cell? ⟨g, (m + 1) * 3 + 1, none⟩ = some (.string S2) ∧ w'.cell? ⟨g, (m + 1) * 3 + 2, none⟩ = some (.string S3)) ∧ (w'.cell? ⟨g, m * 3, none⟩ = some (.int .i64 y1) ∧ w'.cell? ⟨g, m * 3 + 1, none⟩ = some (.string T2) ∧ w'.cell? ⟨g, m * 3 + 2, none⟩ = some (.string T3)))
            (first
              | exact CELL.out _ (Kp.refl _)
              | exact CELL.out _ (kp_drew _)
              | exact CELL.out _ hk2
              | fail "no keep")
            (first
              | (go_at_call 36; refine (HCC.out _).mono ?_; rintro e w2 ⟨rfl, hk2'⟩; have hk2 := Kp.trans (kp_drew wy) hk2')
              | fail "no arm")
          have HK2 := Lib.hid hk2
          have CE := CELL.out w2 hk2
          have CD := CELL.out w2.drew (Kp.trans hk2 (kp_drew w2))
          clear hk2 hk2'
          by_cases hlt : c < 0
          · have HLT2 : Hid (lk (ga zs (m + 1)) (ga zs m) = true) := Lib.hid (by rw [← HX.out, ← HY.out, ← HLT.out]; exact decide_eq_true hlt)
            obtain ⟨⟨a0, a1, a2⟩, b0, b1, b2⟩ := CE
            obtain ⟨⟨p0, p1, p2⟩, q0, q1, q2⟩ := CD
            have FR : ∀ i, w2.frozen? ⟨g, i, none⟩ = false := fun i => (FACT.out w2 HK2.out).2.2.free i
            have f0 := FR ((m + 1) * 3); have f1 := FR ((m + 1) * 3 + 1); have f2 := FR ((m + 1) * 3 + 2)
            have g0 := FR (m * 3); have g1 := FR (m * 3 + 1); have g2 := FR (m * 3 + 2)
            clear FR
            go_wp2_with fail
            go_region
            obtain ⟨w3, hw3⟩ : ∃ w3, w3 = (((w2.setCell ⟨g, (m + 1) * 3, none⟩ (.int .i64 y1)).setCell ⟨g, (m + 1) * 3 + 1, none⟩ (.string T2)).setCell ⟨g, (m + 1) * 3 + 2, none⟩ (.string T3)) := ⟨_, rfl⟩
            rw [← hw3]
            obtain ⟨w4, hw4⟩ : ∃ w4, w4 = (((w3.setCell ⟨g, m * 3, none⟩ (.int .i64 x1)).setCell ⟨g, m * 3 + 1, none⟩ (.string S2)).setCell ⟨g, m * 3 + 2, none⟩ (.string S3)) := ⟨_, rfl⟩
            rw [← hw4]
            have h2 := (FACT.out w2 HK2.out).2.2
            have h3 : RK w3 g (zs.set (m + 1) (y1, y2, y3)) := by rw [hw3, HT2.out, HT3.out]; exact h2.put (i := m + 1) (by have := HLEN2.out; omega) (y1, y2, y3)
            have o3 : Only g w2 w3 := by rw [hw3, HT2.out, HT3.out]; exact RK.only (m + 1) (y1, y2, y3)
            have h4 : RK w4 g ((zs.set (m + 1) (y1, y2, y3)).set m (x1, x2, x3)) := by rw [hw4, HS2.out, HS3.out]; exact h3.put (i := m) (by rw [List.length_set]; have := HLEN2.out; omega) (x1, x2, x3)
            have o4 : Only g w3 w4 := by rw [hw4, HS2.out, HS3.out]; exact RK.only m (x1, x2, x3)
            have e4 : (zs.set (m + 1) (y1, y2, y3)).set m (x1, x2, x3) = swK zs (m + 1) := by unfold swK; rw [show m + 1 - 1 = m from rfl, ← HX.out, ← HY.out]
            rw [e4] at h4
            have NX : Hid ((swK zs (m + 1)).length = n ∧ (∀ y, y ∈ swK zs (m + 1) ↔ y ∈ ks) ∧ InvK (swK zs (m + 1)) i m ∧ RK w4.drew g (swK zs (m + 1)) ∧ Gr g w w4.drew) := Lib.hid
              ⟨by rw [swK_len]; exact HLEN2.out, fun y => by rw [swK_mem (by omega) (by have := HLEN2.out; omega)]; exact HMEM2.out y, HINV.out.swap (by omega) (by have := HLEN2.out; omega) hj HLT2.out, h4.keep (kp_drew _), (((HGR2.out.trans (HK2.out.gr g)).trans (Only.gr o3)).trans (Only.gr o4)).trans ((kp_drew _).gr g)⟩
            clear h2 h3 o3 h4 o4 e4 hw3 hw4 a0 a1 a2 b0 b1 b2 p0 p1 p2 q0 q1 q2 f0 f1 f2 g0 g1 g2
            go_wp2_with fail
            go_roundw
            case rel => exact ⟨m, _, rfl, by omega, NX.out⟩
            case measure => simp [intOf]
          · have HLT2 : Hid (lk (ga zs (m + 1)) (ga zs m) = false) := Lib.hid (by rw [← HX.out, ← HY.out, ← HLT.out]; exact decide_eq_false hlt)
            have hlt' : (0 : Int) ≤ c := by omega
            have NX : Hid (SrtK zs (min (i + 1) n) ∧ RK w2 g zs ∧ Gr g w w2) := Lib.hid ⟨by
              rw [Nat.min_eq_left (by omega)]
              exact HINV.out.stop (.inr HLT2.out), HRK2.out.keep HK2.out, HGR2.out.trans (HK2.out.gr g)⟩
            clear CE CD hlt
            go_wp2_with fail
            go_roundw
            case rel => exact ⟨i + 1, zs, by go_num, by omega, by omega, HLEN2.out, HMEM2.out, NX.out⟩
            case measure => simp [intOf]; omega
        · obtain rfl : j = 0 := by omega
          have NX : Hid (SrtK zs (min (i + 1) n) ∧ RK wy.drew g zs ∧ Gr g w wy.drew) := Lib.hid ⟨by
            rw [Nat.min_eq_left (by omega)]
            exact HINV.out.stop (.inl rfl), HRK2.out.keep (kp_drew _), HGR2.out.trans ((kp_drew _).gr g)⟩
          clear hj0
          go_wp2_with fail
          go_region
          go_wp2_with fail
          go_roundw
          case rel => exact ⟨i + 1, zs, by go_num, by omega, by omega, HLEN2.out, HMEM2.out, NX.out⟩
          case measure => simp [intOf]; omega
    · have hii : (n : Int) ≤ (i : Int) := by omega
      have NX : Hid (SrtK ys n) := Lib.hid (by have := HSRT.out; rwa [Nat.min_eq_right (by omega)] at this)
      go_wp2_with fail
      go_end0
      exact ⟨rfl, ys, HLEN.out, HMEM.out, NX.out, HRK.out, HGR.out⟩
end By
end Go.Proofs.YtpgnckjgclbepaaDoor
