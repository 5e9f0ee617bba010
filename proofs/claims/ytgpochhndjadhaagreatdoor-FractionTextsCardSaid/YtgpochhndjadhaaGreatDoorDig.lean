/- The program's digit of a quotient: a guess by the top limbs, repaired. Conditions: the slices hold the digits that are named; the window is below 2^32 times the divisor. -/
import Derived.Test.YtgpochhndjadhaaGreatDoorShift
namespace Go.Proofs.YtgpochhndjadhaaGreatDoor
open Go.RowKit LimbN

/-- A digit of a quotient; the remainder stays in the window. -/
structure Taken (zs : List Nat) (o k D g : Nat) (t : TypeId) (w : World) (e : Ending) (w' : World) : Prop where
  ex : ∃ (q : Nat) (zr : List Nat), e = .returned (.int .u32 q) ∧ q < 4294967296 ∧ DigRel zs o k D q zr ∧ Row w' g t zr
  only : Only g w w'
/-- How the loop of the repair stands. -/
structure DigLoop (zs : List Nat) (o k D g : Nat) (t : TypeId) (w wr : World) (b : Bool) (G : Nat) (zr : List Nat) : Prop where
  st : DigSt (seg zs o k) D (4294967296 ^ k) G (seg zr o k) b
  len : zr.length = zs.length
  lt : Lt zr
  other : ∀ i : Nat, i < o ∨ o + k ≤ i → zr[i]?.getD 0 = zs[i]?.getD 0
  row : Row wr g t zr
  only : Only g w wr
theorem top_two {zs : List Nat} {o m : Nat} (h : Lt zs) : seg zs o (m + 2) = seg zs o m + 4294967296 ^ m * (zs[o + m]?.getD 0 + 4294967296 * zs[o + (m + 1)]?.getD 0) ∧ seg zs o m < 4294967296 ^ m := by
  refine ⟨?_, seg_lt h o m⟩
  rw [seg_succ, seg_succ, Nat.pow_succ, Nat.mul_add, Nat.mul_assoc]; omega
theorem top_one {ys : List Nat} {m : Nat} (h : Lt ys) (hl : ys.length = m + 1) : val ys = val (ys.take m) + 4294967296 ^ m * ys[m]?.getD 0 ∧ val (ys.take m) < 4294967296 ^ m := by
  constructor
  · have := val_take_succ ys m
    rwa [List.take_of_length_le (by omega)] at this
  · have := val_lt (h.take m)
    rwa [List.length_take, Nat.min_eq_left (by omega)] at this
set_option maxRecDepth 100000 in
set_option maxHeartbeats 2000000 in
theorem takeDigit_any (g o m capr : Nat) (t : TypeId) (zs ys : List Nat) (vd : Value) (w : World) (hrow : Row w g t zs) (hzs : Lt zs) (hfit : o + (m + 2) ≤ zs.length) (hzl : zs.length ≤ 1000)
    (hd : Sl w vd ys) (hoff : Off g vd ys) (hyl : ys.length = m + 1) (htop : 0 < ys[m]?.getD 0) (hlt : seg zs o (m + 2) < 4294967296 * val ys) :
    Calls Tryz.prog 146 #[.slice (some ⟨g, o, none⟩) (m + 2) capr, vd] w (Taken zs o (m + 2) (val ys) g t w) := by
  have FIN : Hid (∀ e w' (q : Nat) zr, e = .returned (.int .u32 (q : Int)) → q < 4294967296 → DigRel zs o (m + 2) (val ys) q zr → Row w' g t zr → Only g w w' → Taken zs o (m + 2) (val ys) g t w e w') := fun e w' q zr h1 h2 h3 h4 h5 => ⟨⟨q, zr, h1, h2, h3, h4⟩, h5⟩
  obtain ⟨Q, hQ⟩ : ∃ Q, Q = Taken zs o (m + 2) (val ys) g t w := ⟨_, rfl⟩
  rw [← hQ] at FIN ⊢
  clear hQ
  have HD := Lib.hid hd
  obtain ⟨⟨bo, cb, rfl, hcb, hcm, hat, _⟩, hys, _⟩ := hd
  unfold maxLen at hcm
  obtain ⟨e1, e2⟩ := top_two (o := o) (m := m) hzs
  obtain ⟨e3, e4⟩ := top_one hys hyl
  obtain ⟨b, off, rfl, hcy⟩ := hat.cells (by omega)
  have hcd := hcy m (by omega)
  have hc0 := hrow.cell (o + m) (by omega)
  have hc1 := hrow.cell (o + (m + 1)) (by omega)
  have hb0 := hzs (o + m)
  have hb1 := hzs (o + (m + 1))
  have hbd := hys m
  have hDb : val ys < 4294967296 ^ (m + 1) := by have := val_lt hys; rwa [hyl] at this
  rw [hyl] at hcb HD hoff ⊢
  obtain ⟨x0, ex0⟩ : ∃ x, x = zs[o + m]?.getD 0 := ⟨_, rfl⟩
  obtain ⟨x1, ex1⟩ : ∃ x, x = zs[o + (m + 1)]?.getD 0 := ⟨_, rfl⟩
  obtain ⟨dt, edt⟩ : ∃ x, x = ys[m]?.getD 0 := ⟨_, rfl⟩
  rw [← ex0] at hc0 hb0 e1
  rw [← ex1] at hc1 hb1 e1
  rw [← edt] at hcd hbd htop e3
  obtain ⟨tp, etp⟩ : ∃ x, x = x0 + 4294967296 * x1 := ⟨_, rfl⟩
  rw [← etp] at e1
  have htpb : tp < 18446744073709551616 := by omega
  have hor : bits .or .u64 ((x1 : Int) * 4294967296) (x0 : Int) = (tp : Int) := by rw [or_u64 hb0 hb1, etp]
  have hge := guess_ge (B := 4294967296) hlt e1 e2 e3 htop
  obtain ⟨q0, eq0⟩ : ∃ x, x = tp / dt := ⟨_, rfl⟩
  rw [← eq0] at hge
  have hq0 : (tp : Int) / (dt : Int) = (q0 : Int) := by rw [eq0]; simp
  have hq0b : q0 ≤ tp := by rw [eq0]; exact Nat.div_le_self _ _
  obtain ⟨G, eG⟩ : ∃ x, x = min q0 4294967295 := ⟨_, rfl⟩
  have hGm : min (q0 : Int) 4294967295 = (G : Int) := by omega
  have hGb : G < 4294967296 := by omega
  have hGge : seg zs o (m + 2) / val ys ≤ G := by rw [eG]; omega
  have hDpos : 0 < val ys := by
    have := Nat.mul_pos (show 0 < 4294967296 ^ m from Nat.pow_pos (by omega)) htop
    omega
  have hGD : G * val ys < 4294967296 ^ (m + 2) := by
    have h1 : G * val ys ≤ 4294967295 * val ys := Nat.mul_le_mul_right _ (by omega)
    rw [Nat.pow_succ]; omega
  have hdi : (1 : Int) ≤ (dt : Int) := by omega
  have hdz : ((dt : Int) == 0) = false := beq_eq_false_iff_ne.2 (by omega)
  have HROW := Lib.hid hrow; have HZS := Lib.hid hzs; have HOFF := Lib.hid hoff; have HYL := Lib.hid hyl; have HLT := Lib.hid hlt; have HYS := Lib.hid hys
  have HGGE := Lib.hid hGge; have HDP := Lib.hid hDpos; have HGD := Lib.hid hGD; have HDB := Lib.hid hDb
  clear hrow hzs hoff hyl hlt hys hge hGge hDpos hGD e1 e2 e3 e4 eG eq0 etp ex0 ex1 edt hat hcy hDb
  go_enter Tryz.func146, Tryz.ntmps146
  go_wp2_with fail
  all_goals (try go_quiet (fail))
  all_goals (try go_wp2_with fail)
  refine (subtractFrom_any g o (m + 2) capr G t zs ys _ _ (HROW.out.drewN _) HZS.out hfit (by unfold maxLen; omega) (HD.out.keep (Kp.drewN _ _)) HOFF.out (by have := HYL.out; omega) hGb).mono ?_
  rintro e w1 ⟨zr, c, rfl, hsub, hrow1, ho1⟩
  have hst := dig_start hsub.sum (seg_lt hsub.lt _ _) HGD.out HGGE.out HDP.out
  have ST : Hid (DigLoop zs o (m + 2) (val ys) g t w w1 (!(decide (c = 0))) G zr) := ⟨hst, hsub.len, hsub.lt, hsub.other, hrow1, ((Only.refl g w).drewN _).trans ho1⟩
  obtain ⟨b0, hb0'⟩ : ∃ b0, b0 = (!(decide (c = 0))) := ⟨_, rfl⟩
  rw [← hb0'] at ST ⊢
  clear hst hsub hrow1 ho1 hb0'
  go_wp2_with fail
  go_loopw [8, 7] (fun neg gv wr => ∃ (b : Bool) (G : Nat) (zr : List Nat), neg = .bool b ∧ gv = .int .u32 G ∧ G < 4294967296 ∧ DigLoop zs o (m + 2) (val ys) g t w wr b G zr) (fun _ gv _ => (intOf gv).toNat)
  case atStart => exact ⟨b0, G, zr, rfl, rfl, hGb, ST.out⟩
  case round =>
    obtain ⟨b1, G1, zr1, rfl, rfl, hG1, hl⟩ := hrel
    rename World => wr
    cases b1 with
    | false =>
      have hend := dig_end hl.st
      have FIN2 : Hid (Q (.returned (.int .u32 (G1 : Int))) wr) := FIN.out _ _ G1 zr1 rfl hG1 ⟨hl.len, hl.lt, hl.other, hend.1, hend.2⟩ hl.row hl.only
      clear hl hend
      go_wp2
      (try go_ret)
      exact FIN2.out
    | true =>
      have HL := Lib.hid hl; clear hl
      have hdw : Sl wr (.slice (some ⟨b, off, none⟩) (m + 1) cb) ys := HD.out.only HL.out.only HOFF.out
      have HDW := Lib.hid hdw; clear hdw
      go_wp2_with fail
      refine (addTo_any g o (m + 2) capr t zr1 ys _ wr HL.out.row HL.out.lt (by have := HL.out.len; omega) (by unfold maxLen; omega) HDW.out HOFF.out (by have := HYL.out; omega)).mono ?_
      rintro e w2 ⟨zr2, c2, rfl, hadd, hc2, hrow2, ho2⟩
      obtain ⟨hgp, hst2⟩ := dig_step HL.out.st hadd.sum (seg_lt hadd.lt _ _) hc2
      have ST2 : Hid (DigLoop zs o (m + 2) (val ys) g t w w2 (!(!(decide (c2 = 0)))) (G1 - 1) zr2) := ⟨hst2, hadd.len.trans HL.out.len, hadd.lt, fun i hi => (hadd.other i hi).trans (HL.out.other i hi), hrow2, HL.out.only.trans ho2⟩
      obtain ⟨b2, hb2⟩ : ∃ b2, b2 = (!(decide (c2 = 0))) := ⟨_, rfl⟩
      rw [← hb2] at ST2 ⊢
      clear hst2 hadd hrow2 ho2 hb2
      go_wp2
      go_roundw
      case rel => exact ⟨!b2, G1 - 1, zr2, rfl, vint (by omega), by omega, ST2.out⟩
      case measure => simp [intOf]; omega
end Go.Proofs.YtgpochhndjadhaaGreatDoor
