/- The reference's greatest common divisor, by shifting and subtracting. Conditions: the slices hold the numbers that are named, of at most 1000 limbs. -/
import Derived.Test.YtfcpfmjoelhlnaaGreatDoorRTake
import Derived.Test.YtfcpfmjoelhlnaaGreatDoorNn
namespace Go.Proofs.YtfcpfmjoelhlnaaGreatDoor
open Go.RowKit LimbN

/-- A number in new memory. -/
structure Res (n : Nat) (w : World) (e : Ending) (w' : World) : Prop where
  ex : ∃ v, e = .returned v ∧ Sl w' v (limbs n) ∧ New w.heap.size v
  kp : Kp w w'
theorem low_lt {a i : Nat} (h0 : a ≠ 0) (h : Low a i) : i / 32 < (limbs a).length := by
  have h1 : 2 ^ i ≤ a := Nat.le_of_dvd (Nat.pos_of_ne_zero h0) h.1
  have h2 : a < 4294967296 ^ (limbs a).length := limbs_len_le.1 (Nat.le_refl _)
  rw [show (4294967296 : Nat) = 2 ^ 32 by rfl, ← Nat.pow_mul] at h2
  have h3 := (Nat.pow_lt_pow_iff_right (a := 2) (by omega)).1 (Nat.lt_of_le_of_lt h1 h2)
  omega
theorem low_ne {a i : Nat} (_h0 : a ≠ 0) (h : Low a i) : a / 2 ^ i ≠ 0 := by
  have h1 := h.2
  intro h2
  rw [h2] at h1
  simp at h1
/-- How the loop of the subtractions stands. -/
structure GSt (w wr : World) (x y : Value) (X Y : Nat) : Prop where
  ex : ∃ g1 o1 c1 g2 o2 c2, x = .slice (some ⟨g1, o1, none⟩) (limbs X).length c1 ∧ y = .slice (some ⟨g2, o2, none⟩) (limbs Y).length c2 ∧ Part wr g1 70 o1 (limbs X) ∧ Part wr g2 70 o2 (limbs Y) ∧ g1 ≠ g2 ∧
    w.heap.size ≤ g1 ∧ w.heap.size ≤ g2 ∧ (limbs X).length ≤ c1 ∧ c1 ≤ maxLen ∧ (limbs Y).length ≤ c2 ∧ c2 ≤ maxLen
  kp : Kp w wr
  ox : X % 2 = 1
  oy : Y % 2 = 1
  lx : (limbs X).length ≤ 1000
  ly : (limbs Y).length ≤ 1000
theorem GSt.slx {w wr : World} {x y : Value} {X Y : Nat} (h : GSt w wr x y X Y) : Sl wr x (limbs X) := by
  obtain ⟨⟨g1, o1, c1, g2, o2, c2, rfl, rfl, hp1, hp2, hne, hb1, hb2, h1, h2, h3, h4⟩, hk, _, _, hx, hy⟩ := h
  exact hp1.sl (Lt.limbs _) h1 h2 (by omega)
theorem GSt.sly {w wr : World} {x y : Value} {X Y : Nat} (h : GSt w wr x y X Y) : Sl wr y (limbs Y) := by
  obtain ⟨⟨g1, o1, c1, g2, o2, c2, rfl, rfl, hp1, hp2, hne, hb1, hb2, h1, h2, h3, h4⟩, hk, _, _, hx, hy⟩ := h
  exact hp2.sl (Lt.limbs _) h3 h4 (by omega)
theorem GSt.keep {w wr w' : World} {x y : Value} {X Y : Nat} (h : GSt w wr x y X Y) (k : Kp wr w') : GSt w w' x y X Y := by
  obtain ⟨⟨g1, o1, c1, g2, o2, c2, hx, hy, hp1, hp2, hr⟩, hk, h1, h2, h3, h4⟩ := h
  exact ⟨⟨g1, o1, c1, g2, o2, c2, hx, hy, hp1.keep k, hp2.keep k, hr⟩, Kp.trans hk k, h1, h2, h3, h4⟩
theorem GSt.swap {w wr : World} {x y : Value} {X Y : Nat} (h : GSt w wr x y X Y) : GSt w wr y x Y X := by
  obtain ⟨⟨g1, o1, c1, g2, o2, c2, hx, hy, hp1, hp2, hne, hb1, hb2, h1, h2, h3, h4⟩, hk, hox, hoy, hlx, hly⟩ := h
  exact ⟨⟨g2, o2, c2, g1, o1, c1, hy, hx, hp2, hp1, hne.symm, hb2, hb1, h3, h4, h1, h2⟩, hk, hoy, hox, hly, hlx⟩
/-- A step: x is what remains of X - Y. -/
structure GNext (w : World) (X Y : Nat) (yv : Value) (e : Ending) (w' : World) : Prop where
  ex : ∃ v Z, e = .returned v ∧ GSt w w' v yv Z Y ∧ Nat.gcd Z Y = Nat.gcd X Y ∧ Z < X
theorem limbs_le {m n : Nat} (h : m ≤ n) {k : Nat} (hk : (limbs n).length ≤ k) : (limbs m).length ≤ k := Nat.le_trans (limbs_mono h) hk
theorem min_pow (i k : Nat) {M : Nat} (hM : M = min i k) : 4294967296 ^ (M / 32) * 2 ^ (M % 32) = 2 ^ min i k := by
  rw [← hM, show (4294967296 : Nat) = 2 ^ 32 by rfl, ← Nat.pow_mul, ← Nat.pow_add, Nat.div_add_mod]
theorem val_unit (q d : Nat) : val ((List.replicate (q + 1) 0).set q d) = 4294967296 ^ q * d := by
  have e : ((List.replicate (q + 1) 0).set q d).take (q + 1) = (List.replicate (q + 1) 0).set q d := List.take_of_length_le (by simp)
  rw [← e, val_take_succ, List.take_set_of_le (Nat.le_refl _), getD_set _ _ _ _ (by simp), if_pos rfl]
  have : (List.replicate (q + 1) 0).take q = List.replicate q 0 := by simp
  rw [this, val_zeros, Nat.zero_add]

set_option maxRecDepth 100000 in
set_option maxHeartbeats 4000000 in
theorem Common_any {a b : Nat} {va vb : Value} {w : World} (ha : Sl w va (limbs a)) (hb : Sl w vb (limbs b)) (hla : (limbs a).length ≤ 1000) (hlb : (limbs b).length ≤ 1000) :
    Calls Tryz.prog 57 #[va, vb] w (Res (Nat.gcd a b) w) := by
  have FIN : Hid (∀ v w', Sl w' v (limbs (Nat.gcd a b)) → New w.heap.size v → Kp w w' → Res (Nat.gcd a b) w (.returned v) w') := fun v w' h1 h2 h3 => ⟨⟨v, rfl, h1, h2⟩, h3⟩
  obtain ⟨Q, hQ⟩ : ∃ Q, Q = Res (Nat.gcd a b) w := ⟨_, rfl⟩
  rw [← hQ] at FIN ⊢
  clear hQ
  have HA := Lib.hid ha; have HB := Lib.hid hb
  obtain ⟨⟨ao, ca, rfl, hca, hma, hat, hano⟩, -, -⟩ := ha
  obtain ⟨⟨bo, cb, rfl, hcb, hmb, hbt, hbno⟩, -, -⟩ := hb
  have LA := Lib.hid (limbs_len_zero (n := a)); have LB := Lib.hid (limbs_len_zero (n := b))
  obtain ⟨la, ela⟩ : ∃ la, la = (limbs a).length := ⟨_, rfl⟩
  obtain ⟨lb, elb⟩ : ∃ lb, lb = (limbs b).length := ⟨_, rfl⟩
  rw [← ela] at hca hla LA HA ⊢
  rw [← elb] at hcb hlb LB HB ⊢
  unfold maxLen at hma hmb
  have HAT := Lib.hid hat; have HBT := Lib.hid hbt; have HANO := Lib.hid hano; have HBNO := Lib.hid hbno; have ELA := Lib.hid ela; have ELB := Lib.hid elb
  clear hat hbt hano hbno ela elb
  go_enter Tryz.func57, Tryz.ntmps57
  go_wp2_with (at_builtin; refine wpList_app rfl (.const (.slice none 0 0)) (.tmp 10) 23 rfl Tryz.underlying23 w.heap.size _ 0 [] rfl (World.ownsRow_nil _ _ _ _) ao la ca (limbs a) rfl ELA.out.symm HAT.out HANO.out (by omega) (Nat.le_refl _) ?_)
  intro v1 w1 hown1 hgr1
  have HK1 : Hid (Kp w w1) := Kp.grown hgr1 (by simp [Value.ownBlock])
  have HOWN1 := Lib.hid hown1
  clear hown1 hgr1
  have HBT1 := Lib.hid (HBT.out.keep HK1.out)
  go_wp2_with (at_builtin; refine wpList_app rfl (.const (.slice none 0 0)) (.tmp 12) 23 rfl Tryz.underlying23 w1.heap.size _ 0 [] rfl (World.ownsRow_nil _ _ _ _) bo lb cb (limbs b) rfl ELB.out.symm HBT1.out HBNO.out (by omega) (Nat.le_refl _) ?_)
  intro v2 w2 hown2 hgr2
  have HK12 : Hid (Kp w1 w2) := Kp.grown hgr2 (by simp [Value.ownBlock])
  have HK2 := Lib.hid (Kp.trans HK1.out HK12.out)
  have HOWN2 := Lib.hid hown2
  clear hown2 hgr2
  by_cases ha0 : la = 0
  · subst ha0
    have hgcd : Nat.gcd a b = b := by rw [LA.out.1 rfl, Nat.gcd_zero_left]
    have hs2 := sl_of_owns (zs := limbs b) HOWN2.out (Lt.limbs _) (by have := ELB.out; omega)
    have FIN2 := Lib.hid (FIN.out v2 w2 (by rw [hgcd]; exact hs2.1) (hs2.2.mono HK1.out.size) HK2.out)
    clear hs2 hgcd
    go_wp2
    (try go_ret)
    exact FIN2.out
  have hla0 : ((la : Int) == 0) = false := beq_eq_false_iff_ne.2 (by omega)
  by_cases hb0 : lb = 0
  · subst hb0
    have hgcd : Nat.gcd a b = a := by rw [LB.out.1 rfl, Nat.gcd_zero_right]
    have hs1 := sl_of_owns (zs := limbs a) HOWN1.out (Lt.limbs _) (by have := ELA.out; omega)
    have FIN2 := Lib.hid (FIN.out v1 w2 (by rw [hgcd]; exact hs1.1.keep HK12.out) hs1.2 HK2.out)
    clear hs1 hgcd
    go_wp2
    (try go_ret)
    exact FIN2.out
  have hlb0 : ((lb : Int) == 0) = false := beq_eq_false_iff_ne.2 (by omega)
  have AN : Hid (a ≠ 0) := fun h => ha0 (LA.out.2 h)
  have BN : Hid (b ≠ 0) := fun h => hb0 (LB.out.2 h)
  obtain ⟨g1, c1, rfl, hb1, hc1, hm1, hp1⟩ := Part.of_owns (zs := limbs a) HOWN1.out (by omega)
  obtain ⟨g2, c2, rfl, hb2, hc2, hm2, hp2⟩ := Part.of_owns (zs := limbs b) HOWN2.out (by omega)
  have hne : g1 ≠ g2 := by have := hp1.lt; omega
  have hb2' : w.heap.size ≤ g2 := Nat.le_trans HK1.out.size hb2
  have hp1' := hp1.keep HK12.out
  have hs1 := hp1'.sl (Lt.limbs a) hc1 hm1 (by have := ELA.out; omega)
  have hs2 := hp2.sl (Lt.limbs b) hc2 hm2 (by have := ELB.out; omega)
  have HS1 := Lib.hid hs1; have HS2 := Lib.hid hs2; have HP1 := Lib.hid hp1'; have HP2 := Lib.hid hp2
  rw [← ELA.out] at HS1 hc1 ⊢
  rw [← ELB.out] at HS2 hc2 ⊢
  unfold maxLen at hm1 hm2
  clear hp1 hp2 hp1' hs1 hs2 HOWN1 HOWN2
  go_wp2_with fail
  refine (zeros_any HS1.out (by rw [val_limbs]; exact AN.out) (by have := ELA.out; omega)).mono ?_
  rintro e w3 ⟨⟨i, rfl, hi⟩, hw3⟩
  obtain rfl := hw3.symm
  rw [val_limbs] at hi
  have HI := Lib.hid hi; have hi32 := low_lt AN.out hi; clear hi
  rw [← ELA.out] at hi32
  go_wp2_with fail
  refine (zeros_any HS2.out (by rw [val_limbs]; exact BN.out) (by have := ELB.out; omega)).mono ?_
  rintro e w3 ⟨⟨k, rfl, hk⟩, hw3⟩
  obtain rfl := hw3.symm
  rw [val_limbs] at hk
  have HKK := Lib.hid hk; have hk32 := low_lt BN.out hk; clear hk
  rw [← ELB.out] at hk32
  have hda := down_any (cap := c1) HP1.out (Lt.limbs a) (by rw [← ELA.out]; exact hc1) (by unfold maxLen; omega) (by rw [← ELA.out]; omega) (i / 32) (i % 32) (by rw [← ELA.out]; exact hi32) (Nat.mod_lt _ (by omega)) i (Nat.div_add_mod i 32).symm
  rw [val_limbs, ← ELA.out] at hda
  have HDA := Lib.hid hda; clear hda
  go_wp2_with fail
  refine HDA.out.mono ?_
  rintro e w4 ⟨⟨o1, d1, rfl, hp14, hl1, hd1⟩, ho4⟩
  have hp24 := HP2.out.other ho4 hne.symm
  have HK4 := Lib.hid (Only.kp HK2.out ho4 hb1)
  have HP14 := Lib.hid hp14; have HL1 := Lib.hid hl1
  have hdb := down_any (cap := c2) hp24 (Lt.limbs b) (by rw [← ELB.out]; exact hc2) (by unfold maxLen; omega) (by rw [← ELB.out]; omega) (k / 32) (k % 32) (by rw [← ELB.out]; exact hk32) (Nat.mod_lt _ (by omega)) k (Nat.div_add_mod k 32).symm
  rw [val_limbs, ← ELB.out] at hdb
  have HDB := Lib.hid hdb; clear hdb hp14 hp24 hl1 ho4
  obtain ⟨l1, el1⟩ : ∃ l1, l1 = (limbs (a / 2 ^ i)).length := ⟨_, rfl⟩
  rw [← el1] at HL1 ⊢
  have EL1 := Lib.hid el1; clear el1
  go_wp2_with fail
  refine HDB.out.mono ?_
  rintro e w5 ⟨⟨o2, d2, rfl, hp25, hl2, hd2⟩, ho5⟩
  have hp15 := HP14.out.other ho5 hne
  have ST0 : Hid (GSt w w5 (.slice (some ⟨g1, o1, none⟩) l1 d1) (.slice (some ⟨g2, o2, none⟩) (limbs (b / 2 ^ k)).length d2) (a / 2 ^ i) (b / 2 ^ k)) :=
    ⟨⟨g1, o1, d1, g2, o2, d2, by rw [EL1.out], rfl, hp15, hp25, hne, hb1, hb2', by have := HL1.out; have := EL1.out; omega, by unfold maxLen; omega, hl2, by unfold maxLen; omega⟩, Only.kp HK4.out ho5 hb2',
      HI.out.2, HKK.out.2, limbs_le (Nat.div_le_self _ _) (by have := ELA.out; omega), limbs_le (Nat.div_le_self _ _) (by have := ELB.out; omega)⟩
  have G0 : Hid (Nat.gcd (a / 2 ^ i) (b / 2 ^ k) * 2 ^ min i k = Nat.gcd a b) := gcd_twos HI.out.1 HKK.out.1 HI.out.2 HKK.out.2
  obtain ⟨l2, el2⟩ : ∃ l2, l2 = (limbs (b / 2 ^ k)).length := ⟨_, rfl⟩
  rw [← el2] at ST0 ⊢
  clear hp25 hl2 ho5 hp15 el2
  have hib : i < 32000 := by omega
  have hkb : k < 32000 := by omega
  go_wp2_with fail
  go_loopw [5, 6] (fun x y wr => ∃ X Y : Nat, GSt w wr x y X Y ∧ Nat.gcd X Y = Nat.gcd (a / 2 ^ i) (b / 2 ^ k)) (fun x y wr => digs wr x + digs wr y)
  case atStart => exact ⟨_, _, ST0.out, rfl⟩
  case round =>
    obtain ⟨X, Y, hst, hg⟩ := hrel
    rename World => wr
    have hsx := hst.slx; have hsy := hst.sly
    obtain ⟨⟨gx, ox, cx, gy, oy, cy, rfl, rfl, hpx, hpy, hne', hbx, hby, hcx, hmx, hcy, hmy⟩, hkr, hox, hoy, hlx, hly⟩ := hst
    have HDX := Lib.hid ((digs_eq hsx).trans (val_limbs X)); have HDY := Lib.hid ((digs_eq hsy).trans (val_limbs Y))
    have HSX := Lib.hid hsx; have HSY := Lib.hid hsy; have HG := Lib.hid hg; have HPX := Lib.hid hpx; have HPY := Lib.hid hpy; have HNE := Lib.hid hne'; have HBx := Lib.hid hbx; have HBy := Lib.hid hby; have HCx := Lib.hid hcx; have HCy := Lib.hid hcy; have HMx := Lib.hid hmx; have HMy := Lib.hid hmy; have HKR := Lib.hid hkr; have Ox := Lib.hid hox; have Oy := Lib.hid hoy; have HLx := Lib.hid hlx; have HLy := Lib.hid hly
    clear hsx hsy hg hpx hpy hne' hbx hby hcx hcy hmx hmy hkr hox hoy hlx hly
    have HOFx : Hid (Off gx (.slice (some ⟨gy, oy, none⟩) (limbs Y).length cy) (limbs Y)) := by intro _ u l c e; simp only [Value.slice.injEq, Option.some.injEq] at e; rw [← e.1]; exact HNE.out.symm
    have HOFy : Hid (Off gy (.slice (some ⟨gx, ox, none⟩) (limbs X).length cx) (limbs X)) := by intro _ u l c e; simp only [Value.slice.injEq, Option.some.injEq] at e; rw [← e.1]; exact HNE.out
    go_wp2_with fail
    refine (order_any HSX.out HSY.out).mono ?_
    rintro e w6 ⟨rfl, hd6⟩
    have HK6 := Lib.hid hd6.kp
    have HSX6 := Lib.hid (HSX.out.keep HK6.out); have HSY6 := Lib.hid (HSY.out.keep HK6.out)
    clear hd6
    rw [cmp_val]
    by_cases hxy : X < Y
    · rw [if_pos hxy]
      go_wp2_with fail
      refine (order_any HSX6.out HSY6.out).mono ?_
      rintro e w7 ⟨rfl, hd7⟩
      have HK67 := Lib.hid (Kp.trans HK6.out hd7.kp)
      have HK7 := Lib.hid (Kp.trans HKR.out HK67.out); have HSx7 := Lib.hid (HSX.out.keep HK67.out); have HSy7 := Lib.hid (HSY.out.keep HK67.out); have HPx7 := Lib.hid (HPX.out.keep HK67.out); have HPy7 := Lib.hid (HPY.out.keep HK67.out)
      clear hd7
      rw [cmp_val, if_pos hxy]
      have hlt : X < Y := hxy
      clear hxy
      have hsub := take_any HPy7.out (Lt.limbs Y) HCy.out HMy.out HLy.out HSx7.out HOFy.out (limbs_mono (Nat.le_of_lt hlt)) (by rw [val_limbs, val_limbs]; exact Nat.le_of_lt hlt)
      rw [val_limbs, val_limbs] at hsub
      have HSUB := Lib.hid hsub; clear hsub
      have NZ : Hid (Y - X ≠ 0) := by show _ ≠ _; omega
      have LT := Lib.hid hlt; clear hlt
      go_wp2_with fail
      refine HSUB.out.mono ?_
      rintro e w8 ⟨⟨p8, d8, rfl, hp8, hl8, hd8⟩, ho8⟩
      have hs8 := hp8.sl (Lt.limbs _) hl8 (Nat.le_trans hd8 HMy.out) (by have := limbs_le (Nat.sub_le Y X) HLy.out; omega)
      have HP8 := Lib.hid hp8; have HL8 := Lib.hid hl8; have HD8 := Lib.hid (Nat.le_trans hd8 HMy.out); have HS8 := Lib.hid hs8; have HPY8 := Lib.hid (HPx7.out.other ho8 HNE.out); have HK8 := Lib.hid (Only.kp HK7.out ho8 HBy.out)
      clear hp8 hl8 hd8 ho8 hs8
      have E8 := Lib.hid (rfl : (limbs (Y - X)).length = (limbs (Y - X)).length)
      go_wp2_with fail
      refine (zeros_any HS8.out (by rw [val_limbs]; exact NZ.out) (limbs_le (Nat.sub_le Y X) HLy.out)).mono ?_
      rintro e w9 ⟨⟨z, rfl, hz⟩, hw9⟩
      obtain rfl := hw9.symm
      rw [val_limbs] at hz
      have hdn := down_any HP8.out (Lt.limbs _) HL8.out HD8.out (Nat.le_trans (limbs_le (Nat.sub_le Y X) HLy.out) (by omega)) (z / 32) (z % 32) (low_lt NZ.out hz) (Nat.mod_lt _ (by omega)) z (Nat.div_add_mod z 32).symm
      rw [val_limbs] at hdn
      have HDN := Lib.hid hdn; have HZ := Lib.hid hz; clear hdn hz
      go_wp2_with fail
      refine HDN.out.mono ?_
      rintro e w10 ⟨⟨p10, d10, rfl, hp10, hl10, hd10⟩, ho10⟩
      have hpy10 := HPY8.out.other ho10 HNE.out
      have hs10 := hp10.sl (Lt.limbs _) hl10 (Nat.le_trans hd10 HD8.out) (by have := limbs_le (Nat.le_trans (Nat.div_le_self (Y - X) (2 ^ z)) (Nat.sub_le Y X)) HLy.out; omega)
      have hsy10 := hpy10.sl (Lt.limbs _) HCx.out HMx.out (by have := HLx.out; omega)
      have hdx := (digs_eq hs10).trans (val_limbs _)
      have hdy := (digs_eq hsy10).trans (val_limbs _)
      have NX : Hid (GSt w w10 (.slice (some ⟨gy, p10, none⟩) (limbs ((Y - X) / 2 ^ z)).length d10) (.slice (some ⟨gx, ox, none⟩) (limbs X).length cx) ((Y - X) / 2 ^ z) X) := ⟨⟨gy, p10, d10, gx, ox, cx, rfl, rfl, hp10, hpy10, HNE.out.symm, HBy.out, HBx.out, hl10, Nat.le_trans hd10 HD8.out, HCx.out, HMx.out⟩, Only.kp HK8.out ho10 HBy.out, HZ.out.2, Ox.out, limbs_le (Nat.le_trans (Nat.div_le_self _ _) (Nat.sub_le _ _)) HLy.out, HLx.out⟩
      have GX : Hid (Nat.gcd ((Y - X) / 2 ^ z) X = Nat.gcd (a / 2 ^ i) (b / 2 ^ k)) := by show _ = _; rw [gcd_shift Ox.out HZ.out.1, gcd_sub_le (Nat.le_of_lt LT.out), Nat.gcd_comm]; exact HG.out
      have MS : Hid (digs w10 (.slice (some ⟨gy, p10, none⟩) (limbs ((Y - X) / 2 ^ z)).length d10) + digs w10 (.slice (some ⟨gx, ox, none⟩) (limbs X).length cx) < digs wr (.slice (some ⟨gx, ox, none⟩) (limbs X).length cx) + digs wr (.slice (some ⟨gy, oy, none⟩) (limbs Y).length cy)) := by
        show _ < _
        rw [hdx, hdy, HDX.out, HDY.out]
        have h1 := Nat.div_le_self (Y - X) (2 ^ z)
        have h2 := LT.out
        have h3 : 0 < X := by have := Ox.out; omega
        omega
      clear hp10 hl10 hd10 ho10 hpy10 hs10 hsy10 hdx hdy
      go_wp2
      go_roundw
      case rel => exact ⟨_, _, NX.out, GX.out⟩
      case measure => exact MS.out
    · by_cases hyx : Y < X
      · rw [if_neg hxy, if_pos hyx]
        go_wp2_with fail
        refine (order_any HSX6.out HSY6.out).mono ?_
        rintro e w7 ⟨rfl, hd7⟩
        have HK67 := Lib.hid (Kp.trans HK6.out hd7.kp)
        have HK7 := Lib.hid (Kp.trans HKR.out HK67.out); have HSx7 := Lib.hid (HSX.out.keep HK67.out); have HSy7 := Lib.hid (HSY.out.keep HK67.out); have HPx7 := Lib.hid (HPX.out.keep HK67.out); have HPy7 := Lib.hid (HPY.out.keep HK67.out)
        clear hd7
        rw [cmp_val, if_neg hxy, if_pos hyx]
        have hlt : Y < X := hyx
        clear hxy hyx
        have hsub := take_any HPx7.out (Lt.limbs X) HCx.out HMx.out HLx.out HSy7.out HOFx.out (limbs_mono (Nat.le_of_lt hlt)) (by rw [val_limbs, val_limbs]; exact Nat.le_of_lt hlt)
        rw [val_limbs, val_limbs] at hsub
        have HSUB := Lib.hid hsub; clear hsub
        have NZ : Hid (X - Y ≠ 0) := by show _ ≠ _; omega
        have LT := Lib.hid hlt; clear hlt
        go_wp2_with fail
        refine HSUB.out.mono ?_
        rintro e w8 ⟨⟨p8, d8, rfl, hp8, hl8, hd8⟩, ho8⟩
        have hs8 := hp8.sl (Lt.limbs _) hl8 (Nat.le_trans hd8 HMx.out) (by have := limbs_le (Nat.sub_le X Y) HLx.out; omega)
        have HP8 := Lib.hid hp8; have HL8 := Lib.hid hl8; have HD8 := Lib.hid (Nat.le_trans hd8 HMx.out); have HS8 := Lib.hid hs8; have HPY8 := Lib.hid (HPy7.out.other ho8 HNE.out.symm); have HK8 := Lib.hid (Only.kp HK7.out ho8 HBx.out)
        clear hp8 hl8 hd8 ho8 hs8
        have E8 := Lib.hid (rfl : (limbs (X - Y)).length = (limbs (X - Y)).length)
        go_wp2_with fail
        refine (zeros_any HS8.out (by rw [val_limbs]; exact NZ.out) (limbs_le (Nat.sub_le X Y) HLx.out)).mono ?_
        rintro e w9 ⟨⟨z, rfl, hz⟩, hw9⟩
        obtain rfl := hw9.symm
        rw [val_limbs] at hz
        have hdn := down_any HP8.out (Lt.limbs _) HL8.out HD8.out (Nat.le_trans (limbs_le (Nat.sub_le X Y) HLx.out) (by omega)) (z / 32) (z % 32) (low_lt NZ.out hz) (Nat.mod_lt _ (by omega)) z (Nat.div_add_mod z 32).symm
        rw [val_limbs] at hdn
        have HDN := Lib.hid hdn; have HZ := Lib.hid hz; clear hdn hz
        go_wp2_with fail
        refine HDN.out.mono ?_
        rintro e w10 ⟨⟨p10, d10, rfl, hp10, hl10, hd10⟩, ho10⟩
        have hpy10 := HPY8.out.other ho10 HNE.out.symm
        have hs10 := hp10.sl (Lt.limbs _) hl10 (Nat.le_trans hd10 HD8.out) (by have := limbs_le (Nat.le_trans (Nat.div_le_self (X - Y) (2 ^ z)) (Nat.sub_le X Y)) HLx.out; omega)
        have hsy10 := hpy10.sl (Lt.limbs _) HCy.out HMy.out (by have := HLy.out; omega)
        have hdx := (digs_eq hs10).trans (val_limbs _)
        have hdy := (digs_eq hsy10).trans (val_limbs _)
        have NX : Hid (GSt w w10 (.slice (some ⟨gx, p10, none⟩) (limbs ((X - Y) / 2 ^ z)).length d10) (.slice (some ⟨gy, oy, none⟩) (limbs Y).length cy) ((X - Y) / 2 ^ z) Y) := ⟨⟨gx, p10, d10, gy, oy, cy, rfl, rfl, hp10, hpy10, HNE.out, HBx.out, HBy.out, hl10, Nat.le_trans hd10 HD8.out, HCy.out, HMy.out⟩, Only.kp HK8.out ho10 HBx.out, HZ.out.2, Oy.out, limbs_le (Nat.le_trans (Nat.div_le_self _ _) (Nat.sub_le _ _)) HLx.out, HLy.out⟩
        have GX : Hid (Nat.gcd ((X - Y) / 2 ^ z) Y = Nat.gcd (a / 2 ^ i) (b / 2 ^ k)) := by show _ = _; rw [gcd_shift Oy.out HZ.out.1, gcd_sub_le (Nat.le_of_lt LT.out)]; exact HG.out
        have MS : Hid (digs w10 (.slice (some ⟨gx, p10, none⟩) (limbs ((X - Y) / 2 ^ z)).length d10) + digs w10 (.slice (some ⟨gy, oy, none⟩) (limbs Y).length cy) < digs wr (.slice (some ⟨gx, ox, none⟩) (limbs X).length cx) + digs wr (.slice (some ⟨gy, oy, none⟩) (limbs Y).length cy)) := by
          show _ < _
          rw [hdx, hdy, HDX.out, HDY.out]
          have h1 := Nat.div_le_self (X - Y) (2 ^ z)
          have h2 := LT.out
          have h3 : 0 < Y := by have := Oy.out; omega
          omega
        clear hp10 hl10 hd10 ho10 hpy10 hs10 hsy10 hdx hdy
        go_wp2
        go_roundw
        case rel => exact ⟨_, _, NX.out, GX.out⟩
        case measure => exact MS.out
      · rw [if_neg hxy, if_neg hyx]
        obtain rfl : X = Y := by omega
        have hgx : X = Nat.gcd (a / 2 ^ i) (b / 2 ^ k) := (Nat.gcd_self X).symm.trans HG.out
        have G1 : Hid (X * 2 ^ min i k = Nat.gcd a b) := by show _ = _; rw [hgx]; exact G0.out
        have HPX6 := Lib.hid (HPX.out.keep HK6.out); have HKR6 := Lib.hid (Kp.trans HKR.out HK6.out)
        obtain ⟨M, eM⟩ : ∃ M, M = min i k := ⟨_, rfl⟩
        have hmn : min (i : Int) (k : Int) = (M : Int) := by omega
        have hMb : M < 32000 := by omega
        obtain ⟨q, eq⟩ : ∃ q, q = M / 32 := ⟨_, rfl⟩
        obtain ⟨r, er⟩ : ∃ r, r = M % 32 := ⟨_, rfl⟩
        have hr32 : r < 32 := by omega
        have hq1 : (M : Int) / 32 = (q : Int) := by omega
        have hr1 : (M : Int) % 32 = (r : Int) := by omega
        have hp2 := pow_lt32 hr32
        have VU : Hid (val ((List.replicate (q + 1) 0).set q (2 ^ r)) = 2 ^ min i k) := by show _ = _; rw [val_unit, eq, er, min_pow i k eM]
        have hqb : q ≤ 1000 := by omega
        have hpi : ((2 : Int) ^ r) = ((2 ^ r : Nat) : Int) := by rw [Int.natCast_pow]; rfl
        have hpi1 : (0 : Int) ≤ (2 : Int) ^ r := by rw [hpi]; exact Int.natCast_nonneg _
        have hpi2 : (2 : Int) ^ r ≤ 2147483648 := by rw [hpi]; omega
        have HPI := Lib.hid hpi; have HXL := Lib.hid (rfl : (limbs X).length = (limbs X).length)
        clear hxy hyx hgx eM eq er hpi
        go_wp2_with (at_make; refine wpList_mk rfl (.tmp 53) (.tmp 53) 23 rfl Tryz.underlying23 _ (q + 1) rfl rfl (by omega) (by omega) ?_)
        intro w7 hrow hk7
        have hcellq := hrow.cell q (by simp)
        have hfreeq : w7.frozen? ⟨w6.heap.size, q, none⟩ = false := hrow.free _
        have HROW := Lib.hid hrow; have HK7 := Lib.hid hk7; have HSX7 := Lib.hid (HSX6.out.keep hk7)
        obtain ⟨zq, ezq⟩ : ∃ zq, zq = (List.replicate (q + 1) 0)[q]?.getD 0 := ⟨_, rfl⟩
        rw [← ezq] at hcellq
        clear hrow hk7 ezq
        have hr8 := HROW.out.set' q (2 ^ r) _ HPI.out
        have ho8 : Only w6.heap.size w7 (w7.setCell ⟨w6.heap.size, q, none⟩ (.int .u32 ((2 : Int) ^ r))) := (Only.refl _ _).set _ _
        have hs8 := hr8.sl ((Lt.replicate _).set _ _ (by omega)) (by simp; omega)
        have hx8 := HSX7.out.only ho8 (HSX6.out.off (Nat.le_refl _))
        rw [List.length_set, List.length_replicate] at hs8
        have HS8 := Lib.hid hs8; have HX8 := Lib.hid hx8; have HK8 := Lib.hid (Only.kp (Kp.trans HKR6.out HK7.out) ho8 HKR6.out.size)
        obtain ⟨w8, ew8⟩ : ∃ w8, w8 = w7.setCell ⟨w6.heap.size, q, none⟩ (.int .u32 ((2 : Int) ^ r)) := ⟨_, rfl⟩
        rw [← ew8] at HS8 HX8 HK8
        have EW := Lib.hid ew8.symm
        clear hr8 ho8 hs8 hx8 ew8
        go_wp2_with fail
        rw [EW.out]
        refine (Times_any HX8.out HS8.out (by have := HLx.out; omega) (by simp; omega)).mono ?_
        rintro e w9 ⟨v9, rfl, hs9, hn9, hk9⟩
        rw [VU.out, val_limbs, G1.out] at hs9
        have FIN2 := Lib.hid (FIN.out v9 w9 hs9 (hn9.mono HK8.out.size) (Kp.trans HK8.out hk9))
        clear hs9 hn9 hk9
        go_wp2
        (try go_ret)
        exact FIN2.out
end Go.Proofs.YtfcpfmjoelhlnaaGreatDoor
