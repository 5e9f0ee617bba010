/- Contracts of the reference's shift up and of its digit of a quotient, whose estimate is right or one too many. Conditions: the slices hold the digits that are named. -/
import Derived.Test.YtfcpfmjoelhlnaaGreatDoorRDv
import Derived.Test.YtfcpfmjoelhlnaaGreatDoorDig
namespace Go.Proofs.YtfcpfmjoelhlnaaGreatDoor
open Go.RowKit LimbN

/-- The row of a number that is shifted up, after k digits. -/
structure UpRel (xs : List Nat) (s k : Nat) (zr : List Nat) : Prop where
  len : zr.length = xs.length + 1
  lt : Lt zr
  zero : ∀ i : Nat, k < i → zr[i]?.getD 0 = 0
  top : zr[k]?.getD 0 < 2 ^ s
  sum : val (zr.take (k + 1)) = val (xs.take k) * 2 ^ s
theorem UpRel.start (xs : List Nat) (s : Nat) : UpRel xs s 0 (List.replicate (xs.length + 1) 0) := by
  have h0 : ∀ i : Nat, (List.replicate (xs.length + 1) 0)[i]?.getD 0 = 0 := fun i => by rw [List.getElem?_replicate]; split <;> rfl
  refine ⟨by simp, Lt.replicate _, fun i _ => h0 i, by rw [h0]; exact Nat.pow_pos (by omega), ?_⟩
  rw [val_take_succ, h0]; simp [val]
theorem UpRel.step {xs zr : List Nat} {s k t : Nat} (h : UpRel xs s k zr) (hs : s < 32) (hk : k < xs.length) (hx : Lt xs) (ht : t = xs[k]?.getD 0 * 2 ^ s) :
    zr[k]?.getD 0 + t % 4294967296 < 4294967296 ∧ t / 4294967296 < 2 ^ s ∧ UpRel xs s (k + 1) ((zr.set k (zr[k]?.getD 0 + t % 4294967296)).set (k + 1) (t / 4294967296)) := by
  have hp := pow_lt32 hs
  have e32 := pow32 hs
  have htop := h.top
  have hb : zr[k]?.getD 0 + t % 4294967296 < 4294967296 := by
    have h1 : t % 4294967296 = 2 ^ s * (xs[k]?.getD 0 % 2 ^ (32 - s)) := by rw [ht, Nat.mul_comm, ← e32, Nat.mul_mod_mul_left]
    have h2 : xs[k]?.getD 0 % 2 ^ (32 - s) + 1 ≤ 2 ^ (32 - s) := Nat.mod_lt _ (Nat.pow_pos (by omega))
    have h3 := Nat.mul_le_mul_left (2 ^ s) h2
    rw [e32, Nat.mul_add, ← h1] at h3
    omega
  have hq : t / 4294967296 < 2 ^ s := by
    rw [Nat.div_lt_iff_lt_mul (by omega), ht, Nat.mul_comm]
    exact Nat.mul_lt_mul_of_pos_left (hx k) hp.1
  have hl := h.len
  refine ⟨hb, hq, by simpa using hl, (h.lt.set _ _ hb).set _ _ (by omega), fun i hi => ?_, ?_, ?_⟩
  · rw [getD_set _ _ _ _ (by simp; omega), if_neg (by omega), getD_set _ _ _ _ (by omega), if_neg (by omega)]
    exact h.zero i (by omega)
  · rw [getD_set _ _ _ _ (by simp; omega), if_pos rfl]; exact hq
  · have e1 : ((zr.set k (zr[k]?.getD 0 + t % 4294967296)).set (k + 1) (t / 4294967296)).take (k + 1) = (zr.set k (zr[k]?.getD 0 + t % 4294967296)).take (k + 1) := List.take_set_of_le (Nat.le_refl _)
    have e2 : (zr.set k (zr[k]?.getD 0 + t % 4294967296)).take k = zr.take k := List.take_set_of_le (Nat.le_refl _)
    rw [val_take_succ, e1, getD_set _ _ _ _ (by simp; omega), if_pos rfl, val_take_succ, e2, getD_set _ _ _ _ (by omega), if_pos rfl, val_take_succ xs]
    have hsum := h.sum
    rw [val_take_succ] at hsum
    rw [Nat.add_mul, ← hsum, Nat.pow_succ, Nat.mul_assoc, Nat.mul_assoc, ← ht]
    have e3 : 4294967296 ^ k * t = 4294967296 ^ k * (t % 4294967296 + 4294967296 * (t / 4294967296)) := by rw [Nat.mod_add_div]
    rw [Nat.mul_add] at e3 ⊢
    omega
theorem or_low {z t s : Nat} (hs : s < 32) (hz : z < 2 ^ s) (hd : t % 2 ^ s = 0) (ht : t < 4294967296) : bits .or .u32 (z : Int) (t : Int) = ((z + t : Nat) : Int) := by
  have hp := pow_lt32 hs
  rw [u32_or_nat _ _ (by omega) ht]
  congr 1
  obtain ⟨m, rfl⟩ := Nat.dvd_of_mod_eq_zero hd
  have := Nat.shiftLeft_add_eq_or_of_lt hz m
  rw [Nat.shiftLeft_eq] at this
  rw [Nat.or_comm, Nat.mul_comm, ← this, Nat.add_comm]
theorem mod_low {x s : Nat} (hs : s < 32) : (x * 2 ^ s % 4294967296) % 2 ^ s = 0 := by
  have e32 := pow32 hs
  rw [Nat.mul_comm, ← e32, Nat.mul_mod_mul_left, Nat.mul_mod_right]
set_option maxRecDepth 100000 in
set_option maxHeartbeats 1000000 in
theorem up_any {xs : List Nat} {va : Value} {w : World} (ha : Sl w va xs) (hlen : xs.length ≤ 1000) (s : Nat) (hs : s < 32) :
    Calls Tryz.prog 108 #[va, .int .i64 s] w (Shifted xs s w) := by
  have HSA := Lib.hid ha
  obtain ⟨⟨ao, ca, rfl, hca, hma, hat, _⟩, hxs, _⟩ := ha
  unfold maxLen at hma
  have FIN : Hid (∀ e w', (∃ zr, e = .returned (.slice (some ⟨w.heap.size, 0, none⟩) (xs.length + 1) (xs.length + 1)) ∧ Row w' w.heap.size 70 zr ∧ Lt zr ∧ zr.length = xs.length + 1 ∧ val zr = val xs * 2 ^ s ∧ zr[xs.length]?.getD 0 < 2 ^ s) → Kp w w' → Shifted xs s w e w') := fun e w' h k => ⟨h, k⟩
  obtain ⟨Q, hQ⟩ : ∃ Q, Q = Shifted xs s w := ⟨_, rfl⟩
  rw [← hQ] at FIN ⊢
  clear hQ
  obtain ⟨la, hla⟩ : ∃ la, la = xs.length := ⟨_, rfl⟩
  rw [← hla] at hca hlen HSA FIN
  rw [← hla]
  have hsp := pow_lt32 hs
  have HLA := Lib.hid hla; have HAT := Lib.hid hat; have HXS := Lib.hid hxs
  clear hla hat hxs
  go_enter Tryz.func108, Tryz.ntmps108
  go_wp2_with (at_make; refine wpList_mk rfl (.tmp 10) (.tmp 10) 23 rfl Tryz.underlying23 _ (la + 1) rfl rfl rfl (by omega) ?_)
  intro w1 hrow hk1
  have HROW := Lib.hid hrow; have HK1 := Lib.hid hk1
  clear hrow hk1
  go_wp2_with fail
  go_loopw [6] (fun i wr => ∃ (k : Nat) (zr : List Nat), k ≤ la ∧ i = .int .i64 k ∧ UpRel xs s k zr ∧ Row wr w.heap.size 70 zr ∧ Only w.heap.size w1 wr) (fun i _ => la - (intOf i).toNat)
  case atStart => exact ⟨0, _, by omega, rfl, by have := UpRel.start xs s; rwa [← HLA.out] at this, HROW.out, Only.refl _ _⟩
  case round =>
    obtain ⟨k, zr, hk, rfl, hrel', hrow, honly⟩ := hrel
    have HKR : Hid (Kp w wr) := Only.kp HK1.out honly (Nat.le_refl _)
    have hzl : zr.length = la + 1 := by rw [hrel'.len, HLA.out]
    have HREL := Lib.hid hrel'; have HROW2 := Lib.hid hrow; have HON := Lib.hid honly
    clear hrel' hrow honly
    by_cases hlt : k < la
    · obtain ⟨b, off, rfl, hcx⟩ := (HAT.out.keep HKR.out).cells (by have := HLA.out; omega)
      have hcell := hcx k (by have := HLA.out; omega)
      have hxb := HXS.out k
      clear hcx
      have hst := HREL.out.step hs (by have := HLA.out; omega) HXS.out (t := xs[k]?.getD 0 * 2 ^ s) rfl
      obtain ⟨x, ex⟩ : ∃ x, x = xs[k]?.getD 0 := ⟨_, rfl⟩
      rw [← ex] at hcell hxb hst
      clear ex
      have hcz := HROW2.out.cell k (by omega)
      have hfree : wr.frozen? ⟨w.heap.size, k, none⟩ = false := HROW2.out.free _
      have hcz1 := HROW2.out.cell (k + 1) (by omega)
      have hfree1 : wr.frozen? ⟨w.heap.size, k + 1, none⟩ = false := HROW2.out.free _
      have hzt := HREL.out.top
      obtain ⟨z, ez⟩ : ∃ z, z = zr[k]?.getD 0 := ⟨_, rfl⟩
      rw [← ez] at hcz hst hzt
      obtain ⟨z1, ez1⟩ : ∃ z, z = zr[k + 1]?.getD 0 := ⟨_, rfl⟩
      rw [← ez1] at hcz1
      clear ez ez1
      have hmx : x * 2 ^ s ≤ 4294967295 * 2 ^ s := Nat.mul_le_mul_right _ (by omega)
      obtain ⟨t, ht⟩ : ∃ t, t = x * 2 ^ s := ⟨_, rfl⟩
      have hsh : (x : Int) * 2 ^ s = (t : Int) := by rw [ht, Int.natCast_mul, Int.natCast_pow]; rfl
      have hml := mod_low (x := x) hs
      rw [← ht] at hst hmx hml
      have htb : t < 18446744073709551616 := by omega
      have hor := or_low hs hzt hml (by omega)
      have hor2 : bits .or .u32 (z : Int) ((t : Int) % 4294967296) = ((z + t % 4294967296 : Nat) : Int) := by rw [← hor]; congr 1
      have HST := Lib.hid hst
      have hs1 := hst.1; have hs2 := hst.2.1
      clear hst hor hml hmx ht hzt
      go_wp2
      go_roundw
      case rel => exact ⟨k + 1, _, by omega, vint (by omega), HST.out.2.2, (HROW2.out.set' _ _ _ (by first | rfl | exact hor2)).set' _ _ _ (by omega), (HON.out.set _ _).set _ _⟩
      case measure => simp [intOf]; omega
    · have hkl : k = la := by omega
      subst hkl
      have hsum := HREL.out.sum
      rw [List.take_of_length_le (by omega), List.take_of_length_le (by have := HLA.out; omega)] at hsum
      have FIN2 := Lib.hid (FIN.out _ wr ⟨zr, rfl, HROW2.out, HREL.out.lt, hzl, hsum, HREL.out.top⟩ HKR.out)
      clear hsum
      go_wp2
      (try go_ret)
      exact FIN2.out

theorem mask32 (n : Nat) (hn : n < 18446744073709551616) : bits .and .u64 (n : Int) 4294967295 = ((n % 4294967296 : Nat) : Int) := by
  have h := u64_and_nat n 4294967295 hn (by omega)
  rw [show ((4294967295 : Nat) : Int) = 4294967295 by rfl] at h
  rw [h]
  congr 1
  exact Nat.and_two_pow_sub_one_eq_mod n 32

/-- How the subtraction of the digit's product stands. -/
structure PlSt (zs ys : List Nat) (o d k c b g : Nat) (t : TypeId) (w wr : World) (zr : List Nat) : Prop where
  cb : c < 4294967296
  bb : b ≤ 1
  rel : SubRel zs o k (c + b) d (val (ys.take k)) zr
  row : Row wr g t zr
  only : Only g w wr
/-- How the divisor's addition stands. -/
structure PaSt (zs ys : List Nat) (o k c g : Nat) (t : TypeId) (w wr : World) (zr : List Nat) : Prop where
  cb : c ≤ 1
  rel : AddRel zs o k c (val (ys.take k)) zr
  row : Row wr g t zr
  only : Only g w wr
theorem put_back {D P R S z c x X : Nat} (_hP : 0 < P) (_hD : D < P) (hR : 0 < D) (hS : S + D = R % D + 4294967296 * P) (e : S = X + P * z) (hz : z < 4294967296) (hc : c ≤ 1) (ha : x + P * c = X + D) (hx : x < P) :
    z + c = 4294967296 ∧ x = R % D := by
  have h1 := Nat.mod_lt R hR
  have h2 : x + P * (z + c) = R % D + 4294967296 * P := by rw [Nat.mul_add]; omega
  have h3 : 4294967296 ≤ z + c := by
    rcases Nat.lt_or_ge (z + c) 4294967296 with h | h
    · exfalso
      have := Nat.mul_le_mul_left P (show z + c + 1 ≤ 4294967296 from h)
      rw [Nat.mul_add] at this
      omega
    · exact h
  have h4 : z + c = 4294967296 := by omega
  rw [h4] at h2
  exact ⟨h4, by omega⟩
theorem place_done {zs ys zr zr2 : List Nat} {o n d c z2 : Nat} (hsub : SubRel zs o (n + 1) 1 d (val ys) zr) (hq : d = seg zs o (n + 1) / val ys + 1) (hS : seg zr o (n + 1) + val ys = seg zs o (n + 1) % val ys + 4294967296 ^ (n + 1))
    (hD : 0 < val ys) (hDb : val ys < 4294967296 ^ n) (hfit : o + (n + 1) ≤ zs.length) (ha : AddRel zr o n c (val ys) zr2) (hc : c ≤ 1) (hz : z2 = zr2[o + n]?.getD 0) :
    (z2 + c) % 4294967296 = 0 ∧ DigRel zs o (n + 1) (val ys) (d - 1) (zr2.set (o + n) 0) := by
  have hl : zr2.length = zs.length := ha.len.trans hsub.len
  have e2 := ha.other (o + n) (by omega)
  have hsg := seg_succ zr o n
  rw [← e2, ← hz] at hsg
  have hzb : z2 < 4294967296 := by rw [hz]; exact ha.lt _
  obtain ⟨h1, h2⟩ := put_back (Nat.pow_pos (by omega)) hDb hD (by rw [hS, Nat.pow_succ, Nat.mul_comm (4294967296 ^ n)]) hsg hzb hc ha.sum (seg_lt ha.lt _ _)
  refine ⟨by rw [h1], by rw [List.length_set]; exact hl, ha.lt.set _ _ (by omega), fun i hi => ?_, by rw [hq, Nat.add_sub_cancel], ?_⟩
  · rw [getD_set _ _ _ _ (by omega), if_neg (by omega), ha.other i (by omega)]
    exact hsub.other i hi
  · rw [seg_succ, getD_set _ _ _ _ (by omega), if_pos rfl, Nat.mul_zero, Nat.add_zero, ← h2]
    exact seg_congr n (fun i _ h3 => by rw [getD_set _ _ _ _ (by omega), if_neg (by omega)])
set_option maxRecDepth 100000 in
set_option maxHeartbeats 4000000 in
theorem place_any (g o n N d capr : Nat) (t : TypeId) (zs ys : List Nat) (vv : Value) (w : World) (hrow : Row w g t zs) (hzs : Lt zs) (hN : zs.length = N) (hNb : N ≤ 2000) (hfit : o + (n + 1) ≤ zs.length)
    (hv : Sl w vv ys) (hoff : Off g vv ys) (hyl : ys.length = n) (hd : d < 4294967296) (hD : 0 < val ys) (hq1 : seg zs o (n + 1) / val ys ≤ d) (hq2 : d ≤ seg zs o (n + 1) / val ys + 1) :
    Calls Tryz.prog 109 #[.slice (some ⟨g, 0, none⟩) N capr, vv, .int .i64 o, .int .u64 d] w (Taken zs o (n + 1) (val ys) g t w) := by
  have FIN : Hid (∀ e w' (q : Nat) zr, e = .returned (.int .u32 (q : Int)) → q < 4294967296 → DigRel zs o (n + 1) (val ys) q zr → Row w' g t zr → Only g w w' → Taken zs o (n + 1) (val ys) g t w e w') := fun e w' q zr h1 h2 h3 h4 h5 => ⟨⟨q, zr, h1, h2, h3, h4⟩, h5⟩
  obtain ⟨Q, hQ⟩ : ∃ Q, Q = Taken zs o (n + 1) (val ys) g t w := ⟨_, rfl⟩
  rw [← hQ] at FIN ⊢
  clear hQ
  obtain ⟨⟨bo, cb, rfl, hcb, hcm, hat, _⟩, hys, _⟩ := hv
  unfold maxLen at hcm
  have hDb : val ys < 4294967296 ^ n := by have := val_lt hys; rwa [hyl] at this
  have hdp : d * val ys ≤ seg zs o (n + 1) + 4294967296 ^ (n + 1) := by
    have h1 : d * val ys ≤ (seg zs o (n + 1) / val ys + 1) * val ys := Nat.mul_le_mul_right _ hq2
    have h2 := Nat.div_mul_le_self (seg zs o (n + 1)) (val ys)
    rw [Nat.succ_mul] at h1
    rw [Nat.pow_succ]
    omega
  rw [hyl] at hcb hoff ⊢
  rw [hN] at hfit
  have hnb : n ≤ 2000 := by omega
  have HROW := Lib.hid hrow; have HZS := Lib.hid hzs; have HAT := Lib.hid hat; have HYS := Lib.hid hys; have HOFF := Lib.hid hoff; have HN := Lib.hid hN; have HYL := Lib.hid hyl
  have HD := Lib.hid hD; have HQ1 := Lib.hid hq1; have HQ2 := Lib.hid hq2; have HDB := Lib.hid hDb; have HDP := Lib.hid hdp
  clear hrow hzs hat hys hoff hN hyl hD hq1 hq2 hDb hdp
  go_enter Tryz.func109, Tryz.ntmps109
  go_wp2_with fail
  go_loopw [9, 10, 11] (fun cv bv i wr => ∃ (k c b : Nat) (zr : List Nat), k ≤ n ∧ i = .int .i64 k ∧ cv = .int .u64 c ∧ bv = .int .u64 b ∧ PlSt zs ys o d k c b g t w wr zr) (fun _ _ i _ => n - (intOf i).toNat)
  case atStart => exact ⟨0, 0, 0, zs, Nat.zero_le _, rfl, rfl, rfl, by omega, by omega, by simpa [val] using SubRel.start zs o d HZS.out, HROW.out, Only.refl _ _⟩
  case round =>
    obtain ⟨k, c, b, zr, hk, rfl, rfl, rfl, hst⟩ := hrel
    rename World => wr
    have hcb' := hst.cb; have hbb := hst.bb
    have hzl : zr.length = N := by rw [hst.rel.len, HN.out]
    by_cases hlt : k < n
    · obtain ⟨bl, off, rfl, hcy⟩ := HAT.out.cells (by have := HYL.out; omega)
      have hnil : ys ≠ [] := fun h => by have := HYL.out; rw [h] at this; simp at this; omega
      have hcelly : wr.cell? ⟨bl, off + k, none⟩ = some (.int .u32 (ys[k]?.getD 0 : Nat)) := (World.cell?_of_block (hst.only.block bl (HOFF.out hnil _ _ _ rfl))).trans (hcy k (by have := HYL.out; omega))
      have hyb := HYS.out k
      have hcell := hst.row.cell (k + o) (by omega)
      have hfree : wr.frozen? ⟨g, k + o, none⟩ = false := hst.row.free _
      have hzb := hst.rel.lt (k + o)
      obtain ⟨y, ey⟩ : ∃ y, y = ys[k]?.getD 0 := ⟨_, rfl⟩
      rw [← ey] at hcelly hyb
      obtain ⟨z, ez⟩ : ∃ z, z = zr[k + o]?.getD 0 := ⟨_, rfl⟩
      rw [← ez] at hcell hzb
      have EY := Lib.hid ey; have EZ := Lib.hid ez; have ST := Lib.hid hst
      clear ey ez hst hcy hnil
      have hm := mul_small hd hyb
      have hm0 : (0 : Int) ≤ (d : Int) * (y : Int) := by rw [← Int.natCast_mul]; exact Int.natCast_nonneg _
      have hm1 : (d : Int) * (y : Int) ≤ 18446744065119617025 := by rw [← Int.natCast_mul]; omega
      have hmk := mask32 (c + d * y) (by omega)
      rw [Int.natCast_add, Int.natCast_mul] at hmk
      obtain ⟨cm, ecm⟩ : ∃ cm, cm = (c + d * y) % 4294967296 := ⟨_, rfl⟩
      rw [← ecm] at hmk
      have hcmb : cm < 4294967296 := by omega
      obtain ⟨E, hE⟩ : ∃ E : Nat, E = c + d * y := ⟨_, rfl⟩
      have ECM : Hid (cm = E % 4294967296) := by rw [hE]; exact ecm
      have HE := Lib.hid hE
      clear ecm hE
      by_cases hz : z < cm + b
      · have ND : Hid (PlSt zs ys o d (k + 1) (E / 4294967296) 1 g t w (wr.setCell ⟨g, k + o, none⟩ (.int .u32 ((z + 4294967296 - (cm + b) : Nat) : Int))) (zr.set (k + o) (z + 4294967296 - (cm + b)))) := by
          refine ⟨?_, by omega, ?_, ST.out.row.set _ _, ST.out.only.set _ _⟩
          · have := HE.out; rw [Nat.div_lt_iff_lt_mul (by omega)]; omega
          · rw [val_take_succ, ← EY.out, Nat.add_comm k o]
            refine ST.out.rel.step (by rw [HN.out]; omega) y _ _ (by omega) ?_
            rw [Nat.add_comm o k, ← EZ.out]
            have := HE.out; have := ECM.out; omega
        have HEI : Hid ((c : Int) + (d : Int) * (y : Int) = (E : Int)) := by have := HE.out; show _ = _; rw [this, Int.natCast_add, Int.natCast_mul]
        go_wp2
        go_roundw
        case rel =>
          refine ⟨k + 1, E / 4294967296, 1, zr.set (k + o) (z + 4294967296 - (cm + b)), by omega, vint (by omega), ?_, ?_, ?_⟩
          · first | rfl | exact vint (by have := HEI.out; omega)
          · first | rfl | exact vint (by first | omega | (simp only [IntKind.wrap_u64]; omega))
          · have e : ∀ D1 : Int, D1 = ((z + 4294967296 - (cm + b) : Nat) : Int) → PlSt zs ys o d (k + 1) (E / 4294967296) 1 g t w (wr.setCell ⟨g, k + o, none⟩ (.int .u32 D1)) (zr.set (k + o) (z + 4294967296 - (cm + b))) := fun D1 h => by rw [h]; exact ND.out
            exact e _ (by first | omega | (simp only [IntKind.wrap_u64]; omega))
        case measure => simp [intOf]; omega
      · have ND : Hid (PlSt zs ys o d (k + 1) (E / 4294967296) 0 g t w (wr.setCell ⟨g, k + o, none⟩ (.int .u32 ((z - (cm + b) : Nat) : Int))) (zr.set (k + o) (z - (cm + b)))) := by
          refine ⟨?_, by omega, ?_, ST.out.row.set _ _, ST.out.only.set _ _⟩
          · have := HE.out; rw [Nat.div_lt_iff_lt_mul (by omega)]; omega
          · rw [val_take_succ, ← EY.out, Nat.add_comm k o]
            refine ST.out.rel.step (by rw [HN.out]; omega) y _ _ (by omega) ?_
            rw [Nat.add_comm o k, ← EZ.out]
            have := HE.out; have := ECM.out; omega
        have HEI : Hid ((c : Int) + (d : Int) * (y : Int) = (E : Int)) := by have := HE.out; show _ = _; rw [this, Int.natCast_add, Int.natCast_mul]
        go_wp2
        go_roundw
        case rel =>
          refine ⟨k + 1, E / 4294967296, 0, zr.set (k + o) (z - (cm + b)), by omega, vint (by omega), ?_, ?_, ?_⟩
          · first | rfl | exact vint (by have := HEI.out; omega)
          · first | rfl | exact vint (by first | omega | (simp only [IntKind.wrap_u64]; omega))
          · have e : ∀ D1 : Int, D1 = ((z - (cm + b) : Nat) : Int) → PlSt zs ys o d (k + 1) (E / 4294967296) 0 g t w (wr.setCell ⟨g, k + o, none⟩ (.int .u32 D1)) (zr.set (k + o) (z - (cm + b))) := fun D1 h => by rw [h]; exact ND.out
            exact e _ (by first | omega | (simp only [IntKind.wrap_u64]; omega))
        case measure => simp [intOf]; omega
    · have hkn : k = n := by omega
      subst hkn
      have hcell := hst.row.cell (o + k) (by omega)
      have hfree : wr.frozen? ⟨g, o + k, none⟩ = false := hst.row.free _
      have hzb := hst.rel.lt (o + k)
      obtain ⟨z, ez⟩ : ∃ z, z = zr[o + k]?.getD 0 := ⟨_, rfl⟩
      rw [← ez] at hcell hzb
      have hrl := hst.rel
      rw [List.take_of_length_le (by have := HYL.out; omega)] at hrl
      have EZ := Lib.hid ez; have ST := Lib.hid hst; have RL := Lib.hid hrl
      clear ez hst hrl
      by_cases hz : z < c + b
      · have hsub : SubRel zs o (k + 1) 1 d (val ys) (zr.set (o + k) (z + 4294967296 - (c + b))) := by
          have := RL.out.step (by rw [HN.out]; omega) 0 (z + 4294967296 - (c + b)) 1 (by omega) (by rw [← EZ.out]; omega)
          simpa using this
        obtain ⟨-, -, hpe⟩ := place_end hsub.sum (seg_lt hsub.lt _ _) HD.out HQ1.out HQ2.out HDP.out
        obtain ⟨hdq, hS⟩ := hpe rfl
        have HSUB := Lib.hid hsub; have HDQ := Lib.hid hdq; have HS := Lib.hid hS
        have HR1 : Hid (Row (wr.setCell ⟨g, o + k, none⟩ (.int .u32 ((z + 4294967296 - (c + b) : Nat) : Int))) g t (zr.set (o + k) (z + 4294967296 - (c + b)))) := ST.out.row.set _ _
        have HO1 : Hid (Only g w (wr.setCell ⟨g, o + k, none⟩ (.int .u32 ((z + 4294967296 - (c + b) : Nat) : Int)))) := ST.out.only.set _ _
        have hd1 : 1 ≤ d := by rw [hdq]; exact Nat.le_add_left 1 _
        obtain ⟨z1, ez1⟩ : ∃ z1, z1 = zr.set (o + k) (z + 4294967296 - (c + b)) := ⟨_, rfl⟩
        rw [← ez1] at HSUB HS HR1
        clear hsub hdq hS hpe ez1
        have hx1 : IntKind.u64.wrap (IntKind.u64.wrap ((z : Int) - (c : Int)) - (b : Int)) % 4294967296 = ((z + 4294967296 - (c + b) : Nat) : Int) := by simp only [IntKind.wrap_u64]; omega
        have hx2 : (IntKind.u64.wrap (IntKind.u64.wrap ((z : Int) - (c : Int)) - (b : Int)) / 9223372036854775808 == 0) = false := beq_eq_false_iff_ne.2 (by simp only [IntKind.wrap_u64]; omega)
        obtain ⟨D1, hD1⟩ : ∃ D1 : Nat, D1 = z + 4294967296 - (c + b) := ⟨_, rfl⟩
        rw [← hD1] at hx1 HR1 HO1
        obtain ⟨wq, hwq⟩ : ∃ wq, wq = wr.setCell ⟨g, o + k, none⟩ (.int .u32 (D1 : Int)) := ⟨_, rfl⟩
        rw [← hwq] at HR1 HO1
        have HWQ := Lib.hid hwq.symm
        clear hwq hD1
        go_wp2_with fail
        rw [HWQ.out]
        go_loopw [14, 15] (fun sv i wy => ∃ (k2 s2 : Nat) (zr2 : List Nat), k2 ≤ k ∧ i = .int .i64 k2 ∧ sv = .int .u64 s2 ∧ PaSt z1 ys o k2 s2 g t w wy zr2) (fun _ i _ => k - (intOf i).toNat)
        case atStart => exact ⟨0, 0, z1, Nat.zero_le _, rfl, rfl, by omega, by simpa [val] using AddRel.start z1 o HSUB.out.lt, HR1.out, HO1.out⟩
        case round =>
          obtain ⟨k2, s2, zr2, hk2, rfl, rfl, hst2⟩ := hrel
          rename World => wy
          have hs2 := hst2.cb
          have hzl2 : zr2.length = N := by rw [hst2.rel.len, HSUB.out.len, HN.out]
          by_cases hlt2 : k2 < k
          · obtain ⟨bl, off, rfl, hcy⟩ := HAT.out.cells (by have := HYL.out; omega)
            have hnil : ys ≠ [] := fun h => by have := HYL.out; rw [h] at this; simp at this; omega
            have hcelly : wy.cell? ⟨bl, off + k2, none⟩ = some (.int .u32 (ys[k2]?.getD 0 : Nat)) := (World.cell?_of_block (hst2.only.block bl (HOFF.out hnil _ _ _ rfl))).trans (hcy k2 (by have := HYL.out; omega))
            have hyb := HYS.out k2
            have hcell2 := hst2.row.cell (k2 + o) (by omega)
            have hfree2 : wy.frozen? ⟨g, k2 + o, none⟩ = false := hst2.row.free _
            have hzb2 := hst2.rel.lt (k2 + o)
            obtain ⟨y, ey⟩ : ∃ y, y = ys[k2]?.getD 0 := ⟨_, rfl⟩
            rw [← ey] at hcelly hyb
            obtain ⟨z2, ez2⟩ : ∃ z, z = zr2[k2 + o]?.getD 0 := ⟨_, rfl⟩
            rw [← ez2] at hcell2 hzb2
            have hstep := hst2.rel.step (by rw [HSUB.out.len, HN.out]; omega) y (s2 + (z2 + y)) (by rw [ez2, Nat.add_comm o k2])
            rw [Nat.add_comm o k2] at hstep
            have EY := Lib.hid ey; have ST2 := Lib.hid hst2; have STEP := Lib.hid hstep
            clear ey ez2 hst2 hcy hnil hstep
            have hw1 : IntKind.i64.wrap ((k2 : Int) + (o : Int)) = (k2 : Int) + (o : Int) := by rw [IntKind.wrap_i64]; omega
            have hw2 : (0 : Int) ≤ (k2 : Int) + (o : Int) := by omega
            have hw3 : ((k2 : Int) + (o : Int)).toNat = k2 + o := by omega
            have hw4 : IntKind.u64.wrap ((z2 : Int) + (y : Int)) = (z2 : Int) + (y : Int) := by rw [IntKind.wrap_u64]; omega
            have hw5 : IntKind.u64.wrap ((s2 : Int) + ((z2 : Int) + (y : Int))) = ((s2 + (z2 + y) : Nat) : Int) := by rw [IntKind.wrap_u64]; omega
            go_wp2
            go_quiet (fail)
            clear hw1 hw2 hw3 hw4 hw5
            go_wp2
            go_roundw
            case rel =>
              refine ⟨k2 + 1, (s2 + (z2 + y)) / 4294967296, _, by omega, vint (by omega), vint (by omega), by omega, ?_, (ST2.out.row.drewN _).set' _ ((s2 + (z2 + y)) % 4294967296) _ (by omega), (ST2.out.only.drewN _).set _ _⟩
              rw [val_take_succ, ← EY.out]
              exact STEP.out
            case measure => simp [intOf]; omega
          · have hkk : k2 = k := by omega
            subst hkk
            have hrl2 := hst2.rel
            rw [List.take_of_length_le (by have := HYL.out; omega)] at hrl2
            have hcell2 := hst2.row.cell (o + k2) (by omega)
            have hfree2 : wy.frozen? ⟨g, o + k2, none⟩ = false := hst2.row.free _
            have hzb2 := hst2.rel.lt (o + k2)
            obtain ⟨hpd1, hpd2⟩ := place_done HSUB.out HDQ.out HS.out HD.out HDB.out (by rw [HN.out]; omega) hrl2 hs2 rfl
            obtain ⟨z2, ez2⟩ : ∃ z, z = zr2[o + k2]?.getD 0 := ⟨_, rfl⟩
            rw [← ez2] at hcell2 hzb2 hpd1
            have hw6 : IntKind.u32.wrap ((z2 : Int) + (s2 : Int)) = 0 := by rw [IntKind.wrap_u32]; omega
            have FIN2 := Lib.hid (FIN.out _ (wy.setCell ⟨g, o + k2, none⟩ (.int .u32 (0 : Int))) (d - 1) (zr2.set (o + k2) 0) rfl (by omega) hpd2 (hst2.row.set _ 0) (hst2.only.set _ _))
            have hd2 : ((d - 1 : Nat) : Int) = (d : Int) - 1 := by omega
            rw [hd2] at FIN2
            clear hst2 hrl2 hpd1 hpd2 ez2
            go_wp2
            (try go_ret)
            exact FIN2.out
      · have hsub : SubRel zs o (k + 1) 0 d (val ys) (zr.set (o + k) (z - (c + b))) := by
          have := RL.out.step (by rw [HN.out]; omega) 0 (z - (c + b)) 0 (by omega) (by rw [← EZ.out]; omega)
          simpa using this
        obtain ⟨-, hpe, -⟩ := place_end hsub.sum (seg_lt hsub.lt _ _) HD.out HQ1.out HQ2.out HDP.out
        obtain ⟨hdq, hS⟩ := hpe rfl
        have hx1 : ((z : Int) - (c : Int) - (b : Int)) % 4294967296 = ((z - (c + b) : Nat) : Int) := by omega
        have hx2 : (((z : Int) - (c : Int) - (b : Int)) / 9223372036854775808 == 0) = true := by rw [beq_iff_eq]; omega
        have hx3 : ((z : Int) - (c : Int) - (b : Int)) = ((z - (c + b) : Nat) : Int) := by omega
        have FIN2 := Lib.hid (FIN.out _ (wr.setCell ⟨g, o + k, none⟩ (.int .u32 ((z - (c + b) : Nat) : Int))) d _ rfl hd ⟨by rw [List.length_set]; exact ST.out.rel.len, hsub.lt, hsub.other, hdq, hS⟩ (ST.out.row.set _ _) (ST.out.only.set _ _))
        rw [← hx3] at FIN2
        clear hsub hpe hdq hS hx3
        go_wp2
        (try go_ret)
        exact FIN2.out
end Go.Proofs.YtfcpfmjoelhlnaaGreatDoor
