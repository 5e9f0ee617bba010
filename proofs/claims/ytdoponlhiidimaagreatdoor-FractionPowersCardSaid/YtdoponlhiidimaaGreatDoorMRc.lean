/- Contracts of the reference's shift up and of its digit of a quotient, whose estimate is right or one too many. Conditions: the slices hold the digits that are named. -/
import Derived.Test.YtdoponlhiidimaaGreatDoorMDd
import Derived.Test.YtdoponlhiidimaaGreatDoorNn
namespace Go.Proofs.YtdoponlhiidimaaGreatDoor
open Go.RowKit LimbN

/-- The row of a number that is shifted up, after k digits. -/
structure UpRel (xs : List Nat) (s k : Nat) (zr : List Nat) : Prop where
  len : zr.length = xs.length + 1
  lt : Lt zr
  zero : ∀ i : Nat, k < i → zr[i]?.getD 0 = 0
  top : zr[k]?.getD 0 < 2 ^ s
  sum : val (zr.take (k + 1)) = val (xs.take k) * 2 ^ s
theorem UpRel.start (xs : List Nat) (s : Nat) : UpRel xs s 0 (List.replicate (xs.length + 1) 0) := by
  have h0 : ∀ i : Nat, (List.replicate (xs.length + 1) 0)[i]?.getD 0 = 0 := fun i => by rw [List.getElem?_replicate]; split <;> rfl
  refine ⟨by simp, Lt.replicate _, fun i _ => h0 i, by rw [h0]; exact Nat.pow_pos (by omega), ?_⟩
  rw [val_take_succ, h0]; simp [val]
theorem UpRel.step {xs zr : List Nat} {s k t : Nat} (h : UpRel xs s k zr) (hs : s < 32) (hk : k < xs.length) (hx : Lt xs) (ht : t = xs[k]?.getD 0 * 2 ^ s) :
    zr[k]?.getD 0 + t % 4294967296 < 4294967296 ∧ t / 4294967296 < 2 ^ s ∧ UpRel xs s (k + 1) ((zr.set k (zr[k]?.getD 0 + t % 4294967296)).set (k + 1) (t / 4294967296)) := by
  have hp := pow_lt32 hs
  have e32 := pow32 hs
  have htop := h.top
  have hb : zr[k]?.getD 0 + t % 4294967296 < 4294967296 := by
    have h1 : t % 4294967296 = 2 ^ s * (xs[k]?.getD 0 % 2 ^ (32 - s)) := by rw [ht, Nat.mul_comm, ← e32, Nat.mul_mod_mul_left]
    have h2 : xs[k]?.getD 0 % 2 ^ (32 - s) + 1 ≤ 2 ^ (32 - s) := Nat.mod_lt _ (Nat.pow_pos (by omega))
    have h3 := Nat.mul_le_mul_left (2 ^ s) h2
    rw [e32, Nat.mul_add, ← h1] at h3
    omega
  have hq : t / 4294967296 < 2 ^ s := by
    rw [Nat.div_lt_iff_lt_mul (by omega), ht, Nat.mul_comm]
    exact Nat.mul_lt_mul_of_pos_left (hx k) hp.1
  have hl := h.len
  refine ⟨hb, hq, by simpa using hl, (h.lt.set _ _ hb).set _ _ (by omega), fun i hi => ?_, ?_, ?_⟩
  · rw [getD_set _ _ _ _ (by simp; omega), if_neg (by omega), getD_set _ _ _ _ (by omega), if_neg (by omega)]
    exact h.zero i (by omega)
  · rw [getD_set _ _ _ _ (by simp; omega), if_pos rfl]; exact hq
  · have e1 : ((zr.set k (zr[k]?.getD 0 + t % 4294967296)).set (k + 1) (t / 4294967296)).take (k + 1) = (zr.set k (zr[k]?.getD 0 + t % 4294967296)).take (k + 1) := List.take_set_of_le (Nat.le_refl _)
    have e2 : (zr.set k (zr[k]?.getD 0 + t % 4294967296)).take k = zr.take k := List.take_set_of_le (Nat.le_refl _)
    rw [val_take_succ, e1, getD_set _ _ _ _ (by simp; omega), if_pos rfl, val_take_succ, e2, getD_set _ _ _ _ (by omega), if_pos rfl, val_take_succ xs]
    have hsum := h.sum
    rw [val_take_succ] at hsum
    rw [Nat.add_mul, ← hsum, Nat.pow_succ, Nat.mul_assoc, Nat.mul_assoc, ← ht]
    have e3 : 4294967296 ^ k * t = 4294967296 ^ k * (t % 4294967296 + 4294967296 * (t / 4294967296)) := by rw [Nat.mod_add_div]
    rw [Nat.mul_add] at e3 ⊢
    omega
theorem or_low {z t s : Nat} (hs : s < 32) (hz : z < 2 ^ s) (hd : t % 2 ^ s = 0) (ht : t < 4294967296) : bits .or .u32 (z : Int) (t : Int) = ((z + t : Nat) : Int) := by
  have hp := pow_lt32 hs
  rw [u32_or_nat _ _ (by omega) ht]
  congr 1
  obtain ⟨m, rfl⟩ := Nat.dvd_of_mod_eq_zero hd
  have := Nat.shiftLeft_add_eq_or_of_lt hz m
  rw [Nat.shiftLeft_eq] at this
  rw [Nat.or_comm, Nat.mul_comm, ← this, Nat.add_comm]
theorem mod_low {x s : Nat} (hs : s < 32) : (x * 2 ^ s % 4294967296) % 2 ^ s = 0 := by
  have e32 := pow32 hs
  rw [Nat.mul_comm, ← e32, Nat.mul_mod_mul_left, Nat.mul_mod_right]
set_option maxRecDepth 100000 in
set_option maxHeartbeats 1000000 in
theorem up_any {xs : List Nat} {va : Value} {w : World} (ha : Sl w va xs) (hlen : xs.length ≤ 1000) (s : Nat) (hs : s < 32) :
    Calls Tryz.prog 83 #[va, .int .i64 s] w (Shifted xs s w) := by
  have HSA := Lib.hid ha
  obtain ⟨⟨ao, ca, rfl, hca, hma, hat, _⟩, hxs, _⟩ := ha
  unfold maxLen at hma
  have FIN : Hid (∀ e w', (∃ zr, e = .returned (.slice (some ⟨w.heap.size, 0, none⟩) (xs.length + 1) (xs.length + 1)) ∧ Row w' w.heap.size 43 zr ∧ Lt zr ∧ zr.length = xs.length + 1 ∧ val zr = val xs * 2 ^ s ∧ zr[xs.length]?.getD 0 < 2 ^ s) → Kp w w' → Shifted xs s w e w') := fun e w' h k => ⟨h, k⟩
  obtain ⟨Q, hQ⟩ : ∃ Q, Q = Shifted xs s w := ⟨_, rfl⟩
  rw [← hQ] at FIN ⊢
  clear hQ
  obtain ⟨la, hla⟩ : ∃ la, la = xs.length := ⟨_, rfl⟩
  rw [← hla] at hca hlen HSA FIN
  rw [← hla]
  have hsp := pow_lt32 hs
  have HLA := Lib.hid hla; have HAT := Lib.hid hat; have HXS := Lib.hid hxs
  clear hla hat hxs
  go_enter Tryz.func83, Tryz.ntmps83
  go_wp2_with (at_make; refine wpList_mk rfl (.tmp 10) (.tmp 10) 24 rfl Tryz.underlying24 _ (la + 1) rfl rfl rfl (by omega) ?_)
  intro w1 hrow hk1
  have HROW := Lib.hid hrow; have HK1 := Lib.hid hk1
  clear hrow hk1
  go_wp2_with fail
  go_loopw [6] (fun i wr => ∃ (k : Nat) (zr : List Nat), k ≤ la ∧ i = .int .i64 k ∧ UpRel xs s k zr ∧ Row wr w.heap.size 43 zr ∧ Only w.heap.size w1 wr) (fun i _ => la - (intOf i).toNat)
  case atStart => exact ⟨0, _, by omega, rfl, by have := UpRel.start xs s; rwa [← HLA.out] at this, HROW.out, Only.refl _ _⟩
  case round =>
    obtain ⟨k, zr, hk, rfl, hrel', hrow, honly⟩ := hrel
    have HKR : Hid (Kp w wr) := Only.kp HK1.out honly (Nat.le_refl _)
    have hzl : zr.length = la + 1 := by rw [hrel'.len, HLA.out]
    have HREL := Lib.hid hrel'; have HROW2 := Lib.hid hrow; have HON := Lib.hid honly
    clear hrel' hrow honly
    by_cases hlt : k < la
    · obtain ⟨b, off, rfl, hcx⟩ := (HAT.out.keep HKR.out).cells (by have := HLA.out; omega)
      have hcell := hcx k (by have := HLA.out; omega)
      have hxb := HXS.out k
      clear hcx
      have hst := HREL.out.step hs (by have := HLA.out; omega) HXS.out (t := xs[k]?.getD 0 * 2 ^ s) rfl
      obtain ⟨x, ex⟩ : ∃ x, x = xs[k]?.getD 0 := ⟨_, rfl⟩
      rw [← ex] at hcell hxb hst
      clear ex
      have hcz := HROW2.out.cell k (by omega)
      have hfree : wr.frozen? ⟨w.heap.size, k, none⟩ = false := HROW2.out.free _
      have hcz1 := HROW2.out.cell (k + 1) (by omega)
      have hfree1 : wr.frozen? ⟨w.heap.size, k + 1, none⟩ = false := HROW2.out.free _
      have hzt := HREL.out.top
      obtain ⟨z, ez⟩ : ∃ z, z = zr[k]?.getD 0 := ⟨_, rfl⟩
      rw [← ez] at hcz hst hzt
      obtain ⟨z1, ez1⟩ : ∃ z, z = zr[k + 1]?.getD 0 := ⟨_, rfl⟩
      rw [← ez1] at hcz1
      clear ez ez1
      have hmx : x * 2 ^ s ≤ 4294967295 * 2 ^ s := Nat.mul_le_mul_right _ (by omega)
      obtain ⟨t, ht⟩ : ∃ t, t = x * 2 ^ s := ⟨_, rfl⟩
      have hsh : (x : Int) * 2 ^ s = (t : Int) := by rw [ht, Int.natCast_mul, Int.natCast_pow]; rfl
      have hml := mod_low (x := x) hs
      rw [← ht] at hst hmx hml
      have htb : t < 18446744073709551616 := by omega
      have hor := or_low hs hzt hml (by omega)
      have hor2 : bits .or .u32 (z : Int) ((t : Int) % 4294967296) = ((z + t % 4294967296 : Nat) : Int) := by rw [← hor]; congr 1
      have HST := Lib.hid hst
      have hs1 := hst.1; have hs2 := hst.2.1
      clear hst hor hml hmx ht hzt
      go_wp2
      go_roundw
      case rel => exact ⟨k + 1, _, by omega, vint (by omega), HST.out.2.2, (HROW2.out.set' _ _ _ (by first | rfl | exact hor2)).set' _ _ _ (by omega), (HON.out.set _ _).set _ _⟩
      case measure => simp [intOf]; omega
    · have hkl : k = la := by omega
      subst hkl
      have hsum := HREL.out.sum
      rw [List.take_of_length_le (by omega), List.take_of_length_le (by have := HLA.out; omega)] at hsum
      have FIN2 := Lib.hid (FIN.out _ wr ⟨zr, rfl, HROW2.out, HREL.out.lt, hzl, hsum, HREL.out.top⟩ HKR.out)
      clear hsum
      go_wp2
      (try go_ret)
      exact FIN2.out

theorem mask32 (n : Nat) (hn : n < 18446744073709551616) : bits .and .u64 (n : Int) 4294967295 = ((n % 4294967296 : Nat) : Int) := by
  have h := u64_and_nat n 4294967295 hn (by omega)
  rw [show ((4294967295 : Nat) : Int) = 4294967295 by rfl] at h
  rw [h]
  congr 1
  exact Nat.and_two_pow_sub_one_eq_mod n 32

/-- How the subtraction of the digit's product stands. -/
structure PlSt (zs ys : List Nat) (o d k c b g : Nat) (t : TypeId) (w wr : World) (zr : List Nat) : Prop where
  cb : c < 4294967296
  bb : b ≤ 1
  rel : SubRel zs o k (c + b) d (val (ys.take k)) zr
  row : Row wr g t zr
  only : Only g w wr
/-- How the divisor's addition stands. -/
structure PaSt (zs ys : List Nat) (o k c g : Nat) (t : TypeId) (w wr : World) (zr : List Nat) : Prop where
  cb : c ≤ 1
  rel : AddRel zs o k c (val (ys.take k)) zr
  row : Row wr g t zr
  only : Only g w wr
theorem put_back {D P R S z c x X : Nat} (_hP : 0 < P) (_hD : D < P) (hR : 0 < D) (hS : S + D = R % D + 4294967296 * P) (e : S = X + P * z) (hz : z < 4294967296) (hc : c ≤ 1) (ha : x + P * c = X + D) (hx : x < P) :
    z + c = 4294967296 ∧ x = R % D := by
  have h1 := Nat.mod_lt R hR
  have h2 : x + P * (z + c) = R % D + 4294967296 * P := by rw [Nat.mul_add]; omega
  have h3 : 4294967296 ≤ z + c := by
    rcases Nat.lt_or_ge (z + c) 4294967296 with h | h
    · exfalso
      have := Nat.mul_le_mul_left P (show z + c + 1 ≤ 4294967296 from h)
      rw [Nat.mul_add] at this
      omega
    · exact h
  have h4 : z + c = 4294967296 := by omega
  rw [h4] at h2
  exact ⟨h4, by omega⟩
theorem place_done {zs ys zr zr2 : List Nat} {o n d c z2 : Nat} (hsub : SubRel zs o (n + 1) 1 d (val ys) zr) (hq : d = seg zs o (n + 1) / val ys + 1) (hS : seg zr o (n + 1) + val ys = seg zs o (n + 1) % val ys + 4294967296 ^ (n + 1))
    (hD : 0 < val ys) (hDb : val ys < 4294967296 ^ n) (hfit : o + (n + 1) ≤ zs.length) (ha : AddRel zr o n c (val ys) zr2) (hc : c ≤ 1) (hz : z2 = zr2[o + n]?.getD 0) :
    (z2 + c) % 4294967296 = 0 ∧ DigRel zs o (n + 1) (val ys) (d - 1) (zr2.set (o + n) 0) := by
  have hl : zr2.length = zs.length := ha.len.trans hsub.len
  have e2 := ha.other (o + n) (by omega)
  have hsg := seg_succ zr o n
  rw [← e2, ← hz] at hsg
  have hzb : z2 < 4294967296 := by rw [hz]; exact ha.lt _
  obtain ⟨h1, h2⟩ := put_back (Nat.pow_pos (by omega)) hDb hD (by rw [hS, Nat.pow_succ, Nat.mul_comm (4294967296 ^ n)]) hsg hzb hc ha.sum (seg_lt ha.lt _ _)
  refine ⟨by rw [h1], by rw [List.length_set]; exact hl, ha.lt.set _ _ (by omega), fun i hi => ?_, by rw [hq, Nat.add_sub_cancel], ?_⟩
  · rw [getD_set _ _ _ _ (by omega), if_neg (by omega), ha.other i (by omega)]
    exact hsub.other i hi
  · rw [seg_succ, getD_set _ _ _ _ (by omega), if_pos rfl, Nat.mul_zero, Nat.add_zero, ← h2]
    exact seg_congr n (fun i _ h3 => by rw [getD_set _ _ _ _ (by omega), if_neg (by omega)])
set_option maxRecDepth 100000 in
set_option maxHeartbeats 4000000 in
theorem place_any (g o n N d capr : Nat) (t : TypeId) (zs ys : List Nat) (vv : Value) (w : World) (hrow : Row w g t zs) (hzs : Lt zs) (hN : zs.length = N) (hNb : N ≤ 2000) (hfit : o + (n + 1) ≤ zs.length)
    (hv : Sl w vv ys) (hoff : Off g vv ys) (hyl : ys.length = n) (hd : d < 4294967296) (hD : 0 < val ys) (hq1 : seg zs o (n + 1) / val ys ≤ d) (hq2 : d ≤ seg zs o (n + 1) / val ys + 1) :
    Calls Tryz.prog 84 #[.slice (some ⟨g, 0, none⟩) N capr, vv, .int .i64 o, .int .u64 d] w (Taken zs o (n + 1) (val ys) g t w) := by
  have FIN : Hid (∀ e w' (q : Nat) zr, e = .returned (.int .u32 (q : Int)) → q < 4294967296 → DigRel zs o (n + 1) (val ys) q zr → Row w' g t zr → Only g w w' → Taken zs o (n + 1) (val ys) g t w e w') := fun e w' q zr h1 h2 h3 h4 h5 => ⟨⟨q, zr, h1, h2, h3, h4⟩, h5⟩
  obtain ⟨Q, hQ⟩ : ∃ Q, Q = Taken zs o (n + 1) (val ys) g t w := ⟨_, rfl⟩
  rw [← hQ] at FIN ⊢
  clear hQ
  obtain ⟨⟨bo, cb, rfl, hcb, hcm, hat, _⟩, hys, _⟩ := hv
  unfold maxLen at hcm
  have hDb : val ys < 4294967296 ^ n := by have := val_lt hys; rwa [hyl] at this
  have hdp : d * val ys ≤ seg zs o (n + 1) + 4294967296 ^ (n + 1) := by
    have h1 : d * val ys ≤ (seg zs o (n + 1) / val ys + 1) * val ys := Nat.mul_le_mul_right _ hq2
    have h2 := Nat.div_mul_le_self (seg zs o (n + 1)) (val ys)
    rw [Nat.succ_mul] at h1
    rw [Nat.pow_succ]
    omega
  rw [hyl] at hcb hoff ⊢
  rw [hN] at hfit
  have hnb : n ≤ 2000 := by omega
  have HROW := Lib.hid hrow; have HZS := Lib.hid hzs; have HAT := Lib.hid hat; have HYS := Lib.hid hys; have HOFF := Lib.hid hoff; have HN := Lib.hid hN; have HYL := Lib.hid hyl
  have HD := Lib.hid hD; have HQ1 := Lib.hid hq1; have HQ2 := Lib.hid hq2; have HDB := Lib.hid hDb; have HDP := Lib.hid hdp
  clear hrow hzs hat hys hoff hN hyl hD hq1 hq2 hDb hdp
  go_enter Tryz.func84, Tryz.ntmps84
  go_wp2_with fail
  go_loopw [9, 10, 11] (fun cv bv i wr => ∃ (k c b : Nat) (zr : List Nat), k ≤ n ∧ i = .int .i64 k ∧ cv = .int .u64 c ∧ bv = .int .u64 b ∧ PlSt zs ys o d k c b g t w wr zr) (fun _ _ i _ => n - (intOf i).toNat)
  case atStart => exact ⟨0, 0, 0, zs, Nat.zero_le _, rfl, rfl, rfl, by omega, by omega, by simpa [val] using SubRel.start zs o d HZS.out, HROW.out, Only.refl _ _⟩
  case round =>
    obtain ⟨k, c, b, zr, hk, rfl, rfl, rfl, hst⟩ := hrel
    rename World => wr
    have hcb' := hst.cb; have hbb := hst.bb
    have hzl : zr.length = N := by rw [hst.rel.len, HN.out]
    by_cases hlt : k < n
    · obtain ⟨bl, off, rfl, hcy⟩ := HAT.out.cells (by have := HYL.out; omega)
      have hnil : ys ≠ [] := fun h => by have := HYL.out; rw [h] at this; simp at this; omega
      have hcelly : wr.cell? ⟨bl, off + k, none⟩ = some (.int .u32 (ys[k]?.getD 0 : Nat)) := (World.cell?_of_block (hst.only.block bl (HOFF.out hnil _ _ _ rfl))).trans (hcy k (by have := HYL.out; omega))
      have hyb := HYS.out k
      have hcell := hst.row.cell (k + o) (by omega)
      have hfree : wr.frozen? ⟨g, k + o, none⟩ = false := hst.row.free _
      have hzb := hst.rel.lt (k + o)
      obtain ⟨y, ey⟩ : ∃ y, y = ys[k]?.getD 0 := ⟨_, rfl⟩
      rw [← ey] at hcelly hyb
      obtain ⟨z, ez⟩ : ∃ z, z = zr[k + o]?.getD 0 := ⟨_, rfl⟩
      rw [← ez] at hcell hzb
      have EY := Lib.hid ey; have EZ := Lib.hid ez; have ST := Lib.hid hst
      clear ey ez hst hcy hnil
      have hm := mul_small hd hyb
      have hm0 : (0 : Int) ≤ (d : Int) * (y : Int) := by rw [← Int.natCast_mul]; exact Int.natCast_nonneg _
      have hm1 : (d : Int) * (y : Int) ≤ 18446744065119617025 := by rw [← Int.natCast_mul]; omega
      have hmk := mask32 (c + d * y) (by omega)
      rw [Int.natCast_add, Int.natCast_mul] at hmk
      obtain ⟨cm, ecm⟩ : ∃ cm, cm = (c + d * y) % 4294967296 := ⟨_, rfl⟩
      rw [← ecm] at hmk
      have hcmb : cm < 4294967296 := by omega
      obtain ⟨E, hE⟩ : ∃ E : Nat, E = c + d * y := ⟨_, rfl⟩
      have ECM : Hid (cm = E % 4294967296) := by rw [hE]; exact ecm
      have HE := Lib.hid hE
      clear ecm hE
      by_cases hz : z < cm + b
      · have ND : Hid (PlSt zs ys o d (k + 1) (E / 4294967296) 1 g t w (wr.setCell ⟨g, k + o, none⟩ (.int .u32 ((z + 4294967296 - (cm + b) : Nat) : Int))) (zr.set (k + o) (z + 4294967296 - (cm + b)))) := by
          refine ⟨?_, by omega, ?_, ST.out.row.set _ _, ST.out.only.set _ _⟩
          · have := HE.out; rw [Nat.div_lt_iff_lt_mul (by omega)]; omega
          · rw [val_take_succ, ← EY.out, Nat.add_comm k o]
            refine ST.out.rel.step (by rw [HN.out]; omega) y _ _ (by omega) ?_
            rw [Nat.add_comm o k, ← EZ.out]
            have := HE.out; have := ECM.out; omega
        have HEI : Hid ((c : Int) + (d : Int) * (y : Int) = (E : Int)) := by have := HE.out; show _ = _; rw [this, Int.natCast_add, Int.natCast_mul]
        go_wp2
        go_roundw
        case rel =>
          refine ⟨k + 1, E / 4294967296, 1, zr.set (k + o) (z + 4294967296 - (cm + b)), by omega, vint (by omega), ?_, ?_, ?_⟩
          · first | rfl | exact vint (by have := HEI.out; omega)
          · first | rfl | exact vint (by first | omega | (simp only [IntKind.wrap_u64]; omega))
          · have e : ∀ D1 : Int, D1 = ((z + 4294967296 - (cm + b) : Nat) : Int) → PlSt zs ys o d (k + 1) (E / 4294967296) 1 g t w (wr.setCell ⟨g, k + o, none⟩ (.int .u32 D1)) (zr.set (k + o) (z + 4294967296 - (cm + b))) := fun D1 h => by rw [h]; exact ND.out
            exact e _ (by first | omega | (simp only [IntKind.wrap_u64]; omega))
        case measure => simp [intOf]; omega
      · have ND : Hid (PlSt zs ys o d (k + 1) (E / 4294967296) 0 g t w (wr.setCell ⟨g, k + o, none⟩ (.int .u32 ((z - (cm + b) : Nat) : Int))) (zr.set (k + o) (z - (cm + b)))) := by
          refine ⟨?_, by omega, ?_, ST.out.row.set _ _, ST.out.only.set _ _⟩
          · have := HE.out; rw [Nat.div_lt_iff_lt_mul (by omega)]; omega
          · rw [val_take_succ, ← EY.out, Nat.add_comm k o]
            refine ST.out.rel.step (by rw [HN.out]; omega) y _ _ (by omega) ?_
            rw [Nat.add_comm o k, ← EZ.out]
            have := HE.out; have := ECM.out; omega
        have HEI : Hid ((c : Int) + (d : Int) * (y : Int) = (E : Int)) := by have := HE.out; show _ = _; rw [this, Int.natCast_add, Int.natCast_mul]
        go_wp2
        go_roundw
        case rel =>
          refine ⟨k + 1, E / 4294967296, 0, zr.set (k + o) (z - (cm + b)), by omega, vint (by omega), ?_, ?_, ?_⟩
          · first | rfl | exact vint (by have := HEI.out; omega)
          · first | rfl | exact vint (by first | omega | (simp only [IntKind.wrap_u64]; omega))
          · have e : ∀ D1 : Int, D1 = ((z - (cm + b) : Nat) : Int) → PlSt zs ys o d (k + 1) (E / 4294967296) 0 g t w (wr.setCell ⟨g, k + o, none⟩ (.int .u32 D1)) (zr.set (k + o) (z - (cm + b))) := fun D1 h => by rw [h]; exact ND.out
            exact e _ (by first | omega | (simp only [IntKind.wrap_u64]; omega))
        case measure => simp [intOf]; omega
    · have hkn : k = n := by omega
      subst hkn
      have hcell := hst.row.cell (o + k) (by omega)
      have hfree : wr.frozen? ⟨g, o + k, none⟩ = false := hst.row.free _
      have hzb := hst.rel.lt (o + k)
      obtain ⟨z, ez⟩ : ∃ z, z = zr[o + k]?.getD 0 := ⟨_, rfl⟩
      rw [← ez] at hcell hzb
      have hrl := hst.rel
      rw [List.take_of_length_le (by have := HYL.out; omega)] at hrl
      have EZ := Lib.hid ez; have ST := Lib.hid hst; have RL := Lib.hid hrl
      clear ez hst hrl
      by_cases hz : z < c + b
      · have hsub : SubRel zs o (k + 1) 1 d (val ys) (zr.set (o + k) (z + 4294967296 - (c + b))) := by
          have := RL.out.step (by rw [HN.out]; omega) 0 (z + 4294967296 - (c + b)) 1 (by omega) (by rw [← EZ.out]; omega)
          simpa using this
        obtain ⟨-, -, hpe⟩ := place_end hsub.sum (seg_lt hsub.lt _ _) HD.out HQ1.out HQ2.out HDP.out
        obtain ⟨hdq, hS⟩ := hpe rfl
        have HSUB := Lib.hid hsub; have HDQ := Lib.hid hdq; have HS := Lib.hid hS
        have HR1 : Hid (Row (wr.setCell ⟨g, o + k, none⟩ (.int .u32 ((z + 4294967296 - (c + b) : Nat) : Int))) g t (zr.set (o + k) (z + 4294967296 - (c + b)))) := ST.out.row.set _ _
        have HO1 : Hid (Only g w (wr.setCell ⟨g, o + k, none⟩ (.int .u32 ((z + 4294967296 - (c + b) : Nat) : Int)))) := ST.out.only.set _ _
        have hd1 : 1 ≤ d := by rw [hdq]; exact Nat.le_add_left 1 _
        obtain ⟨z1, ez1⟩ : ∃ z1, z1 = zr.set (o + k) (z + 4294967296 - (c + b)) := ⟨_, rfl⟩
        rw [← ez1] at HSUB HS HR1
        clear hsub hdq hS hpe ez1
        have hx1 : IntKind.u64.wrap (IntKind.u64.wrap ((z : Int) - (c : Int)) - (b : Int)) % 4294967296 = ((z + 4294967296 - (c + b) : Nat) : Int) := by simp only [IntKind.wrap_u64]; omega
        have hx2 : (IntKind.u64.wrap (IntKind.u64.wrap ((z : Int) - (c : Int)) - (b : Int)) / 9223372036854775808 == 0) = false := beq_eq_false_iff_ne.2 (by simp only [IntKind.wrap_u64]; omega)
        obtain ⟨D1, hD1⟩ : ∃ D1 : Nat, D1 = z + 4294967296 - (c + b) := ⟨_, rfl⟩
        rw [← hD1] at hx1 HR1 HO1
        obtain ⟨wq, hwq⟩ : ∃ wq, wq = wr.setCell ⟨g, o + k, none⟩ (.int .u32 (D1 : Int)) := ⟨_, rfl⟩
        rw [← hwq] at HR1 HO1
        have HWQ := Lib.hid hwq.symm
        clear hwq hD1
        go_wp2_with fail
        rw [HWQ.out]
        go_loopw [14, 15] (fun sv i wy => ∃ (k2 s2 : Nat) (zr2 : List Nat), k2 ≤ k ∧ i = .int .i64 k2 ∧ sv = .int .u64 s2 ∧ PaSt z1 ys o k2 s2 g t w wy zr2) (fun _ i _ => k - (intOf i).toNat)
        case atStart => exact ⟨0, 0, z1, Nat.zero_le _, rfl, rfl, by omega, by simpa [val] using AddRel.start z1 o HSUB.out.lt, HR1.out, HO1.out⟩
        case round =>
          obtain ⟨k2, s2, zr2, hk2, rfl, rfl, hst2⟩ := hrel
          rename World => wy
          have hs2 := hst2.cb
          have hzl2 : zr2.length = N := by rw [hst2.rel.len, HSUB.out.len, HN.out]
          by_cases hlt2 : k2 < k
          · obtain ⟨bl, off, rfl, hcy⟩ := HAT.out.cells (by have := HYL.out; omega)
            have hnil : ys ≠ [] := fun h => by have := HYL.out; rw [h] at this; simp at this; omega
            have hcelly : wy.cell? ⟨bl, off + k2, none⟩ = some (.int .u32 (ys[k2]?.getD 0 : Nat)) := (World.cell?_of_block (hst2.only.block bl (HOFF.out hnil _ _ _ rfl))).trans (hcy k2 (by have := HYL.out; omega))
            have hyb := HYS.out k2
            have hcell2 := hst2.row.cell (k2 + o) (by omega)
            have hfree2 : wy.frozen? ⟨g, k2 + o, none⟩ = false := hst2.row.free _
            have hzb2 := hst2.rel.lt (k2 + o)
            obtain ⟨y, ey⟩ : ∃ y, y = ys[k2]?.getD 0 := ⟨_, rfl⟩
            rw [← ey] at hcelly hyb
            obtain ⟨z2, ez2⟩ : ∃ z, z = zr2[k2 + o]?.getD 0 := ⟨_, rfl⟩
            rw [← ez2] at hcell2 hzb2
            have hstep := hst2.rel.step (by rw [HSUB.out.len, HN.out]; omega) y (s2 + (z2 + y)) (by rw [ez2, Nat.add_comm o k2])
            rw [Nat.add_comm o k2] at hstep
            have EY := Lib.hid ey; have ST2 := Lib.hid hst2; have STEP := Lib.hid hstep
            clear ey ez2 hst2 hcy hnil hstep
            have hw1 : IntKind.i64.wrap ((k2 : Int) + (o : Int)) = (k2 : Int) + (o : Int) := by rw [IntKind.wrap_i64]; omega
            have hw2 : (0 : Int) ≤ (k2 : Int) + (o : Int) := by omega
            have hw3 : ((k2 : Int) + (o : Int)).toNat = k2 + o := by omega
            have hw4 : IntKind.u64.wrap ((z2 : Int) + (y : Int)) = (z2 : Int) + (y : Int) := by rw [IntKind.wrap_u64]; omega
            have hw5 : IntKind.u64.wrap ((s2 : Int) + ((z2 : Int) + (y : Int))) = ((s2 + (z2 + y) : Nat) : Int) := by rw [IntKind.wrap_u64]; omega
            go_wp2
            go_quiet (fail)
            clear hw1 hw2 hw3 hw4 hw5
            go_wp2
            go_roundw
            case rel =>
              refine ⟨k2 + 1, (s2 + (z2 + y)) / 4294967296, _, by omega, vint (by omega), vint (by omega), by omega, ?_, (ST2.out.row.drewN _).set' _ ((s2 + (z2 + y)) % 4294967296) _ (by omega), (ST2.out.only.drewN _).set _ _⟩
              rw [val_take_succ, ← EY.out]
              exact STEP.out
            case measure => simp [intOf]; omega
          · have hkk : k2 = k := by omega
            subst hkk
            have hrl2 := hst2.rel
            rw [List.take_of_length_le (by have := HYL.out; omega)] at hrl2
            have hcell2 := hst2.row.cell (o + k2) (by omega)
            have hfree2 : wy.frozen? ⟨g, o + k2, none⟩ = false := hst2.row.free _
            have hzb2 := hst2.rel.lt (o + k2)
            obtain ⟨hpd1, hpd2⟩ := place_done HSUB.out HDQ.out HS.out HD.out HDB.out (by rw [HN.out]; omega) hrl2 hs2 rfl
            obtain ⟨z2, ez2⟩ : ∃ z, z = zr2[o + k2]?.getD 0 := ⟨_, rfl⟩
            rw [← ez2] at hcell2 hzb2 hpd1
            have hw6 : IntKind.u32.wrap ((z2 : Int) + (s2 : Int)) = 0 := by rw [IntKind.wrap_u32]; omega
            have FIN2 := Lib.hid (FIN.out _ (wy.setCell ⟨g, o + k2, none⟩ (.int .u32 (0 : Int))) (d - 1) (zr2.set (o + k2) 0) rfl (by omega) hpd2 (hst2.row.set _ 0) (hst2.only.set _ _))
            have hd2 : ((d - 1 : Nat) : Int) = (d : Int) - 1 := by omega
            rw [hd2] at FIN2
            clear hst2 hrl2 hpd1 hpd2 ez2
            go_wp2
            (try go_ret)
            exact FIN2.out
      · have hsub : SubRel zs o (k + 1) 0 d (val ys) (zr.set (o + k) (z - (c + b))) := by
          have := RL.out.step (by rw [HN.out]; omega) 0 (z - (c + b)) 0 (by omega) (by rw [← EZ.out]; omega)
          simpa using this
        obtain ⟨-, hpe, -⟩ := place_end hsub.sum (seg_lt hsub.lt _ _) HD.out HQ1.out HQ2.out HDP.out
        obtain ⟨hdq, hS⟩ := hpe rfl
        have hx1 : ((z : Int) - (c : Int) - (b : Int)) % 4294967296 = ((z - (c + b) : Nat) : Int) := by omega
        have hx2 : (((z : Int) - (c : Int) - (b : Int)) / 9223372036854775808 == 0) = true := by rw [beq_iff_eq]; omega
        have hx3 : ((z : Int) - (c : Int) - (b : Int)) = ((z - (c + b) : Nat) : Int) := by omega
        have FIN2 := Lib.hid (FIN.out _ (wr.setCell ⟨g, o + k, none⟩ (.int .u32 ((z - (c + b) : Nat) : Int))) d _ rfl hd ⟨by rw [List.length_set]; exact ST.out.rel.len, hsub.lt, hsub.other, hdq, hS⟩ (ST.out.row.set _ _) (ST.out.only.set _ _))
        rw [← hx3] at FIN2
        clear hsub hpe hdq hS hx3
        go_wp2
        (try go_ret)
        exact FIN2.out
end Go.Proofs.YtdoponlhiidimaaGreatDoor

/- Contracts of the reference's functions that change their own memory: cut, down, take; and of zeros. Conditions: the slices hold the digits that are named, in memory of their own. -/
namespace Go.Proofs.YtdoponlhiidimaaGreatDoor
open Go.RowKit LimbN

/-- Block g holds the digits xs from place o on. -/
structure Part (w : World) (g : Nat) (t : TypeId) (o : Nat) (xs : List Nat) : Prop where
  ex : ∃ cur : Array Value, w.heap[g]? = some (.cells cur t (0, 0)) ∧ o + xs.length ≤ cur.size ∧ ∀ i : Nat, i < xs.length → cur[o + i]? = some (.int .u32 (xs[i]?.getD 0 : Nat))
theorem Part.cell {w : World} {g o : Nat} {t : TypeId} {xs : List Nat} (h : Part w g t o xs) (i : Nat) (hi : i < xs.length) : w.cell? ⟨g, o + i, none⟩ = some (.int .u32 (xs[i]?.getD 0 : Nat)) := by
  obtain ⟨cur, hb, _, hc⟩ := h.ex
  rw [cell_of_row w g (o + i) cur t (0, 0) hb]
  exact hc i hi
theorem Part.free {w : World} {g o : Nat} {t : TypeId} {xs : List Nat} (h : Part w g t o xs) (i : Nat) : w.frozen? ⟨g, i, none⟩ = false := by
  obtain ⟨cur, hb, _, _⟩ := h.ex
  exact frozen_of_row w g i cur t hb
theorem Part.lt {w : World} {g o : Nat} {t : TypeId} {xs : List Nat} (h : Part w g t o xs) : g < w.heap.size := by
  obtain ⟨cur, hb, _, _⟩ := h.ex
  exact lt_of_block hb
theorem Part.set {w : World} {g o : Nat} {t : TypeId} {xs : List Nat} (h : Part w g t o xs) (i d : Nat) (D : Int) (hD : D = (d : Int)) (hi : i < xs.length) : Part (w.setCell ⟨g, o + i, none⟩ (.int .u32 D)) g t o (xs.set i d) := by
  subst hD
  obtain ⟨cur, hb, hs, hc⟩ := h.ex
  refine ⟨_, heap_setCell_same w g (o + i) _ t _ hb, by simpa using hs, fun j hj => ?_⟩
  rw [List.length_set] at hj
  rw [Array.getElem?_setIfInBounds]
  by_cases hji : i = j
  · subst hji
    rw [if_pos rfl, if_pos (by omega)]
    simp [hi]
  · rw [if_neg (by omega), hc j hj, List.getElem?_set, if_neg hji]
theorem Part.other {w w' : World} {g k o : Nat} {t : TypeId} {xs : List Nat} (h : Part w g t o xs) (ho : Only k w w') (hne : g ≠ k) : Part w' g t o xs := by
  obtain ⟨cur, hb, hs, hc⟩ := h.ex
  exact ⟨cur, (ho.block g hne).trans hb, hs, hc⟩
theorem Part.keep {w w' : World} {g o : Nat} {t : TypeId} {xs : List Nat} (h : Part w g t o xs) (hk : Kp w w') : Part w' g t o xs := by
  have hl := h.lt
  obtain ⟨cur, hb, hs, hc⟩ := h.ex
  exact ⟨cur, (hk.block g hl).trans hb, hs, hc⟩
theorem Part.drop {w : World} {g o : Nat} {t : TypeId} {xs : List Nat} (h : Part w g t o xs) (k : Nat) (hk : k ≤ xs.length) : Part w g t (o + k) (xs.drop k) := by
  obtain ⟨cur, hb, hs, hc⟩ := h.ex
  refine ⟨cur, hb, by rw [List.length_drop]; omega, fun i hi => ?_⟩
  rw [List.length_drop] at hi
  rw [Nat.add_assoc, hc (k + i) (by omega), List.getElem?_drop]
theorem Part.take {w : World} {g o : Nat} {t : TypeId} {xs : List Nat} (h : Part w g t o xs) (k : Nat) : Part w g t o (xs.take k) := by
  obtain ⟨cur, hb, hs, hc⟩ := h.ex
  refine ⟨cur, hb, by rw [List.length_take]; omega, fun i hi => ?_⟩
  rw [List.length_take] at hi
  rw [hc i (by omega), List.getElem?_take, if_pos (by omega)]
theorem Part.at {w : World} {g o : Nat} {t : TypeId} {xs : List Nat} (h : Part w g t o xs) : At w (some ⟨g, o, none⟩) xs := .inr ⟨g, o, rfl, fun i hi => h.cell i hi⟩
theorem Part.sl {w : World} {g o cap : Nat} {t : TypeId} {xs : List Nat} (h : Part w g t o xs) (hl : Lt xs) (hc : xs.length ≤ cap) (hm : cap ≤ maxLen) (hs : xs.length ≤ 35184372088832) : Sl w (.slice (some ⟨g, o, none⟩) xs.length cap) xs :=
  ⟨⟨_, cap, rfl, hc, hm, h.at, fun h => nomatch h⟩, hl, hs⟩
theorem Part.of_row {w : World} {g : Nat} {t : TypeId} {zs : List Nat} (h : Row w g t zs) : Part w g t 0 zs := by
  refine ⟨_, h.blk, by simp [U], fun i hi => ?_⟩
  rw [Nat.zero_add]
  simp [U, List.getElem?_eq_getElem hi]
theorem Part.of_owns {w : World} {base : Nat} {t : TypeId} {v : Value} {n : Nat} {zs : List Nat} (h : w.ownsRow base t 1 v n (U zs)) (h0 : 0 < n) : ∃ g cap, v = .slice (some ⟨g, 0, none⟩) zs.length cap ∧ base ≤ g ∧ zs.length ≤ cap ∧ cap ≤ maxLen ∧ Part w g t 0 zs := by
  have hn : zs.length = n := by have := h.1; rw [U_length] at this; omega
  rcases h.2 with ⟨_, h1⟩ | ⟨g, cap, cur, rfl, hb, hg, hnc, hcm, hsz, htake⟩
  · omega
  · have hlen : zs.length ≤ cur.size := by
      have := congrArg List.length htake
      rw [List.length_take, U_length] at this
      simp at this
      omega
    refine ⟨g, cap, by rw [hn], hb, by omega, hcm, cur, hg, by omega, fun i hi => ?_⟩
    rw [Nat.zero_add]
    have h1 : (cur.toList.take (n * 1))[i]? = (U zs)[i]? := by rw [htake]
    rw [List.getElem?_take, if_pos (by omega)] at h1
    rw [← Array.getElem?_toList, h1]
    simp [U, List.getElem?_eq_getElem hi]

-- the reference's cut
set_option maxHeartbeats 400000 in
theorem cut_walk (ao : Option Addr) (cap : Nat) (xs : List Nat) (w : World) (hc : xs.length ≤ cap) (hm : cap ≤ maxLen) (ha : At w ao xs) :
    Calls Tryz.prog 90 #[.slice ao xs.length cap] w fun e w' =>
      (∃ k, k ≤ xs.length ∧ ZeroFrom k xs ∧ (k = 0 ∨ xs[k - 1]?.getD 0 ≠ 0) ∧ e = .returned (.slice ao k cap)) ∧ w = w' := by
  unfold maxLen at hm
  have HAT := Lib.hid ha; clear ha
  obtain ⟨len, hlen⟩ : ∃ len, len = xs.length := ⟨_, rfl⟩
  rw [← hlen] at hc
  rw [← hlen]
  have HL := Lib.hid hlen; clear hlen
  go_enter Tryz.func90, Tryz.ntmps90
  go_wp2
  go_loop [3] (fun i => ∃ k : Nat, k ≤ len ∧ i = .int .i64 k ∧ ZeroFrom k xs) (fun i => (intOf i).toNat)
  case atStart => exact ⟨len, Nat.le_refl _, rfl, by rw [HL.out]; exact ZeroFrom.all xs⟩
  case round =>
    obtain ⟨k, hk, rfl, hz⟩ := hrel
    have HZ := Lib.hid hz; clear hz
    by_cases h0 : k = 0
    · subst h0
      go_wp2
      go_ret
      exact ⟨⟨0, Nat.zero_le _, HZ.out, .inl rfl, rfl⟩, rfl⟩
    · obtain ⟨b, off, rfl, hcells⟩ := HAT.out.cells (by have := HL.out; omega)
      have hcell := hcells (k - 1) (by have := HL.out; omega)
      clear hcells
      obtain ⟨z, ez⟩ : ∃ z, z = xs[k - 1]?.getD 0 := ⟨_, rfl⟩
      rw [← ez] at hcell
      have EZ := Lib.hid ez; clear ez
      have hk0 : (0 : Int) < (k : Int) := by omega
      have hkf : ((k : Int) == 0) = false := beq_eq_false_iff_ne.2 (by omega)
      by_cases hz0 : z = 0
      · subst hz0
        go_wp2
        go_round
        case rel => exact ⟨k - 1, by omega, vint (by omega), ZeroFrom.down (by have := HZ.out; rwa [show k - 1 + 1 = k by omega]) EZ.out.symm⟩
        case measure => simp [intOf]; omega
      · have hzf : ((z : Int) == 0) = false := beq_eq_false_iff_ne.2 (by omega)
        go_wp2
        go_ret
        exact ⟨⟨k, by have := HL.out; omega, HZ.out, .inr (by rw [← EZ.out]; exact hz0), rfl⟩, rfl⟩
/-- A number in memory of the call's own, without zeros at its end. -/
structure Mine (n g cap : Nat) (t : TypeId) (w : World) (e : Ending) (w' : World) : Prop where
  ex : ∃ o c, e = .returned (.slice (some ⟨g, o, none⟩) (limbs n).length c) ∧ Part w' g t o (limbs n) ∧ (limbs n).length ≤ c ∧ c ≤ cap
  only : Only g w w'
theorem cut_part {w : World} {g o cap : Nat} {t : TypeId} {xs : List Nat} (h : Part w g t o xs) (hl : Lt xs) (hc : xs.length ≤ cap) (hm : cap ≤ maxLen) :
    Calls Tryz.prog 90 #[.slice (some ⟨g, o, none⟩) xs.length cap] w (Mine (val xs) g cap t w) := by
  refine (cut_walk _ cap xs w hc hm h.at).mono ?_
  rintro e w' ⟨⟨k, hk, hz, he, rfl⟩, rfl⟩
  have e1 := trim_eq hl k hk hz he
  have e2 := trim_len hl k hk hz he
  exact ⟨⟨o, cap, by rw [e2], by rw [e1]; exact h.take k, by rw [e2]; omega, Nat.le_refl _⟩, Only.refl _ _⟩

theorem Part.drewN {w : World} {g o : Nat} {t : TypeId} {xs : List Nat} (h : Part w g t o xs) (n : Nat) : Part (w.drewN n) g t o xs := h.keep (Kp.drewN w n)
/-- The own memory of a call is all that has changed. -/
theorem Part.same {w w' : World} {g o : Nat} {t : TypeId} {xs : List Nat} (h : Part w g t o xs) (e : w = w') : Part w' g t o xs := e ▸ h

-- the reference's down
set_option maxRecDepth 100000 in
set_option maxHeartbeats 1000000 in
theorem down_any {w : World} {g o cap : Nat} {t : TypeId} {xs : List Nat} (h : Part w g t o xs) (hl : Lt xs) (hc : xs.length ≤ cap) (hm : cap ≤ maxLen) (hs : xs.length ≤ 2000) (q r : Nat) (hq : q < xs.length) (hr : r < 32) (n : Nat) (hn : n = 32 * q + r) :
    Calls Tryz.prog 66 #[.slice (some ⟨g, o, none⟩) xs.length cap, .int .i64 n] w (Mine (val xs / 2 ^ n) g cap t w) := by
  have hval : val xs / 2 ^ n = val (xs.drop q) / 2 ^ r := by
    have e := val_append (xs.take q) (xs.drop q)
    rw [List.take_append_drop, List.length_take, Nat.min_eq_left (by omega)] at e
    have hb := val_lt (hl.take q)
    rw [List.length_take, Nat.min_eq_left (by omega)] at hb
    have hp : (2 : Nat) ^ n = 4294967296 ^ q * 2 ^ r := by rw [hn, Nat.pow_add, Nat.pow_mul]
    rw [hp, ← Nat.div_div_eq_div_mul]
    congr 1
    rw [e, Nat.add_comm, Nat.mul_add_div (Nat.pow_pos (by omega)), Nat.div_eq_of_lt hb, Nat.add_zero]
  have FIN : Hid (∀ e w1 w', Mine (val (xs.drop q) / 2 ^ r) g (cap - q) t w1 e w' → Only g w w1 → Mine (val xs / 2 ^ n) g cap t w e w') := by
    intro e w1 w' h1 h2
    rw [hval]
    obtain ⟨⟨o', c, rfl, hp, h3, h4⟩, h5⟩ := h1
    exact ⟨⟨o', c, rfl, hp, h3, by omega⟩, h2.trans h5⟩
  obtain ⟨Q, hQ⟩ : ∃ Q, Q = Mine (val xs / 2 ^ n) g cap t w := ⟨_, rfl⟩
  rw [← hQ] at FIN ⊢
  have hys := hl.drop q
  have hpy := h.drop q (by omega)
  obtain ⟨ys, hy⟩ : ∃ ys, ys = xs.drop q := ⟨_, rfl⟩
  have hyl : ys.length = xs.length - q := by rw [hy, List.length_drop]
  rw [← hy] at hys hpy FIN
  obtain ⟨len, hlen⟩ : ∃ len, len = xs.length := ⟨_, rfl⟩
  rw [← hlen] at hc hs hq hyl
  rw [← hlen]
  unfold maxLen at hm
  have HYS := Lib.hid hys; have HPY := Lib.hid hpy; have HYL := Lib.hid hyl
  clear h hl hval hQ hys hpy hy hyl hlen
  have hmin : min (len : Int) (q : Int) = (q : Int) := by omega
  have hd1 : (n : Int) / 32 = (q : Int) := by omega
  have hd2 : (n : Int) % 32 = (r : Int) := by omega
  have HN := Lib.hid hn
  clear hn
  go_enter Tryz.func66, Tryz.ntmps66
  go_wp2_with fail
  go_loopw [5] (fun i wr => ∃ (k : Nat) (zr : List Nat), k ≤ len - q ∧ i = .int .i64 k ∧ LowRel ys r k zr ∧ Part wr g t (o + q) zr ∧ Only g w wr) (fun i _ => len - q - (intOf i).toNat)
  case atStart => exact ⟨0, ys, Nat.zero_le _, rfl, LowRel.start r HYS.out, HPY.out, Only.refl _ _⟩
  case round =>
    obtain ⟨k, zr, hk, rfl, hrel', hpart, honly⟩ := hrel
    rename World => wr
    have hzl : zr.length = len - q := by rw [hrel'.len, HYL.out]
    by_cases hlt : k < len - q
    · have hcell := hpart.cell k (by omega)
      have hfree : wr.frozen? ⟨g, o + q + k, none⟩ = false := hpart.free _
      rw [hrel'.high k (Nat.le_refl _)] at hcell
      have hxb := HYS.out k
      have HREL := Lib.hid hrel'; have HP := Lib.hid hpart; have HON := Lib.hid honly
      by_cases hlt1 : k + 1 < len - q
      · have hcell1 := hpart.cell (k + 1) (by omega)
        rw [hrel'.high (k + 1) (by omega)] at hcell1
        have hxb1 := HYS.out (k + 1)
        have hst := hrel'.step hr (by rw [HYL.out]; exact hlt) HYS.out rfl
        obtain ⟨x, ex⟩ : ∃ x, x = ys[k]?.getD 0 := ⟨_, rfl⟩
        rw [← ex] at hcell hxb hst
        obtain ⟨x1, ex1⟩ : ∃ x, x = ys[k + 1]?.getD 0 := ⟨_, rfl⟩
        rw [← ex1] at hcell1 hxb1 hst
        clear hrel' hpart honly ex ex1
        have hor := or_u64' hxb hxb1
        obtain ⟨u, hu⟩ : ∃ u, u = x + 4294967296 * x1 := ⟨_, rfl⟩
        rw [← hu] at hor hst
        have hub : u < 18446744073709551616 := by omega
        have hdv := shr_id (t := u) (s := r)
        obtain ⟨p, hp⟩ : ∃ p, p = u / 2 ^ r := ⟨_, rfl⟩
        rw [← hp] at hst hdv
        have hpb : p ≤ u := by rw [hp]; exact Nat.div_le_self _ _
        have HST := Lib.hid hst
        clear hst hp hu
        go_wp2
        go_roundw
        case rel => exact ⟨k + 1, zr.set k (p % 4294967296), by omega, vint (by omega), HST.out.2, HP.out.set k (p % 4294967296) _ (by omega) (by omega), HON.out.set _ _⟩
        case measure => simp [intOf]; omega
      · have hst := hrel'.step hr (by rw [HYL.out]; exact hlt) HYS.out rfl
        rw [List.getElem?_eq_none (show ys.length ≤ k + 1 by rw [HYL.out]; omega), Option.getD_none, Nat.mul_zero, Nat.add_zero] at hst
        obtain ⟨x, ex⟩ : ∃ x, x = ys[k]?.getD 0 := ⟨_, rfl⟩
        rw [← ex] at hcell hxb hst
        clear hrel' hpart honly ex
        have hdv := shr_id (t := x) (s := r)
        obtain ⟨p, hp⟩ : ∃ p, p = x / 2 ^ r := ⟨_, rfl⟩
        rw [← hp] at hst hdv
        have hpb : p ≤ x := by rw [hp]; exact Nat.div_le_self _ _
        have HST := Lib.hid hst
        clear hst hp
        go_wp2
        go_roundw
        case rel => exact ⟨k + 1, zr.set k (p % 4294967296), by omega, vint (by omega), HST.out.2, HP.out.set k (p % 4294967296) _ (by omega) (by omega), HON.out.set _ _⟩
        case measure => simp [intOf]; omega
    · have hkl : k = len - q := by omega
      subst hkl
      rw [← HYL.out] at hrel'
      have hv := hrel'.fin
      have hcut := cut_part (cap := cap - q) hpart hrel'.lt (by omega) (by unfold maxLen; omega)
      rw [hzl, hv] at hcut
      have HCUT := Lib.hid hcut; have HON := Lib.hid honly
      clear hrel' hpart honly hv hcut hzl
      go_wp2_with fail
      refine HCUT.out.mono ?_
      intro e w2 hm2
      have FIN2 := Lib.hid (FIN.out _ _ _ hm2 HON.out)
      obtain ⟨⟨o2, c2, rfl, -, -, -⟩, -⟩ := hm2
      go_wp2
      (try go_ret)
      exact FIN2.out
end Go.Proofs.YtdoponlhiidimaaGreatDoor

/- Contracts of the reference's zeros and take: the number of zeros at the low end, and a difference in place. Conditions: the slices hold the digits that are named. -/
namespace Go.Proofs.YtdoponlhiidimaaGreatDoor
open Go.RowKit LimbN

/-- 2^k is the greatest power of two that divides n. -/
def Low (n k : Nat) : Prop := 2 ^ k ∣ n ∧ n / 2 ^ k % 2 = 1
theorem low_limb {xs : List Nat} {m i : Nat} (hz : ∀ j : Nat, j < m → xs[j]?.getD 0 = 0) (hm : m < xs.length) (hi : i < 32) (hl : Low (xs[m]?.getD 0) i) : Low (val xs) (32 * m + i) := by
  have e : val xs = 4294967296 ^ m * val (xs.drop m) := by
    have h := val_append (xs.take m) (xs.drop m)
    rw [List.take_append_drop, List.length_take, Nat.min_eq_left (by omega)] at h
    have h0 : val (xs.take m) = 0 := val_eq_zero.2 (fun j => by
      rw [List.getElem?_take]
      split
      · exact hz j (by assumption)
      · rfl)
    rw [h, h0, Nat.zero_add]
  rw [val_drop hm] at e
  obtain ⟨⟨u, hu⟩, ho⟩ := hl
  rw [hu, Nat.mul_div_cancel_left _ (Nat.pow_pos (by omega))] at ho
  have e32 := pow32 hi
  have hp : (2 : Nat) ^ (32 * m + i) = 4294967296 ^ m * 2 ^ i := by rw [Nat.pow_add, Nat.pow_mul]
  have hev : 2 ^ (32 - i) % 2 = 0 := by
    obtain ⟨k, hk⟩ : ∃ k, 32 - i = k + 1 := ⟨31 - i, by omega⟩
    rw [hk, Nat.pow_succ, Nat.mul_mod_left]
  have e2 : val xs = 2 ^ (32 * m + i) * (u + 2 ^ (32 - i) * val (xs.drop (m + 1))) := by
    rw [e, hu, hp, ← e32, Nat.mul_add, Nat.mul_add]; simp only [Nat.mul_assoc]
  refine ⟨⟨_, e2⟩, ?_⟩
  rw [e2, Nat.mul_div_cancel_left _ (Nat.pow_pos (by omega)), Nat.add_mod, Nat.mul_mod, hev, Nat.zero_mul, ho]
theorem low_half {x i n : Nat} (hx : x = n / 2 ^ i) (hd : 2 ^ i ∣ n) (he : x % 2 = 0) : 2 ^ (i + 1) ∣ n ∧ x / 2 = n / 2 ^ (i + 1) := by
  obtain ⟨u, hu⟩ := hd
  rw [hu, Nat.mul_div_cancel_left _ (Nat.pow_pos (by omega))] at hx
  subst hx
  obtain ⟨v, hv⟩ := Nat.dvd_of_mod_eq_zero he
  subst hv
  have : n = 2 ^ (i + 1) * v := by rw [hu, Nat.pow_succ, Nat.mul_assoc]
  refine ⟨⟨v, this⟩, ?_⟩
  rw [this, Nat.mul_div_cancel_left _ (Nat.pow_pos (by omega)), Nat.mul_div_cancel_left _ (by omega)]
/-- The number of zeros at the low end. -/
structure ZeroR (xs : List Nat) (w : World) (e : Ending) (w' : World) : Prop where
  ex : ∃ k : Nat, e = .returned (.int .i64 k) ∧ Low (val xs) k
  same : w = w'
set_option maxRecDepth 100000 in
set_option maxHeartbeats 1000000 in
theorem zeros_any {xs : List Nat} {v : Value} {w : World} (ha : Sl w v xs) (h0 : val xs ≠ 0) (hlen : xs.length ≤ 1000) :
    Calls Tryz.prog 65 #[v] w (ZeroR xs w) := by
  obtain ⟨⟨ao, cap, rfl, hc, hm, hat, _⟩, hl, _⟩ := ha
  have hnz : ∃ m : Nat, m < xs.length ∧ (∀ j : Nat, j < m → xs[j]?.getD 0 = 0) ∧ xs[m]?.getD 0 ≠ 0 := by
    refine Classical.byContradiction fun hn => h0 (val_eq_zero.2 fun i => ?_)
    induction i using Nat.strongRecOn with
    | _ i ih =>
      by_cases hi : i < xs.length
      · exact Classical.byContradiction fun h => hn ⟨i, hi, fun j hj => ih j hj, h⟩
      · rw [List.getElem?_eq_none (by omega)]; rfl
  obtain ⟨m, hm1, hm2, hm3⟩ := hnz
  have FIN : Hid (∀ (k : Nat), Low (val xs) k → ZeroR xs w (.returned (.int .i64 (k : Int))) w) := fun k h => ⟨⟨k, rfl, h⟩, rfl⟩
  obtain ⟨Q, hQ⟩ : ∃ Q, Q = ZeroR xs w := ⟨_, rfl⟩
  rw [← hQ] at FIN ⊢
  have hmb := hl m
  obtain ⟨b, off, rfl, hcells⟩ := hat.cells (by omega)
  have hcm := hcells m hm1
  obtain ⟨y, ey⟩ : ∃ y, y = xs[m]?.getD 0 := ⟨_, rfl⟩
  rw [← ey] at hcm hm3 hmb
  have EY := Lib.hid ey; have HZ := Lib.hid hm2; have HCELLS := Lib.hid hcells; have HM1 := Lib.hid hm1
  obtain ⟨len, hlen'⟩ : ∃ len, len = xs.length := ⟨_, rfl⟩
  rw [← hlen'] at hc hlen hm1 ⊢
  have HL := Lib.hid hlen'
  have hyf : ((y : Int) == 0) = false := beq_eq_false_iff_ne.2 (by omega)
  unfold maxLen at hm
  clear hat hl h0 hQ hm2 hcells ey hlen'
  go_enter Tryz.func65, Tryz.ntmps65
  go_wp2_with fail
  go_loop [3] (fun i => ∃ k : Nat, k ≤ m ∧ i = .int .i64 k) (fun i => m - (intOf i).toNat)
  case atStart => exact ⟨0, Nat.zero_le _, rfl⟩
  case round =>
    obtain ⟨k, hk, rfl⟩ := hrel
    by_cases hkm : k < m
    · have hcell := HCELLS.out k (by have := HM1.out; omega)
      rw [HZ.out k hkm] at hcell
      go_wp2
      go_round
      case rel => exact ⟨k + 1, by omega, vint (by omega)⟩
      case measure => simp [intOf]; omega
    · have hkk : k = m := by omega
      subst hkk
      go_wp2_with fail
      go_loop [4, 5] (fun kv xv => ∃ (i x : Nat), kv = .int .i64 ((32 * k + i : Nat) : Int) ∧ xv = .int .u32 x ∧ i < 32 ∧ 0 < x ∧ x = y / 2 ^ i ∧ 2 ^ i ∣ y) (fun _ xv => (intOf xv).toNat)
      case atStart => exact ⟨0, y, vint (by omega), rfl, by omega, by omega, by simp, ⟨y, by simp⟩⟩
      case round =>
        obtain ⟨i, x, rfl, rfl, hi, hx0, hx, hd⟩ := hrel
        have hxy : x ≤ y := by rw [hx]; exact Nat.div_le_self _ _
        have HX := Lib.hid hx; have HD := Lib.hid hd
        clear hx hd
        by_cases he : x % 2 = 0
        · have hef : ((x : Int) % 2 == 0) = true := by rw [beq_iff_eq]; omega
          have hh := low_half HX.out HD.out he
          have hi31 : i + 1 < 32 := by
            refine Nat.lt_of_not_le fun h => ?_
            have h32 : i + 1 = 32 := by omega
            have h2 := hh.2
            have h3 : y / 2 ^ (i + 1) = 0 := by rw [h32]; exact Nat.div_eq_of_lt (by omega)
            rw [h3] at h2
            omega
          have HH := Lib.hid hh; clear hh
          go_wp2
          go_round
          case rel => exact ⟨i + 1, x / 2, vint (by omega), vint (by omega), hi31, by omega, HH.out.2, HH.out.1⟩
          case measure => simp [intOf]; omega
        · have hef : ((x : Int) % 2 == 0) = false := beq_eq_false_iff_ne.2 (by omega)
          have hlow : Low (val xs) (32 * k + i) := low_limb HZ.out HM1.out hi ⟨by rw [← EY.out]; exact HD.out, by rw [← EY.out, ← HX.out]; omega⟩
          have FIN2 := Lib.hid (FIN.out _ hlow)
          clear hlow
          go_wp2
          (try go_ret)
          exact FIN2.out

-- the reference's take
set_option maxRecDepth 100000 in
set_option maxHeartbeats 2000000 in
theorem take_any {w : World} {g o cap : Nat} {t : TypeId} {xs ys : List Nat} {vb : Value} (h : Part w g t o xs) (hl : Lt xs) (hc : xs.length ≤ cap) (hm : cap ≤ maxLen) (hs : xs.length ≤ 1000) (hb : Sl w vb ys) (hoff : Off g vb ys) (hll : ys.length ≤ xs.length) (hle : val ys ≤ val xs) :
    Calls Tryz.prog 67 #[.slice (some ⟨g, o, none⟩) xs.length cap, vb] w (Mine (val xs - val ys) g cap t w) := by
  have FIN : Hid (∀ e w1 w', Mine (val xs - val ys) g cap t w1 e w' → Only g w w1 → Mine (val xs - val ys) g cap t w e w') := by
    intro e w1 w' h1 h2
    obtain ⟨⟨o', c, rfl, hp, h3, h4⟩, h5⟩ := h1
    exact ⟨⟨o', c, rfl, hp, h3, h4⟩, h2.trans h5⟩
  obtain ⟨Q, hQ⟩ : ∃ Q, Q = Mine (val xs - val ys) g cap t w := ⟨_, rfl⟩
  rw [← hQ] at FIN ⊢
  obtain ⟨⟨bo, cb, rfl, hcb, hcm, hat, _⟩, hys, _⟩ := hb
  obtain ⟨la, hla⟩ : ∃ la, la = xs.length := ⟨_, rfl⟩
  obtain ⟨lb, hlb⟩ : ∃ lb, lb = ys.length := ⟨_, rfl⟩
  rw [← hla] at hc hs hll
  rw [← hlb] at hcb hll hoff
  rw [← hla, ← hlb]
  unfold maxLen at hm hcm
  have HP := Lib.hid h; have HXS := Lib.hid hl; have HAT := Lib.hid hat; have HYS := Lib.hid hys; have HOFF := Lib.hid hoff; have HLA := Lib.hid hla; have HLB := Lib.hid hlb; have HLE := Lib.hid hle
  clear h hl hat hys hoff hla hlb hle hQ
  go_enter Tryz.func67, Tryz.ntmps67
  go_wp2_with fail
  go_loopw [5, 6] (fun bv i wr => ∃ (k b : Nat) (zr : List Nat), k ≤ la ∧ i = .int .i64 k ∧ bv = .int .u64 b ∧ b ≤ 1 ∧ SubRel xs 0 k b 1 (val (ys.take k)) zr ∧ Part wr g t o zr ∧ Only g w wr) (fun _ i _ => la - (intOf i).toNat)
  case atStart => exact ⟨0, 0, xs, Nat.zero_le _, rfl, rfl, by omega, by simpa [val] using SubRel.start xs 0 1 HXS.out, HP.out, Only.refl _ _⟩
  case round =>
    obtain ⟨k, b, zr, hk, rfl, rfl, hbb, hrel', hpart, honly⟩ := hrel
    rename World => wr
    have hzl : zr.length = la := by rw [hrel'.len, HLA.out]
    by_cases hlt : k < la
    · have hcell := hpart.cell k (by omega)
      have hfree : wr.frozen? ⟨g, o + k, none⟩ = false := hpart.free _
      have hzb := hrel'.lt k
      obtain ⟨z, ez⟩ : ∃ z, z = zr[k]?.getD 0 := ⟨_, rfl⟩
      rw [← ez] at hcell hzb
      have HREL := Lib.hid hrel'; have HPT := Lib.hid hpart; have HON := Lib.hid honly; have EZ := Lib.hid ez
      clear hrel' hpart honly ez
      have STEP : Hid (∀ (y d c2 : Nat) (D : Int), y = ys[k]?.getD 0 → d < 4294967296 → d + (b + 1 * y) = z + 4294967296 * c2 → D = (d : Int) → SubRel xs 0 (k + 1) c2 1 (val (ys.take (k + 1))) (zr.set k d) ∧ Part (wr.setCell ⟨g, o + k, none⟩ (.int .u32 D)) g t o (zr.set k d) ∧ Only g w (wr.setCell ⟨g, o + k, none⟩ (.int .u32 D))) := by
        intro y d c2 D hy hd he hD
        refine ⟨?_, HPT.out.set k d D hD (by omega), HON.out.set _ _⟩
        have := HREL.out.step (by rw [← HLA.out]; omega) y d c2 hd (by rw [Nat.zero_add, ← EZ.out]; exact he)
        rw [Nat.zero_add] at this
        rw [val_take_succ, ← hy]
        exact this
      by_cases hkb : k < lb
      · obtain ⟨bl, off, rfl, hcy⟩ := HAT.out.cells (by have := HLB.out; omega)
        have hnil : ys ≠ [] := fun h => by have := HLB.out; rw [h] at this; simp at this; omega
        have hcelly : wr.cell? ⟨bl, off + k, none⟩ = some (.int .u32 (ys[k]?.getD 0 : Nat)) := (World.cell?_of_block (HON.out.block bl (HOFF.out hnil _ _ _ rfl))).trans (hcy k (by have := HLB.out; omega))
        have hyb := HYS.out k
        obtain ⟨y, ey⟩ : ∃ y, y = ys[k]?.getD 0 := ⟨_, rfl⟩
        rw [← ey] at hcelly hyb
        have EY := Lib.hid ey
        clear hcy hnil ey
        by_cases hz : z < b + y
        · go_wp2
          go_roundw
          case rel =>
            obtain ⟨s1, s2, s3⟩ := STEP.out y (z + 4294967296 - (b + y)) 1 _ EY.out (by omega) (by omega) rfl
            refine ⟨k + 1, 1, _, by omega, vint (by omega), ?_, by omega, s1, ?_, ?_⟩
            · first | rfl | exact vint (by first | omega | (simp only [IntKind.wrap_u64]; omega))
            · have e : ∀ D1 : Int, D1 = ((z + 4294967296 - (b + y) : Nat) : Int) → Part (wr.setCell ⟨g, o + k, none⟩ (.int .u32 D1)) g t o (zr.set k (z + 4294967296 - (b + y))) := fun D1 h => by rw [h]; exact s2
              exact e _ (by first | omega | (simp only [IntKind.wrap_u64]; omega))
            · exact HON.out.set _ _
          case measure => simp [intOf]; omega
        · go_wp2
          go_roundw
          case rel =>
            obtain ⟨s1, s2, s3⟩ := STEP.out y (z - (b + y)) 0 _ EY.out (by omega) (by omega) rfl
            refine ⟨k + 1, 0, _, by omega, vint (by omega), ?_, by omega, s1, ?_, ?_⟩
            · first | rfl | exact vint (by first | omega | (simp only [IntKind.wrap_u64]; omega))
            · have e : ∀ D1 : Int, D1 = ((z - (b + y) : Nat) : Int) → Part (wr.setCell ⟨g, o + k, none⟩ (.int .u32 D1)) g t o (zr.set k (z - (b + y))) := fun D1 h => by rw [h]; exact s2
              exact e _ (by first | omega | (simp only [IntKind.wrap_u64]; omega))
            · exact HON.out.set _ _
          case measure => simp [intOf]; omega
      · have EY : Hid (0 = ys[k]?.getD 0) := by have := HLB.out; show _ = _; rw [List.getElem?_eq_none (by omega)]; rfl
        by_cases hz : z < b
        · go_wp2
          go_roundw
          case rel =>
            obtain ⟨s1, s2, s3⟩ := STEP.out 0 (z + 4294967296 - b) 1 _ EY.out (by omega) (by omega) rfl
            refine ⟨k + 1, 1, _, by omega, vint (by omega), ?_, by omega, s1, ?_, ?_⟩
            · first | rfl | exact vint (by first | omega | (simp only [IntKind.wrap_u64]; omega))
            · have e : ∀ D1 : Int, D1 = ((z + 4294967296 - b : Nat) : Int) → Part (wr.setCell ⟨g, o + k, none⟩ (.int .u32 D1)) g t o (zr.set k (z + 4294967296 - b)) := fun D1 h => by rw [h]; exact s2
              exact e _ (by first | omega | (simp only [IntKind.wrap_u64]; omega))
            · exact HON.out.set _ _
          case measure => simp [intOf]; omega
        · go_wp2
          go_roundw
          case rel =>
            obtain ⟨s1, s2, s3⟩ := STEP.out 0 (z - b) 0 _ EY.out (by omega) (by omega) rfl
            refine ⟨k + 1, 0, _, by omega, vint (by omega), ?_, by omega, s1, ?_, ?_⟩
            · first | rfl | exact vint (by first | omega | (simp only [IntKind.wrap_u64]; omega))
            · have e : ∀ D1 : Int, D1 = ((z - b : Nat) : Int) → Part (wr.setCell ⟨g, o + k, none⟩ (.int .u32 D1)) g t o (zr.set k (z - b)) := fun D1 h => by rw [h]; exact s2
              exact e _ (by first | omega | (simp only [IntKind.wrap_u64]; omega))
            · exact HON.out.set _ _
          case measure => simp [intOf]; omega
    · have hkl : k = la := by omega
      subst hkl
      rw [List.take_of_length_le (by have := HLB.out; omega)] at hrel'
      have hv := sub_whole hrel' HLA.out.symm (by rw [Nat.one_mul]; exact HLE.out)
      rw [Nat.one_mul] at hv
      have hcut := cut_part (cap := cap) hpart hrel'.lt (by omega) (by unfold maxLen; omega)
      rw [hzl, hv] at hcut
      have HCUT := Lib.hid hcut; have HON := Lib.hid honly
      clear hrel' hpart honly hv hcut hzl
      go_wp2_with fail
      refine HCUT.out.mono ?_
      intro e w2 hm2
      have FIN2 := Lib.hid (FIN.out _ _ _ hm2 HON.out)
      obtain ⟨⟨o2, c2, rfl, -, -, -⟩, -⟩ := hm2
      go_wp2
      (try go_ret)
      exact FIN2.out
end Go.Proofs.YtdoponlhiidimaaGreatDoor

/- The reference's greatest common divisor, by shifting and subtracting. Conditions: the slices hold the numbers that are named, of at most 1000 limbs. -/
namespace Go.Proofs.YtdoponlhiidimaaGreatDoor
open Go.RowKit LimbN

/-- A number in new memory. -/
structure Res (n : Nat) (w : World) (e : Ending) (w' : World) : Prop where
  ex : ∃ v, e = .returned v ∧ Sl w' v (limbs n) ∧ New w.heap.size v
  kp : Kp w w'
theorem low_lt {a i : Nat} (h0 : a ≠ 0) (h : Low a i) : i / 32 < (limbs a).length := by
  have h1 : 2 ^ i ≤ a := Nat.le_of_dvd (Nat.pos_of_ne_zero h0) h.1
  have h2 : a < 4294967296 ^ (limbs a).length := limbs_len_le.1 (Nat.le_refl _)
  rw [show (4294967296 : Nat) = 2 ^ 32 by rfl, ← Nat.pow_mul] at h2
  have h3 := (Nat.pow_lt_pow_iff_right (a := 2) (by omega)).1 (Nat.lt_of_le_of_lt h1 h2)
  omega
theorem low_ne {a i : Nat} (_h0 : a ≠ 0) (h : Low a i) : a / 2 ^ i ≠ 0 := by
  have h1 := h.2
  intro h2
  rw [h2] at h1
  simp at h1
/-- How the loop of the subtractions stands. -/
structure GSt (w wr : World) (x y : Value) (X Y : Nat) : Prop where
  ex : ∃ g1 o1 c1 g2 o2 c2, x = .slice (some ⟨g1, o1, none⟩) (limbs X).length c1 ∧ y = .slice (some ⟨g2, o2, none⟩) (limbs Y).length c2 ∧ Part wr g1 43 o1 (limbs X) ∧ Part wr g2 43 o2 (limbs Y) ∧ g1 ≠ g2 ∧
    w.heap.size ≤ g1 ∧ w.heap.size ≤ g2 ∧ (limbs X).length ≤ c1 ∧ c1 ≤ maxLen ∧ (limbs Y).length ≤ c2 ∧ c2 ≤ maxLen
  kp : Kp w wr
  ox : X % 2 = 1
  oy : Y % 2 = 1
  lx : (limbs X).length ≤ 1000
  ly : (limbs Y).length ≤ 1000
theorem GSt.slx {w wr : World} {x y : Value} {X Y : Nat} (h : GSt w wr x y X Y) : Sl wr x (limbs X) := by
  obtain ⟨⟨g1, o1, c1, g2, o2, c2, rfl, rfl, hp1, hp2, hne, hb1, hb2, h1, h2, h3, h4⟩, hk, _, _, hx, hy⟩ := h
  exact hp1.sl (Lt.limbs _) h1 h2 (by omega)
theorem GSt.sly {w wr : World} {x y : Value} {X Y : Nat} (h : GSt w wr x y X Y) : Sl wr y (limbs Y) := by
  obtain ⟨⟨g1, o1, c1, g2, o2, c2, rfl, rfl, hp1, hp2, hne, hb1, hb2, h1, h2, h3, h4⟩, hk, _, _, hx, hy⟩ := h
  exact hp2.sl (Lt.limbs _) h3 h4 (by omega)
theorem GSt.keep {w wr w' : World} {x y : Value} {X Y : Nat} (h : GSt w wr x y X Y) (k : Kp wr w') : GSt w w' x y X Y := by
  obtain ⟨⟨g1, o1, c1, g2, o2, c2, hx, hy, hp1, hp2, hr⟩, hk, h1, h2, h3, h4⟩ := h
  exact ⟨⟨g1, o1, c1, g2, o2, c2, hx, hy, hp1.keep k, hp2.keep k, hr⟩, Kp.trans hk k, h1, h2, h3, h4⟩
theorem GSt.swap {w wr : World} {x y : Value} {X Y : Nat} (h : GSt w wr x y X Y) : GSt w wr y x Y X := by
  obtain ⟨⟨g1, o1, c1, g2, o2, c2, hx, hy, hp1, hp2, hne, hb1, hb2, h1, h2, h3, h4⟩, hk, hox, hoy, hlx, hly⟩ := h
  exact ⟨⟨g2, o2, c2, g1, o1, c1, hy, hx, hp2, hp1, hne.symm, hb2, hb1, h3, h4, h1, h2⟩, hk, hoy, hox, hly, hlx⟩
/-- A step: x is what remains of X - Y. -/
structure GNext (w : World) (X Y : Nat) (yv : Value) (e : Ending) (w' : World) : Prop where
  ex : ∃ v Z, e = .returned v ∧ GSt w w' v yv Z Y ∧ Nat.gcd Z Y = Nat.gcd X Y ∧ Z < X
theorem limbs_le {m n : Nat} (h : m ≤ n) {k : Nat} (hk : (limbs n).length ≤ k) : (limbs m).length ≤ k := Nat.le_trans (limbs_mono h) hk
theorem min_pow (i k : Nat) {M : Nat} (hM : M = min i k) : 4294967296 ^ (M / 32) * 2 ^ (M % 32) = 2 ^ min i k := by
  rw [← hM, show (4294967296 : Nat) = 2 ^ 32 by rfl, ← Nat.pow_mul, ← Nat.pow_add, Nat.div_add_mod]
theorem val_unit (q d : Nat) : val ((List.replicate (q + 1) 0).set q d) = 4294967296 ^ q * d := by
  have e : ((List.replicate (q + 1) 0).set q d).take (q + 1) = (List.replicate (q + 1) 0).set q d := List.take_of_length_le (by simp)
  rw [← e, val_take_succ, List.take_set_of_le (Nat.le_refl _), getD_set _ _ _ _ (by simp), if_pos rfl]
  have : (List.replicate (q + 1) 0).take q = List.replicate q 0 := by simp
  rw [this, val_zeros, Nat.zero_add]

set_option maxRecDepth 100000 in
set_option maxHeartbeats 4000000 in
theorem Common_any {a b : Nat} {va vb : Value} {w : World} (ha : Sl w va (limbs a)) (hb : Sl w vb (limbs b)) (hla : (limbs a).length ≤ 1000) (hlb : (limbs b).length ≤ 1000) :
    Calls Tryz.prog 46 #[va, vb] w (Res (Nat.gcd a b) w) := by
  have FIN : Hid (∀ v w', Sl w' v (limbs (Nat.gcd a b)) → New w.heap.size v → Kp w w' → Res (Nat.gcd a b) w (.returned v) w') := fun v w' h1 h2 h3 => ⟨⟨v, rfl, h1, h2⟩, h3⟩
  obtain ⟨Q, hQ⟩ : ∃ Q, Q = Res (Nat.gcd a b) w := ⟨_, rfl⟩
  rw [← hQ] at FIN ⊢
  clear hQ
  have HA := Lib.hid ha; have HB := Lib.hid hb
  obtain ⟨⟨ao, ca, rfl, hca, hma, hat, hano⟩, -, -⟩ := ha
  obtain ⟨⟨bo, cb, rfl, hcb, hmb, hbt, hbno⟩, -, -⟩ := hb
  have LA := Lib.hid (limbs_len_zero (n := a)); have LB := Lib.hid (limbs_len_zero (n := b))
  obtain ⟨la, ela⟩ : ∃ la, la = (limbs a).length := ⟨_, rfl⟩
  obtain ⟨lb, elb⟩ : ∃ lb, lb = (limbs b).length := ⟨_, rfl⟩
  rw [← ela] at hca hla LA HA ⊢
  rw [← elb] at hcb hlb LB HB ⊢
  unfold maxLen at hma hmb
  have HAT := Lib.hid hat; have HBT := Lib.hid hbt; have HANO := Lib.hid hano; have HBNO := Lib.hid hbno; have ELA := Lib.hid ela; have ELB := Lib.hid elb
  clear hat hbt hano hbno ela elb
  go_enter Tryz.func46, Tryz.ntmps46
  go_wp2_with (at_builtin; refine wpList_app rfl (.const (.slice none 0 0)) (.tmp 10) 24 rfl Tryz.underlying24 w.heap.size _ 0 [] rfl (World.ownsRow_nil _ _ _ _) ao la ca (limbs a) rfl ELA.out.symm HAT.out HANO.out (by omega) (Nat.le_refl _) ?_)
  intro v1 w1 hown1 hgr1
  have HK1 : Hid (Kp w w1) := Kp.grown hgr1 (by simp [Value.ownBlock])
  have HOWN1 := Lib.hid hown1
  clear hown1 hgr1
  have HBT1 := Lib.hid (HBT.out.keep HK1.out)
  go_wp2_with (at_builtin; refine wpList_app rfl (.const (.slice none 0 0)) (.tmp 12) 24 rfl Tryz.underlying24 w1.heap.size _ 0 [] rfl (World.ownsRow_nil _ _ _ _) bo lb cb (limbs b) rfl ELB.out.symm HBT1.out HBNO.out (by omega) (Nat.le_refl _) ?_)
  intro v2 w2 hown2 hgr2
  have HK12 : Hid (Kp w1 w2) := Kp.grown hgr2 (by simp [Value.ownBlock])
  have HK2 := Lib.hid (Kp.trans HK1.out HK12.out)
  have HOWN2 := Lib.hid hown2
  clear hown2 hgr2
  by_cases ha0 : la = 0
  · subst ha0
    have hgcd : Nat.gcd a b = b := by rw [LA.out.1 rfl, Nat.gcd_zero_left]
    have hs2 := sl_of_owns (zs := limbs b) HOWN2.out (Lt.limbs _) (by have := ELB.out; omega)
    have FIN2 := Lib.hid (FIN.out v2 w2 (by rw [hgcd]; exact hs2.1) (hs2.2.mono HK1.out.size) HK2.out)
    clear hs2 hgcd
    go_wp2
    (try go_ret)
    exact FIN2.out
  have hla0 : ((la : Int) == 0) = false := beq_eq_false_iff_ne.2 (by omega)
  by_cases hb0 : lb = 0
  · subst hb0
    have hgcd : Nat.gcd a b = a := by rw [LB.out.1 rfl, Nat.gcd_zero_right]
    have hs1 := sl_of_owns (zs := limbs a) HOWN1.out (Lt.limbs _) (by have := ELA.out; omega)
    have FIN2 := Lib.hid (FIN.out v1 w2 (by rw [hgcd]; exact hs1.1.keep HK12.out) hs1.2 HK2.out)
    clear hs1 hgcd
    go_wp2
    (try go_ret)
    exact FIN2.out
  have hlb0 : ((lb : Int) == 0) = false := beq_eq_false_iff_ne.2 (by omega)
  have AN : Hid (a ≠ 0) := fun h => ha0 (LA.out.2 h)
  have BN : Hid (b ≠ 0) := fun h => hb0 (LB.out.2 h)
  obtain ⟨g1, c1, rfl, hb1, hc1, hm1, hp1⟩ := Part.of_owns (zs := limbs a) HOWN1.out (by omega)
  obtain ⟨g2, c2, rfl, hb2, hc2, hm2, hp2⟩ := Part.of_owns (zs := limbs b) HOWN2.out (by omega)
  have hne : g1 ≠ g2 := by have := hp1.lt; omega
  have hb2' : w.heap.size ≤ g2 := Nat.le_trans HK1.out.size hb2
  have hp1' := hp1.keep HK12.out
  have hs1 := hp1'.sl (Lt.limbs a) hc1 hm1 (by have := ELA.out; omega)
  have hs2 := hp2.sl (Lt.limbs b) hc2 hm2 (by have := ELB.out; omega)
  have HS1 := Lib.hid hs1; have HS2 := Lib.hid hs2; have HP1 := Lib.hid hp1'; have HP2 := Lib.hid hp2
  rw [← ELA.out] at HS1 hc1 ⊢
  rw [← ELB.out] at HS2 hc2 ⊢
  unfold maxLen at hm1 hm2
  clear hp1 hp2 hp1' hs1 hs2 HOWN1 HOWN2
  go_wp2_with fail
  refine (zeros_any HS1.out (by rw [val_limbs]; exact AN.out) (by have := ELA.out; omega)).mono ?_
  rintro e w3 ⟨⟨i, rfl, hi⟩, hw3⟩
  obtain rfl := hw3.symm
  rw [val_limbs] at hi
  have HI := Lib.hid hi; have hi32 := low_lt AN.out hi; clear hi
  rw [← ELA.out] at hi32
  go_wp2_with fail
  refine (zeros_any HS2.out (by rw [val_limbs]; exact BN.out) (by have := ELB.out; omega)).mono ?_
  rintro e w3 ⟨⟨k, rfl, hk⟩, hw3⟩
  obtain rfl := hw3.symm
  rw [val_limbs] at hk
  have HKK := Lib.hid hk; have hk32 := low_lt BN.out hk; clear hk
  rw [← ELB.out] at hk32
  have hda := down_any (cap := c1) HP1.out (Lt.limbs a) (by rw [← ELA.out]; exact hc1) (by unfold maxLen; omega) (by rw [← ELA.out]; omega) (i / 32) (i % 32) (by rw [← ELA.out]; exact hi32) (Nat.mod_lt _ (by omega)) i (Nat.div_add_mod i 32).symm
  rw [val_limbs, ← ELA.out] at hda
  have HDA := Lib.hid hda; clear hda
  go_wp2_with fail
  refine HDA.out.mono ?_
  rintro e w4 ⟨⟨o1, d1, rfl, hp14, hl1, hd1⟩, ho4⟩
  have hp24 := HP2.out.other ho4 hne.symm
  have HK4 := Lib.hid (Only.kp HK2.out ho4 hb1)
  have HP14 := Lib.hid hp14; have HL1 := Lib.hid hl1
  have hdb := down_any (cap := c2) hp24 (Lt.limbs b) (by rw [← ELB.out]; exact hc2) (by unfold maxLen; omega) (by rw [← ELB.out]; omega) (k / 32) (k % 32) (by rw [← ELB.out]; exact hk32) (Nat.mod_lt _ (by omega)) k (Nat.div_add_mod k 32).symm
  rw [val_limbs, ← ELB.out] at hdb
  have HDB := Lib.hid hdb; clear hdb hp14 hp24 hl1 ho4
  obtain ⟨l1, el1⟩ : ∃ l1, l1 = (limbs (a / 2 ^ i)).length := ⟨_, rfl⟩
  rw [← el1] at HL1 ⊢
  have EL1 := Lib.hid el1; clear el1
  go_wp2_with fail
  refine HDB.out.mono ?_
  rintro e w5 ⟨⟨o2, d2, rfl, hp25, hl2, hd2⟩, ho5⟩
  have hp15 := HP14.out.other ho5 hne
  have ST0 : Hid (GSt w w5 (.slice (some ⟨g1, o1, none⟩) l1 d1) (.slice (some ⟨g2, o2, none⟩) (limbs (b / 2 ^ k)).length d2) (a / 2 ^ i) (b / 2 ^ k)) :=
    ⟨⟨g1, o1, d1, g2, o2, d2, by rw [EL1.out], rfl, hp15, hp25, hne, hb1, hb2', by have := HL1.out; have := EL1.out; omega, by unfold maxLen; omega, hl2, by unfold maxLen; omega⟩, Only.kp HK4.out ho5 hb2',
      HI.out.2, HKK.out.2, limbs_le (Nat.div_le_self _ _) (by have := ELA.out; omega), limbs_le (Nat.div_le_self _ _) (by have := ELB.out; omega)⟩
  have G0 : Hid (Nat.gcd (a / 2 ^ i) (b / 2 ^ k) * 2 ^ min i k = Nat.gcd a b) := gcd_twos HI.out.1 HKK.out.1 HI.out.2 HKK.out.2
  obtain ⟨l2, el2⟩ : ∃ l2, l2 = (limbs (b / 2 ^ k)).length := ⟨_, rfl⟩
  rw [← el2] at ST0 ⊢
  clear hp25 hl2 ho5 hp15 el2
  have hib : i < 32000 := by omega
  have hkb : k < 32000 := by omega
  go_wp2_with fail
  go_loopw [5, 6] (fun x y wr => ∃ X Y : Nat, GSt w wr x y X Y ∧ Nat.gcd X Y = Nat.gcd (a / 2 ^ i) (b / 2 ^ k)) (fun x y wr => digs wr x + digs wr y)
  case atStart => exact ⟨_, _, ST0.out, rfl⟩
  case round =>
    obtain ⟨X, Y, hst, hg⟩ := hrel
    rename World => wr
    have hsx := hst.slx; have hsy := hst.sly
    obtain ⟨⟨gx, ox, cx, gy, oy, cy, rfl, rfl, hpx, hpy, hne', hbx, hby, hcx, hmx, hcy, hmy⟩, hkr, hox, hoy, hlx, hly⟩ := hst
    have HDX := Lib.hid ((digs_eq hsx).trans (val_limbs X)); have HDY := Lib.hid ((digs_eq hsy).trans (val_limbs Y))
    have HSX := Lib.hid hsx; have HSY := Lib.hid hsy; have HG := Lib.hid hg; have HPX := Lib.hid hpx; have HPY := Lib.hid hpy; have HNE := Lib.hid hne'; have HBx := Lib.hid hbx; have HBy := Lib.hid hby; have HCx := Lib.hid hcx; have HCy := Lib.hid hcy; have HMx := Lib.hid hmx; have HMy := Lib.hid hmy; have HKR := Lib.hid hkr; have Ox := Lib.hid hox; have Oy := Lib.hid hoy; have HLx := Lib.hid hlx; have HLy := Lib.hid hly
    clear hsx hsy hg hpx hpy hne' hbx hby hcx hcy hmx hmy hkr hox hoy hlx hly
    have HOFx : Hid (Off gx (.slice (some ⟨gy, oy, none⟩) (limbs Y).length cy) (limbs Y)) := by intro _ u l c e; simp only [Value.slice.injEq, Option.some.injEq] at e; rw [← e.1]; exact HNE.out.symm
    have HOFy : Hid (Off gy (.slice (some ⟨gx, ox, none⟩) (limbs X).length cx) (limbs X)) := by intro _ u l c e; simp only [Value.slice.injEq, Option.some.injEq] at e; rw [← e.1]; exact HNE.out
    go_wp2_with fail
    refine (order_any HSX.out HSY.out).mono ?_
    rintro e w6 ⟨rfl, hd6⟩
    have HK6 := Lib.hid hd6.kp
    have HSX6 := Lib.hid (HSX.out.keep HK6.out); have HSY6 := Lib.hid (HSY.out.keep HK6.out)
    clear hd6
    rw [cmp_val]
    by_cases hxy : X < Y
    · rw [if_pos hxy]
      go_wp2_with fail
      refine (order_any HSX6.out HSY6.out).mono ?_
      rintro e w7 ⟨rfl, hd7⟩
      have HK67 := Lib.hid (Kp.trans HK6.out hd7.kp)
      have HK7 := Lib.hid (Kp.trans HKR.out HK67.out); have HSx7 := Lib.hid (HSX.out.keep HK67.out); have HSy7 := Lib.hid (HSY.out.keep HK67.out); have HPx7 := Lib.hid (HPX.out.keep HK67.out); have HPy7 := Lib.hid (HPY.out.keep HK67.out)
      clear hd7
      rw [cmp_val, if_pos hxy]
      have hlt : X < Y := hxy
      clear hxy
      have hsub := take_any HPy7.out (Lt.limbs Y) HCy.out HMy.out HLy.out HSx7.out HOFy.out (limbs_mono (Nat.le_of_lt hlt)) (by rw [val_limbs, val_limbs]; exact Nat.le_of_lt hlt)
      rw [val_limbs, val_limbs] at hsub
      have HSUB := Lib.hid hsub; clear hsub
      have NZ : Hid (Y - X ≠ 0) := by show _ ≠ _; omega
      have LT := Lib.hid hlt; clear hlt
      go_wp2_with fail
      refine HSUB.out.mono ?_
      rintro e w8 ⟨⟨p8, d8, rfl, hp8, hl8, hd8⟩, ho8⟩
      have hs8 := hp8.sl (Lt.limbs _) hl8 (Nat.le_trans hd8 HMy.out) (by have := limbs_le (Nat.sub_le Y X) HLy.out; omega)
      have HP8 := Lib.hid hp8; have HL8 := Lib.hid hl8; have HD8 := Lib.hid (Nat.le_trans hd8 HMy.out); have HS8 := Lib.hid hs8; have HPY8 := Lib.hid (HPx7.out.other ho8 HNE.out); have HK8 := Lib.hid (Only.kp HK7.out ho8 HBy.out)
      clear hp8 hl8 hd8 ho8 hs8
      have E8 := Lib.hid (rfl : (limbs (Y - X)).length = (limbs (Y - X)).length)
      go_wp2_with fail
      refine (zeros_any HS8.out (by rw [val_limbs]; exact NZ.out) (limbs_le (Nat.sub_le Y X) HLy.out)).mono ?_
      rintro e w9 ⟨⟨z, rfl, hz⟩, hw9⟩
      obtain rfl := hw9.symm
      rw [val_limbs] at hz
      have hdn := down_any HP8.out (Lt.limbs _) HL8.out HD8.out (Nat.le_trans (limbs_le (Nat.sub_le Y X) HLy.out) (by omega)) (z / 32) (z % 32) (low_lt NZ.out hz) (Nat.mod_lt _ (by omega)) z (Nat.div_add_mod z 32).symm
      rw [val_limbs] at hdn
      have HDN := Lib.hid hdn; have HZ := Lib.hid hz; clear hdn hz
      go_wp2_with fail
      refine HDN.out.mono ?_
      rintro e w10 ⟨⟨p10, d10, rfl, hp10, hl10, hd10⟩, ho10⟩
      have hpy10 := HPY8.out.other ho10 HNE.out
      have hs10 := hp10.sl (Lt.limbs _) hl10 (Nat.le_trans hd10 HD8.out) (by have := limbs_le (Nat.le_trans (Nat.div_le_self (Y - X) (2 ^ z)) (Nat.sub_le Y X)) HLy.out; omega)
      have hsy10 := hpy10.sl (Lt.limbs _) HCx.out HMx.out (by have := HLx.out; omega)
      have hdx := (digs_eq hs10).trans (val_limbs _)
      have hdy := (digs_eq hsy10).trans (val_limbs _)
      have NX : Hid (GSt w w10 (.slice (some ⟨gy, p10, none⟩) (limbs ((Y - X) / 2 ^ z)).length d10) (.slice (some ⟨gx, ox, none⟩) (limbs X).length cx) ((Y - X) / 2 ^ z) X) := ⟨⟨gy, p10, d10, gx, ox, cx, rfl, rfl, hp10, hpy10, HNE.out.symm, HBy.out, HBx.out, hl10, Nat.le_trans hd10 HD8.out, HCx.out, HMx.out⟩, Only.kp HK8.out ho10 HBy.out, HZ.out.2, Ox.out, limbs_le (Nat.le_trans (Nat.div_le_self _ _) (Nat.sub_le _ _)) HLy.out, HLx.out⟩
      have GX : Hid (Nat.gcd ((Y - X) / 2 ^ z) X = Nat.gcd (a / 2 ^ i) (b / 2 ^ k)) := by show _ = _; rw [gcd_shift Ox.out HZ.out.1, gcd_sub_le (Nat.le_of_lt LT.out), Nat.gcd_comm]; exact HG.out
      have MS : Hid (digs w10 (.slice (some ⟨gy, p10, none⟩) (limbs ((Y - X) / 2 ^ z)).length d10) + digs w10 (.slice (some ⟨gx, ox, none⟩) (limbs X).length cx) < digs wr (.slice (some ⟨gx, ox, none⟩) (limbs X).length cx) + digs wr (.slice (some ⟨gy, oy, none⟩) (limbs Y).length cy)) := by
        show _ < _
        rw [hdx, hdy, HDX.out, HDY.out]
        have h1 := Nat.div_le_self (Y - X) (2 ^ z)
        have h2 := LT.out
        have h3 : 0 < X := by have := Ox.out; omega
        omega
      clear hp10 hl10 hd10 ho10 hpy10 hs10 hsy10 hdx hdy
      go_wp2
      go_roundw
      case rel => exact ⟨_, _, NX.out, GX.out⟩
      case measure => exact MS.out
    · by_cases hyx : Y < X
      · rw [if_neg hxy, if_pos hyx]
        go_wp2_with fail
        refine (order_any HSX6.out HSY6.out).mono ?_
        rintro e w7 ⟨rfl, hd7⟩
        have HK67 := Lib.hid (Kp.trans HK6.out hd7.kp)
        have HK7 := Lib.hid (Kp.trans HKR.out HK67.out); have HSx7 := Lib.hid (HSX.out.keep HK67.out); have HSy7 := Lib.hid (HSY.out.keep HK67.out); have HPx7 := Lib.hid (HPX.out.keep HK67.out); have HPy7 := Lib.hid (HPY.out.keep HK67.out)
        clear hd7
        rw [cmp_val, if_neg hxy, if_pos hyx]
        have hlt : Y < X := hyx
        clear hxy hyx
        have hsub := take_any HPx7.out (Lt.limbs X) HCx.out HMx.out HLx.out HSy7.out HOFx.out (limbs_mono (Nat.le_of_lt hlt)) (by rw [val_limbs, val_limbs]; exact Nat.le_of_lt hlt)
        rw [val_limbs, val_limbs] at hsub
        have HSUB := Lib.hid hsub; clear hsub
        have NZ : Hid (X - Y ≠ 0) := by show _ ≠ _; omega
        have LT := Lib.hid hlt; clear hlt
        go_wp2_with fail
        refine HSUB.out.mono ?_
        rintro e w8 ⟨⟨p8, d8, rfl, hp8, hl8, hd8⟩, ho8⟩
        have hs8 := hp8.sl (Lt.limbs _) hl8 (Nat.le_trans hd8 HMx.out) (by have := limbs_le (Nat.sub_le X Y) HLx.out; omega)
        have HP8 := Lib.hid hp8; have HL8 := Lib.hid hl8; have HD8 := Lib.hid (Nat.le_trans hd8 HMx.out); have HS8 := Lib.hid hs8; have HPY8 := Lib.hid (HPy7.out.other ho8 HNE.out.symm); have HK8 := Lib.hid (Only.kp HK7.out ho8 HBx.out)
        clear hp8 hl8 hd8 ho8 hs8
        have E8 := Lib.hid (rfl : (limbs (X - Y)).length = (limbs (X - Y)).length)
        go_wp2_with fail
        refine (zeros_any HS8.out (by rw [val_limbs]; exact NZ.out) (limbs_le (Nat.sub_le X Y) HLx.out)).mono ?_
        rintro e w9 ⟨⟨z, rfl, hz⟩, hw9⟩
        obtain rfl := hw9.symm
        rw [val_limbs] at hz
        have hdn := down_any HP8.out (Lt.limbs _) HL8.out HD8.out (Nat.le_trans (limbs_le (Nat.sub_le X Y) HLx.out) (by omega)) (z / 32) (z % 32) (low_lt NZ.out hz) (Nat.mod_lt _ (by omega)) z (Nat.div_add_mod z 32).symm
        rw [val_limbs] at hdn
        have HDN := Lib.hid hdn; have HZ := Lib.hid hz; clear hdn hz
        go_wp2_with fail
        refine HDN.out.mono ?_
        rintro e w10 ⟨⟨p10, d10, rfl, hp10, hl10, hd10⟩, ho10⟩
        have hpy10 := HPY8.out.other ho10 HNE.out.symm
        have hs10 := hp10.sl (Lt.limbs _) hl10 (Nat.le_trans hd10 HD8.out) (by have := limbs_le (Nat.le_trans (Nat.div_le_self (X - Y) (2 ^ z)) (Nat.sub_le X Y)) HLx.out; omega)
        have hsy10 := hpy10.sl (Lt.limbs _) HCy.out HMy.out (by have := HLy.out; omega)
        have hdx := (digs_eq hs10).trans (val_limbs _)
        have hdy := (digs_eq hsy10).trans (val_limbs _)
        have NX : Hid (GSt w w10 (.slice (some ⟨gx, p10, none⟩) (limbs ((X - Y) / 2 ^ z)).length d10) (.slice (some ⟨gy, oy, none⟩) (limbs Y).length cy) ((X - Y) / 2 ^ z) Y) := ⟨⟨gx, p10, d10, gy, oy, cy, rfl, rfl, hp10, hpy10, HNE.out, HBx.out, HBy.out, hl10, Nat.le_trans hd10 HD8.out, HCy.out, HMy.out⟩, Only.kp HK8.out ho10 HBx.out, HZ.out.2, Oy.out, limbs_le (Nat.le_trans (Nat.div_le_self _ _) (Nat.sub_le _ _)) HLx.out, HLy.out⟩
        have GX : Hid (Nat.gcd ((X - Y) / 2 ^ z) Y = Nat.gcd (a / 2 ^ i) (b / 2 ^ k)) := by show _ = _; rw [gcd_shift Oy.out HZ.out.1, gcd_sub_le (Nat.le_of_lt LT.out)]; exact HG.out
        have MS : Hid (digs w10 (.slice (some ⟨gx, p10, none⟩) (limbs ((X - Y) / 2 ^ z)).length d10) + digs w10 (.slice (some ⟨gy, oy, none⟩) (limbs Y).length cy) < digs wr (.slice (some ⟨gx, ox, none⟩) (limbs X).length cx) + digs wr (.slice (some ⟨gy, oy, none⟩) (limbs Y).length cy)) := by
          show _ < _
          rw [hdx, hdy, HDX.out, HDY.out]
          have h1 := Nat.div_le_self (X - Y) (2 ^ z)
          have h2 := LT.out
          have h3 : 0 < Y := by have := Oy.out; omega
          omega
        clear hp10 hl10 hd10 ho10 hpy10 hs10 hsy10 hdx hdy
        go_wp2
        go_roundw
        case rel => exact ⟨_, _, NX.out, GX.out⟩
        case measure => exact MS.out
      · rw [if_neg hxy, if_neg hyx]
        obtain rfl : X = Y := by omega
        have hgx : X = Nat.gcd (a / 2 ^ i) (b / 2 ^ k) := (Nat.gcd_self X).symm.trans HG.out
        have G1 : Hid (X * 2 ^ min i k = Nat.gcd a b) := by show _ = _; rw [hgx]; exact G0.out
        have HPX6 := Lib.hid (HPX.out.keep HK6.out); have HKR6 := Lib.hid (Kp.trans HKR.out HK6.out)
        obtain ⟨M, eM⟩ : ∃ M, M = min i k := ⟨_, rfl⟩
        have hmn : min (i : Int) (k : Int) = (M : Int) := by omega
        have hMb : M < 32000 := by omega
        obtain ⟨q, eq⟩ : ∃ q, q = M / 32 := ⟨_, rfl⟩
        obtain ⟨r, er⟩ : ∃ r, r = M % 32 := ⟨_, rfl⟩
        have hr32 : r < 32 := by omega
        have hq1 : (M : Int) / 32 = (q : Int) := by omega
        have hr1 : (M : Int) % 32 = (r : Int) := by omega
        have hp2 := pow_lt32 hr32
        have VU : Hid (val ((List.replicate (q + 1) 0).set q (2 ^ r)) = 2 ^ min i k) := by show _ = _; rw [val_unit, eq, er, min_pow i k eM]
        have hqb : q ≤ 1000 := by omega
        have hpi : ((2 : Int) ^ r) = ((2 ^ r : Nat) : Int) := by rw [Int.natCast_pow]; rfl
        have hpi1 : (0 : Int) ≤ (2 : Int) ^ r := by rw [hpi]; exact Int.natCast_nonneg _
        have hpi2 : (2 : Int) ^ r ≤ 2147483648 := by rw [hpi]; omega
        have HPI := Lib.hid hpi; have HXL := Lib.hid (rfl : (limbs X).length = (limbs X).length)
        clear hxy hyx hgx eM eq er hpi
        go_wp2_with (at_make; refine wpList_mk rfl (.tmp 53) (.tmp 53) 24 rfl Tryz.underlying24 _ (q + 1) rfl rfl (by omega) (by omega) ?_)
        intro w7 hrow hk7
        have hcellq := hrow.cell q (by simp)
        have hfreeq : w7.frozen? ⟨w6.heap.size, q, none⟩ = false := hrow.free _
        have HROW := Lib.hid hrow; have HK7 := Lib.hid hk7; have HSX7 := Lib.hid (HSX6.out.keep hk7)
        obtain ⟨zq, ezq⟩ : ∃ zq, zq = (List.replicate (q + 1) 0)[q]?.getD 0 := ⟨_, rfl⟩
        rw [← ezq] at hcellq
        clear hrow hk7 ezq
        have hr8 := HROW.out.set' q (2 ^ r) _ HPI.out
        have ho8 : Only w6.heap.size w7 (w7.setCell ⟨w6.heap.size, q, none⟩ (.int .u32 ((2 : Int) ^ r))) := (Only.refl _ _).set _ _
        have hs8 := hr8.sl ((Lt.replicate _).set _ _ (by omega)) (by simp; omega)
        have hx8 := HSX7.out.only ho8 (HSX6.out.off (Nat.le_refl _))
        rw [List.length_set, List.length_replicate] at hs8
        have HS8 := Lib.hid hs8; have HX8 := Lib.hid hx8; have HK8 := Lib.hid (Only.kp (Kp.trans HKR6.out HK7.out) ho8 HKR6.out.size)
        obtain ⟨w8, ew8⟩ : ∃ w8, w8 = w7.setCell ⟨w6.heap.size, q, none⟩ (.int .u32 ((2 : Int) ^ r)) := ⟨_, rfl⟩
        rw [← ew8] at HS8 HX8 HK8
        have EW := Lib.hid ew8.symm
        clear hr8 ho8 hs8 hx8 ew8
        go_wp2_with fail
        rw [EW.out]
        refine (Times_any HX8.out HS8.out (by have := HLx.out; omega) (by simp; omega)).mono ?_
        rintro e w9 ⟨v9, rfl, hs9, hn9, hk9⟩
        rw [VU.out, val_limbs, G1.out] at hs9
        have FIN2 := Lib.hid (FIN.out v9 w9 hs9 (hn9.mono HK8.out.size) (Kp.trans HK8.out hk9))
        clear hs9 hn9 hk9
        go_wp2
        (try go_ret)
        exact FIN2.out
end Go.Proofs.YtdoponlhiidimaaGreatDoor
