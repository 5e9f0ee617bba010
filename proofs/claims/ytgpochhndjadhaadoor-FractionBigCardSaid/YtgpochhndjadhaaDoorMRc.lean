/- Contracts of the reference's shift up and of its digit of a quotient, whose estimate is right or one too many. Conditions: the slices hold the digits that are named. -/
import Derived.Test.YtgpochhndjadhaaDoorRDv
import Derived.Test.YtgpochhndjadhaaDoorDig
import Derived.Test.YtgpochhndjadhaaDoorNn
namespace Go.Proofs.YtgpochhndjadhaaDoor
open Go.RowKit LimbN

/-- The row of a number that is shifted up, after k digits. -/
structure UpRel (xs : List Nat) (s k : Nat) (zr : List Nat) : Prop where
  len : zr.length = xs.length + 1
  lt : Lt zr
  zero : ∀ i : Nat, k < i → zr[i]?.getD 0 = 0
  top : zr[k]?.getD 0 < 2 ^ s
  sum : val (zr.take (k + 1)) = val (xs.take k) * 2 ^ s
theorem UpRel.start (xs : List Nat) (s : Nat) : UpRel xs s 0 (List.replicate (xs.length + 1) 0) := by
  have h0 : ∀ i : Nat, (List.replicate (xs.length + 1) 0)[i]?.getD 0 = 0 := fun i => by rw [List.getElem?_replicate]; split <;> rfl
  refine ⟨by simp, Lt.replicate _, fun i _ => h0 i, by rw [h0]; exact Nat.pow_pos (by omega), ?_⟩
  rw [val_take_succ, h0]; simp [val]
theorem UpRel.step {xs zr : List Nat} {s k t : Nat} (h : UpRel xs s k zr) (hs : s < 32) (hk : k < xs.length) (hx : Lt xs) (ht : t = xs[k]?.getD 0 * 2 ^ s) :
    zr[k]?.getD 0 + t % 4294967296 < 4294967296 ∧ t / 4294967296 < 2 ^ s ∧ UpRel xs s (k + 1) ((zr.set k (zr[k]?.getD 0 + t % 4294967296)).set (k + 1) (t / 4294967296)) := by
  have hp := pow_lt32 hs
  have e32 := pow32 hs
  have htop := h.top
  have hb : zr[k]?.getD 0 + t % 4294967296 < 4294967296 := by
    have h1 : t % 4294967296 = 2 ^ s * (xs[k]?.getD 0 % 2 ^ (32 - s)) := by rw [ht, Nat.mul_comm, ← e32, Nat.mul_mod_mul_left]
    have h2 : xs[k]?.getD 0 % 2 ^ (32 - s) + 1 ≤ 2 ^ (32 - s) := Nat.mod_lt _ (Nat.pow_pos (by omega))
    have h3 := Nat.mul_le_mul_left (2 ^ s) h2
    rw [e32, Nat.mul_add, ← h1] at h3
    omega
  have hq : t / 4294967296 < 2 ^ s := by
    rw [Nat.div_lt_iff_lt_mul (by omega), ht, Nat.mul_comm]
    exact Nat.mul_lt_mul_of_pos_left (hx k) hp.1
  have hl := h.len
  refine ⟨hb, hq, by simpa using hl, (h.lt.set _ _ hb).set _ _ (by omega), fun i hi => ?_, ?_, ?_⟩
  · rw [getD_set _ _ _ _ (by simp; omega), if_neg (by omega), getD_set _ _ _ _ (by omega), if_neg (by omega)]
    exact h.zero i (by omega)
  · rw [getD_set _ _ _ _ (by simp; omega), if_pos rfl]; exact hq
  · have e1 : ((zr.set k (zr[k]?.getD 0 + t % 4294967296)).set (k + 1) (t / 4294967296)).take (k + 1) = (zr.set k (zr[k]?.getD 0 + t % 4294967296)).take (k + 1) := List.take_set_of_le (Nat.le_refl _)
    have e2 : (zr.set k (zr[k]?.getD 0 + t % 4294967296)).take k = zr.take k := List.take_set_of_le (Nat.le_refl _)
    rw [val_take_succ, e1, getD_set _ _ _ _ (by simp; omega), if_pos rfl, val_take_succ, e2, getD_set _ _ _ _ (by omega), if_pos rfl, val_take_succ xs]
    have hsum := h.sum
    rw [val_take_succ] at hsum
    rw [Nat.add_mul, ← hsum, Nat.pow_succ, Nat.mul_assoc, Nat.mul_assoc, ← ht]
    have e3 : 4294967296 ^ k * t = 4294967296 ^ k * (t % 4294967296 + 4294967296 * (t / 4294967296)) := by rw [Nat.mod_add_div]
    rw [Nat.mul_add] at e3 ⊢
    omega
theorem or_low {z t s : Nat} (hs : s < 32) (hz : z < 2 ^ s) (hd : t % 2 ^ s = 0) (ht : t < 4294967296) : bits .or .u32 (z : Int) (t : Int) = ((z + t : Nat) : Int) := by
  have hp := pow_lt32 hs
  rw [u32_or_nat _ _ (by omega) ht]
  congr 1
  obtain ⟨m, rfl⟩ := Nat.dvd_of_mod_eq_zero hd
  have := Nat.shiftLeft_add_eq_or_of_lt hz m
  rw [Nat.shiftLeft_eq] at this
  rw [Nat.or_comm, Nat.mul_comm, ← this, Nat.add_comm]
theorem mod_low {x s : Nat} (hs : s < 32) : (x * 2 ^ s % 4294967296) % 2 ^ s = 0 := by
  have e32 := pow32 hs
  rw [Nat.mul_comm, ← e32, Nat.mul_mod_mul_left, Nat.mul_mod_right]
theorem mask32 (n : Nat) (hn : n < 18446744073709551616) : bits .and .u64 (n : Int) 4294967295 = ((n % 4294967296 : Nat) : Int) := by
  have h := u64_and_nat n 4294967295 hn (by omega)
  rw [show ((4294967295 : Nat) : Int) = 4294967295 by rfl] at h
  rw [h]
  congr 1
  exact Nat.and_two_pow_sub_one_eq_mod n 32

/-- How the subtraction of the digit's product stands. -/
structure PlSt (zs ys : List Nat) (o d k c b g : Nat) (t : TypeId) (w wr : World) (zr : List Nat) : Prop where
  cb : c < 4294967296
  bb : b ≤ 1
  rel : SubRel zs o k (c + b) d (val (ys.take k)) zr
  row : Row wr g t zr
  only : Only g w wr
/-- How the divisor's addition stands. -/
structure PaSt (zs ys : List Nat) (o k c g : Nat) (t : TypeId) (w wr : World) (zr : List Nat) : Prop where
  cb : c ≤ 1
  rel : AddRel zs o k c (val (ys.take k)) zr
  row : Row wr g t zr
  only : Only g w wr
theorem put_back {D P R S z c x X : Nat} (_hP : 0 < P) (_hD : D < P) (hR : 0 < D) (hS : S + D = R % D + 4294967296 * P) (e : S = X + P * z) (hz : z < 4294967296) (hc : c ≤ 1) (ha : x + P * c = X + D) (hx : x < P) :
    z + c = 4294967296 ∧ x = R % D := by
  have h1 := Nat.mod_lt R hR
  have h2 : x + P * (z + c) = R % D + 4294967296 * P := by rw [Nat.mul_add]; omega
  have h3 : 4294967296 ≤ z + c := by
    rcases Nat.lt_or_ge (z + c) 4294967296 with h | h
    · exfalso
      have := Nat.mul_le_mul_left P (show z + c + 1 ≤ 4294967296 from h)
      rw [Nat.mul_add] at this
      omega
    · exact h
  have h4 : z + c = 4294967296 := by omega
  rw [h4] at h2
  exact ⟨h4, by omega⟩
theorem place_done {zs ys zr zr2 : List Nat} {o n d c z2 : Nat} (hsub : SubRel zs o (n + 1) 1 d (val ys) zr) (hq : d = seg zs o (n + 1) / val ys + 1) (hS : seg zr o (n + 1) + val ys = seg zs o (n + 1) % val ys + 4294967296 ^ (n + 1))
    (hD : 0 < val ys) (hDb : val ys < 4294967296 ^ n) (hfit : o + (n + 1) ≤ zs.length) (ha : AddRel zr o n c (val ys) zr2) (hc : c ≤ 1) (hz : z2 = zr2[o + n]?.getD 0) :
    (z2 + c) % 4294967296 = 0 ∧ DigRel zs o (n + 1) (val ys) (d - 1) (zr2.set (o + n) 0) := by
  have hl : zr2.length = zs.length := ha.len.trans hsub.len
  have e2 := ha.other (o + n) (by omega)
  have hsg := seg_succ zr o n
  rw [← e2, ← hz] at hsg
  have hzb : z2 < 4294967296 := by rw [hz]; exact ha.lt _
  obtain ⟨h1, h2⟩ := put_back (Nat.pow_pos (by omega)) hDb hD (by rw [hS, Nat.pow_succ, Nat.mul_comm (4294967296 ^ n)]) hsg hzb hc ha.sum (seg_lt ha.lt _ _)
  refine ⟨by rw [h1], by rw [List.length_set]; exact hl, ha.lt.set _ _ (by omega), fun i hi => ?_, by rw [hq, Nat.add_sub_cancel], ?_⟩
  · rw [getD_set _ _ _ _ (by omega), if_neg (by omega), ha.other i (by omega)]
    exact hsub.other i hi
  · rw [seg_succ, getD_set _ _ _ _ (by omega), if_pos rfl, Nat.mul_zero, Nat.add_zero, ← h2]
    exact seg_congr n (fun i _ h3 => by rw [getD_set _ _ _ _ (by omega), if_neg (by omega)])
end Go.Proofs.YtgpochhndjadhaaDoor

/- Contracts of the reference's functions that change their own memory: cut, down, take; and of zeros. Conditions: the slices hold the digits that are named, in memory of their own. -/
namespace Go.Proofs.YtgpochhndjadhaaDoor
open Go.RowKit LimbN

/-- Block g holds the digits xs from place o on. -/
structure Part (w : World) (g : Nat) (t : TypeId) (o : Nat) (xs : List Nat) : Prop where
  ex : ∃ cur : Array Value, w.heap[g]? = some (.cells cur t (0, 0)) ∧ o + xs.length ≤ cur.size ∧ ∀ i : Nat, i < xs.length → cur[o + i]? = some (.int .u32 (xs[i]?.getD 0 : Nat))
theorem Part.cell {w : World} {g o : Nat} {t : TypeId} {xs : List Nat} (h : Part w g t o xs) (i : Nat) (hi : i < xs.length) : w.cell? ⟨g, o + i, none⟩ = some (.int .u32 (xs[i]?.getD 0 : Nat)) := by
  obtain ⟨cur, hb, _, hc⟩ := h.ex
  rw [cell_of_row w g (o + i) cur t (0, 0) hb]
  exact hc i hi
theorem Part.free {w : World} {g o : Nat} {t : TypeId} {xs : List Nat} (h : Part w g t o xs) (i : Nat) : w.frozen? ⟨g, i, none⟩ = false := by
  obtain ⟨cur, hb, _, _⟩ := h.ex
  exact frozen_of_row w g i cur t hb
theorem Part.lt {w : World} {g o : Nat} {t : TypeId} {xs : List Nat} (h : Part w g t o xs) : g < w.heap.size := by
  obtain ⟨cur, hb, _, _⟩ := h.ex
  exact lt_of_block hb
theorem Part.set {w : World} {g o : Nat} {t : TypeId} {xs : List Nat} (h : Part w g t o xs) (i d : Nat) (D : Int) (hD : D = (d : Int)) (hi : i < xs.length) : Part (w.setCell ⟨g, o + i, none⟩ (.int .u32 D)) g t o (xs.set i d) := by
  subst hD
  obtain ⟨cur, hb, hs, hc⟩ := h.ex
  refine ⟨_, heap_setCell_same w g (o + i) _ t _ hb, by simpa using hs, fun j hj => ?_⟩
  rw [List.length_set] at hj
  rw [Array.getElem?_setIfInBounds]
  by_cases hji : i = j
  · subst hji
    rw [if_pos rfl, if_pos (by omega)]
    simp [hi]
  · rw [if_neg (by omega), hc j hj, List.getElem?_set, if_neg hji]
theorem Part.other {w w' : World} {g k o : Nat} {t : TypeId} {xs : List Nat} (h : Part w g t o xs) (ho : Only k w w') (hne : g ≠ k) : Part w' g t o xs := by
  obtain ⟨cur, hb, hs, hc⟩ := h.ex
  exact ⟨cur, (ho.block g hne).trans hb, hs, hc⟩
theorem Part.keep {w w' : World} {g o : Nat} {t : TypeId} {xs : List Nat} (h : Part w g t o xs) (hk : Kp w w') : Part w' g t o xs := by
  have hl := h.lt
  obtain ⟨cur, hb, hs, hc⟩ := h.ex
  exact ⟨cur, (hk.block g hl).trans hb, hs, hc⟩
theorem Part.drop {w : World} {g o : Nat} {t : TypeId} {xs : List Nat} (h : Part w g t o xs) (k : Nat) (hk : k ≤ xs.length) : Part w g t (o + k) (xs.drop k) := by
  obtain ⟨cur, hb, hs, hc⟩ := h.ex
  refine ⟨cur, hb, by rw [List.length_drop]; omega, fun i hi => ?_⟩
  rw [List.length_drop] at hi
  rw [Nat.add_assoc, hc (k + i) (by omega), List.getElem?_drop]
theorem Part.take {w : World} {g o : Nat} {t : TypeId} {xs : List Nat} (h : Part w g t o xs) (k : Nat) : Part w g t o (xs.take k) := by
  obtain ⟨cur, hb, hs, hc⟩ := h.ex
  refine ⟨cur, hb, by rw [List.length_take]; omega, fun i hi => ?_⟩
  rw [List.length_take] at hi
  rw [hc i (by omega), List.getElem?_take, if_pos (by omega)]
theorem Part.at {w : World} {g o : Nat} {t : TypeId} {xs : List Nat} (h : Part w g t o xs) : At w (some ⟨g, o, none⟩) xs := .inr ⟨g, o, rfl, fun i hi => h.cell i hi⟩
theorem Part.sl {w : World} {g o cap : Nat} {t : TypeId} {xs : List Nat} (h : Part w g t o xs) (hl : Lt xs) (hc : xs.length ≤ cap) (hm : cap ≤ maxLen) (hs : xs.length ≤ 35184372088832) : Sl w (.slice (some ⟨g, o, none⟩) xs.length cap) xs :=
  ⟨⟨_, cap, rfl, hc, hm, h.at, fun h => nomatch h⟩, hl, hs⟩
theorem Part.of_row {w : World} {g : Nat} {t : TypeId} {zs : List Nat} (h : Row w g t zs) : Part w g t 0 zs := by
  refine ⟨_, h.blk, by simp [U], fun i hi => ?_⟩
  rw [Nat.zero_add]
  simp [U, List.getElem?_eq_getElem hi]
theorem Part.of_owns {w : World} {base : Nat} {t : TypeId} {v : Value} {n : Nat} {zs : List Nat} (h : w.ownsRow base t 1 v n (U zs)) (h0 : 0 < n) : ∃ g cap, v = .slice (some ⟨g, 0, none⟩) zs.length cap ∧ base ≤ g ∧ zs.length ≤ cap ∧ cap ≤ maxLen ∧ Part w g t 0 zs := by
  have hn : zs.length = n := by have := h.1; rw [U_length] at this; omega
  rcases h.2 with ⟨_, h1⟩ | ⟨g, cap, cur, rfl, hb, hg, hnc, hcm, hsz, htake⟩
  · omega
  · have hlen : zs.length ≤ cur.size := by
      have := congrArg List.length htake
      rw [List.length_take, U_length] at this
      simp at this
      omega
    refine ⟨g, cap, by rw [hn], hb, by omega, hcm, cur, hg, by omega, fun i hi => ?_⟩
    rw [Nat.zero_add]
    have h1 : (cur.toList.take (n * 1))[i]? = (U zs)[i]? := by rw [htake]
    rw [List.getElem?_take, if_pos (by omega)] at h1
    rw [← Array.getElem?_toList, h1]
    simp [U, List.getElem?_eq_getElem hi]

/-- A number in memory of the call's own, without zeros at its end. -/
structure Mine (n g cap : Nat) (t : TypeId) (w : World) (e : Ending) (w' : World) : Prop where
  ex : ∃ o c, e = .returned (.slice (some ⟨g, o, none⟩) (limbs n).length c) ∧ Part w' g t o (limbs n) ∧ (limbs n).length ≤ c ∧ c ≤ cap
  only : Only g w w'
theorem Part.drewN {w : World} {g o : Nat} {t : TypeId} {xs : List Nat} (h : Part w g t o xs) (n : Nat) : Part (w.drewN n) g t o xs := h.keep (Kp.drewN w n)
/-- The own memory of a call is all that has changed. -/
theorem Part.same {w w' : World} {g o : Nat} {t : TypeId} {xs : List Nat} (h : Part w g t o xs) (e : w = w') : Part w' g t o xs := e ▸ h

end Go.Proofs.YtgpochhndjadhaaDoor

/- Contracts of the reference's zeros and take: the number of zeros at the low end, and a difference in place. Conditions: the slices hold the digits that are named. -/
namespace Go.Proofs.YtgpochhndjadhaaDoor
open Go.RowKit LimbN

/-- 2^k is the greatest power of two that divides n. -/
def Low (n k : Nat) : Prop := 2 ^ k ∣ n ∧ n / 2 ^ k % 2 = 1
theorem low_limb {xs : List Nat} {m i : Nat} (hz : ∀ j : Nat, j < m → xs[j]?.getD 0 = 0) (hm : m < xs.length) (hi : i < 32) (hl : Low (xs[m]?.getD 0) i) : Low (val xs) (32 * m + i) := by
  have e : val xs = 4294967296 ^ m * val (xs.drop m) := by
    have h := val_append (xs.take m) (xs.drop m)
    rw [List.take_append_drop, List.length_take, Nat.min_eq_left (by omega)] at h
    have h0 : val (xs.take m) = 0 := val_eq_zero.2 (fun j => by
      rw [List.getElem?_take]
      split
      · exact hz j (by assumption)
      · rfl)
    rw [h, h0, Nat.zero_add]
  rw [val_drop hm] at e
  obtain ⟨⟨u, hu⟩, ho⟩ := hl
  rw [hu, Nat.mul_div_cancel_left _ (Nat.pow_pos (by omega))] at ho
  have e32 := pow32 hi
  have hp : (2 : Nat) ^ (32 * m + i) = 4294967296 ^ m * 2 ^ i := by rw [Nat.pow_add, Nat.pow_mul]
  have hev : 2 ^ (32 - i) % 2 = 0 := by
    obtain ⟨k, hk⟩ : ∃ k, 32 - i = k + 1 := ⟨31 - i, by omega⟩
    rw [hk, Nat.pow_succ, Nat.mul_mod_left]
  have e2 : val xs = 2 ^ (32 * m + i) * (u + 2 ^ (32 - i) * val (xs.drop (m + 1))) := by
    rw [e, hu, hp, ← e32, Nat.mul_add, Nat.mul_add]; simp only [Nat.mul_assoc]
  refine ⟨⟨_, e2⟩, ?_⟩
  rw [e2, Nat.mul_div_cancel_left _ (Nat.pow_pos (by omega)), Nat.add_mod, Nat.mul_mod, hev, Nat.zero_mul, ho]
theorem low_half {x i n : Nat} (hx : x = n / 2 ^ i) (hd : 2 ^ i ∣ n) (he : x % 2 = 0) : 2 ^ (i + 1) ∣ n ∧ x / 2 = n / 2 ^ (i + 1) := by
  obtain ⟨u, hu⟩ := hd
  rw [hu, Nat.mul_div_cancel_left _ (Nat.pow_pos (by omega))] at hx
  subst hx
  obtain ⟨v, hv⟩ := Nat.dvd_of_mod_eq_zero he
  subst hv
  have : n = 2 ^ (i + 1) * v := by rw [hu, Nat.pow_succ, Nat.mul_assoc]
  refine ⟨⟨v, this⟩, ?_⟩
  rw [this, Nat.mul_div_cancel_left _ (Nat.pow_pos (by omega)), Nat.mul_div_cancel_left _ (by omega)]
/-- The number of zeros at the low end. -/
structure ZeroR (xs : List Nat) (w : World) (e : Ending) (w' : World) : Prop where
  ex : ∃ k : Nat, e = .returned (.int .i64 k) ∧ Low (val xs) k
  same : w = w'
end Go.Proofs.YtgpochhndjadhaaDoor

/- The reference's greatest common divisor, by shifting and subtracting. Conditions: the slices hold the numbers that are named, of at most 1000 limbs. -/
namespace Go.Proofs.YtgpochhndjadhaaDoor
open Go.RowKit LimbN

/-- A number in new memory. -/
structure Res (n : Nat) (w : World) (e : Ending) (w' : World) : Prop where
  ex : ∃ v, e = .returned v ∧ Sl w' v (limbs n) ∧ New w.heap.size v
  kp : Kp w w'
theorem low_lt {a i : Nat} (h0 : a ≠ 0) (h : Low a i) : i / 32 < (limbs a).length := by
  have h1 : 2 ^ i ≤ a := Nat.le_of_dvd (Nat.pos_of_ne_zero h0) h.1
  have h2 : a < 4294967296 ^ (limbs a).length := limbs_len_le.1 (Nat.le_refl _)
  rw [show (4294967296 : Nat) = 2 ^ 32 by rfl, ← Nat.pow_mul] at h2
  have h3 := (Nat.pow_lt_pow_iff_right (a := 2) (by omega)).1 (Nat.lt_of_le_of_lt h1 h2)
  omega
theorem low_ne {a i : Nat} (_h0 : a ≠ 0) (h : Low a i) : a / 2 ^ i ≠ 0 := by
  have h1 := h.2
  intro h2
  rw [h2] at h1
  simp at h1
/-- How the loop of the subtractions stands. -/
structure GSt (w wr : World) (x y : Value) (X Y : Nat) : Prop where
  ex : ∃ g1 o1 c1 g2 o2 c2, x = .slice (some ⟨g1, o1, none⟩) (limbs X).length c1 ∧ y = .slice (some ⟨g2, o2, none⟩) (limbs Y).length c2 ∧ Part wr g1 50 o1 (limbs X) ∧ Part wr g2 50 o2 (limbs Y) ∧ g1 ≠ g2 ∧
    w.heap.size ≤ g1 ∧ w.heap.size ≤ g2 ∧ (limbs X).length ≤ c1 ∧ c1 ≤ maxLen ∧ (limbs Y).length ≤ c2 ∧ c2 ≤ maxLen
  kp : Kp w wr
  ox : X % 2 = 1
  oy : Y % 2 = 1
  lx : (limbs X).length ≤ 1000
  ly : (limbs Y).length ≤ 1000
theorem GSt.slx {w wr : World} {x y : Value} {X Y : Nat} (h : GSt w wr x y X Y) : Sl wr x (limbs X) := by
  obtain ⟨⟨g1, o1, c1, g2, o2, c2, rfl, rfl, hp1, hp2, hne, hb1, hb2, h1, h2, h3, h4⟩, hk, _, _, hx, hy⟩ := h
  exact hp1.sl (Lt.limbs _) h1 h2 (by omega)
theorem GSt.sly {w wr : World} {x y : Value} {X Y : Nat} (h : GSt w wr x y X Y) : Sl wr y (limbs Y) := by
  obtain ⟨⟨g1, o1, c1, g2, o2, c2, rfl, rfl, hp1, hp2, hne, hb1, hb2, h1, h2, h3, h4⟩, hk, _, _, hx, hy⟩ := h
  exact hp2.sl (Lt.limbs _) h3 h4 (by omega)
theorem GSt.keep {w wr w' : World} {x y : Value} {X Y : Nat} (h : GSt w wr x y X Y) (k : Kp wr w') : GSt w w' x y X Y := by
  obtain ⟨⟨g1, o1, c1, g2, o2, c2, hx, hy, hp1, hp2, hr⟩, hk, h1, h2, h3, h4⟩ := h
  exact ⟨⟨g1, o1, c1, g2, o2, c2, hx, hy, hp1.keep k, hp2.keep k, hr⟩, Kp.trans hk k, h1, h2, h3, h4⟩
theorem GSt.swap {w wr : World} {x y : Value} {X Y : Nat} (h : GSt w wr x y X Y) : GSt w wr y x Y X := by
  obtain ⟨⟨g1, o1, c1, g2, o2, c2, hx, hy, hp1, hp2, hne, hb1, hb2, h1, h2, h3, h4⟩, hk, hox, hoy, hlx, hly⟩ := h
  exact ⟨⟨g2, o2, c2, g1, o1, c1, hy, hx, hp2, hp1, hne.symm, hb2, hb1, h3, h4, h1, h2⟩, hk, hoy, hox, hly, hlx⟩
/-- A step: x is what remains of X - Y. -/
structure GNext (w : World) (X Y : Nat) (yv : Value) (e : Ending) (w' : World) : Prop where
  ex : ∃ v Z, e = .returned v ∧ GSt w w' v yv Z Y ∧ Nat.gcd Z Y = Nat.gcd X Y ∧ Z < X
theorem limbs_le {m n : Nat} (h : m ≤ n) {k : Nat} (hk : (limbs n).length ≤ k) : (limbs m).length ≤ k := Nat.le_trans (limbs_mono h) hk
theorem min_pow (i k : Nat) {M : Nat} (hM : M = min i k) : 4294967296 ^ (M / 32) * 2 ^ (M % 32) = 2 ^ min i k := by
  rw [← hM, show (4294967296 : Nat) = 2 ^ 32 by rfl, ← Nat.pow_mul, ← Nat.pow_add, Nat.div_add_mod]
theorem val_unit (q d : Nat) : val ((List.replicate (q + 1) 0).set q d) = 4294967296 ^ q * d := by
  have e : ((List.replicate (q + 1) 0).set q d).take (q + 1) = (List.replicate (q + 1) 0).set q d := List.take_of_length_le (by simp)
  rw [← e, val_take_succ, List.take_set_of_le (Nat.le_refl _), getD_set _ _ _ _ (by simp), if_pos rfl]
  have : (List.replicate (q + 1) 0).take q = List.replicate q 0 := by simp
  rw [this, val_zeros, Nat.zero_add]

end Go.Proofs.YtgpochhndjadhaaDoor
