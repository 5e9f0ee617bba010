/- Contracts of the reference's functions that change their own memory: cut, down, take; and of zeros. Conditions: the slices hold the digits that are named, in memory of their own. -/
import Derived.Test.YtfcpfmjoelhlnaaGreatDoorRPlace
namespace Go.Proofs.YtfcpfmjoelhlnaaGreatDoor
open Go.RowKit LimbN

/-- Block g holds the digits xs from place o on. -/
structure Part (w : World) (g : Nat) (t : TypeId) (o : Nat) (xs : List Nat) : Prop where
  ex : ∃ cur : Array Value, w.heap[g]? = some (.cells cur t (0, 0)) ∧ o + xs.length ≤ cur.size ∧ ∀ i : Nat, i < xs.length → cur[o + i]? = some (.int .u32 (xs[i]?.getD 0 : Nat))
theorem Part.cell {w : World} {g o : Nat} {t : TypeId} {xs : List Nat} (h : Part w g t o xs) (i : Nat) (hi : i < xs.length) : w.cell? ⟨g, o + i, none⟩ = some (.int .u32 (xs[i]?.getD 0 : Nat)) := by
  obtain ⟨cur, hb, _, hc⟩ := h.ex
  rw [cell_of_row w g (o + i) cur t (0, 0) hb]
  exact hc i hi
theorem Part.free {w : World} {g o : Nat} {t : TypeId} {xs : List Nat} (h : Part w g t o xs) (i : Nat) : w.frozen? ⟨g, i, none⟩ = false := by
  obtain ⟨cur, hb, _, _⟩ := h.ex
  exact frozen_of_row w g i cur t hb
theorem Part.lt {w : World} {g o : Nat} {t : TypeId} {xs : List Nat} (h : Part w g t o xs) : g < w.heap.size := by
  obtain ⟨cur, hb, _, _⟩ := h.ex
  exact lt_of_block hb
theorem Part.set {w : World} {g o : Nat} {t : TypeId} {xs : List Nat} (h : Part w g t o xs) (i d : Nat) (D : Int) (hD : D = (d : Int)) (hi : i < xs.length) : Part (w.setCell ⟨g, o + i, none⟩ (.int .u32 D)) g t o (xs.set i d) := by
  subst hD
  obtain ⟨cur, hb, hs, hc⟩ := h.ex
  refine ⟨_, heap_setCell_same w g (o + i) _ t _ hb, by simpa using hs, fun j hj => ?_⟩
  rw [List.length_set] at hj
  rw [Array.getElem?_setIfInBounds]
  by_cases hji : i = j
  · subst hji
    rw [if_pos rfl, if_pos (by omega)]
    simp [hi]
  · rw [if_neg (by omega), hc j hj, List.getElem?_set, if_neg hji]
theorem Part.other {w w' : World} {g k o : Nat} {t : TypeId} {xs : List Nat} (h : Part w g t o xs) (ho : Only k w w') (hne : g ≠ k) : Part w' g t o xs := by
  obtain ⟨cur, hb, hs, hc⟩ := h.ex
  exact ⟨cur, (ho.block g hne).trans hb, hs, hc⟩
theorem Part.keep {w w' : World} {g o : Nat} {t : TypeId} {xs : List Nat} (h : Part w g t o xs) (hk : Kp w w') : Part w' g t o xs := by
  have hl := h.lt
  obtain ⟨cur, hb, hs, hc⟩ := h.ex
  exact ⟨cur, (hk.block g hl).trans hb, hs, hc⟩
theorem Part.drop {w : World} {g o : Nat} {t : TypeId} {xs : List Nat} (h : Part w g t o xs) (k : Nat) (hk : k ≤ xs.length) : Part w g t (o + k) (xs.drop k) := by
  obtain ⟨cur, hb, hs, hc⟩ := h.ex
  refine ⟨cur, hb, by rw [List.length_drop]; omega, fun i hi => ?_⟩
  rw [List.length_drop] at hi
  rw [Nat.add_assoc, hc (k + i) (by omega), List.getElem?_drop]
theorem Part.take {w : World} {g o : Nat} {t : TypeId} {xs : List Nat} (h : Part w g t o xs) (k : Nat) : Part w g t o (xs.take k) := by
  obtain ⟨cur, hb, hs, hc⟩ := h.ex
  refine ⟨cur, hb, by rw [List.length_take]; omega, fun i hi => ?_⟩
  rw [List.length_take] at hi
  rw [hc i (by omega), List.getElem?_take, if_pos (by omega)]
theorem Part.at {w : World} {g o : Nat} {t : TypeId} {xs : List Nat} (h : Part w g t o xs) : At w (some ⟨g, o, none⟩) xs := .inr ⟨g, o, rfl, fun i hi => h.cell i hi⟩
theorem Part.sl {w : World} {g o cap : Nat} {t : TypeId} {xs : List Nat} (h : Part w g t o xs) (hl : Lt xs) (hc : xs.length ≤ cap) (hm : cap ≤ maxLen) (hs : xs.length ≤ 35184372088832) : Sl w (.slice (some ⟨g, o, none⟩) xs.length cap) xs :=
  ⟨⟨_, cap, rfl, hc, hm, h.at, fun h => nomatch h⟩, hl, hs⟩
theorem Part.of_row {w : World} {g : Nat} {t : TypeId} {zs : List Nat} (h : Row w g t zs) : Part w g t 0 zs := by
  refine ⟨_, h.blk, by simp [U], fun i hi => ?_⟩
  rw [Nat.zero_add]
  simp [U, List.getElem?_eq_getElem hi]
theorem Part.of_owns {w : World} {base : Nat} {t : TypeId} {v : Value} {n : Nat} {zs : List Nat} (h : w.ownsRow base t 1 v n (U zs)) (h0 : 0 < n) : ∃ g cap, v = .slice (some ⟨g, 0, none⟩) zs.length cap ∧ base ≤ g ∧ zs.length ≤ cap ∧ cap ≤ maxLen ∧ Part w g t 0 zs := by
  have hn : zs.length = n := by have := h.1; rw [U_length] at this; omega
  rcases h.2 with ⟨_, h1⟩ | ⟨g, cap, cur, rfl, hb, hg, hnc, hcm, hsz, htake⟩
  · omega
  · have hlen : zs.length ≤ cur.size := by
      have := congrArg List.length htake
      rw [List.length_take, U_length] at this
      simp at this
      omega
    refine ⟨g, cap, by rw [hn], hb, by omega, hcm, cur, hg, by omega, fun i hi => ?_⟩
    rw [Nat.zero_add]
    have h1 : (cur.toList.take (n * 1))[i]? = (U zs)[i]? := by rw [htake]
    rw [List.getElem?_take, if_pos (by omega)] at h1
    rw [← Array.getElem?_toList, h1]
    simp [U, List.getElem?_eq_getElem hi]

-- the reference's cut
set_option maxHeartbeats 400000 in
theorem cut_walk (ao : Option Addr) (cap : Nat) (xs : List Nat) (w : World) (hc : xs.length ≤ cap) (hm : cap ≤ maxLen) (ha : At w ao xs) :
    Calls Tryz.prog 128 #[.slice ao xs.length cap] w fun e w' =>
      (∃ k, k ≤ xs.length ∧ ZeroFrom k xs ∧ (k = 0 ∨ xs[k - 1]?.getD 0 ≠ 0) ∧ e = .returned (.slice ao k cap)) ∧ w = w' := by
  unfold maxLen at hm
  have HAT := Lib.hid ha; clear ha
  obtain ⟨len, hlen⟩ : ∃ len, len = xs.length := ⟨_, rfl⟩
  rw [← hlen] at hc
  rw [← hlen]
  have HL := Lib.hid hlen; clear hlen
  go_enter Tryz.func128, Tryz.ntmps128
  go_wp2
  go_loop [3] (fun i => ∃ k : Nat, k ≤ len ∧ i = .int .i64 k ∧ ZeroFrom k xs) (fun i => (intOf i).toNat)
  case atStart => exact ⟨len, Nat.le_refl _, rfl, by rw [HL.out]; exact ZeroFrom.all xs⟩
  case round =>
    obtain ⟨k, hk, rfl, hz⟩ := hrel
    have HZ := Lib.hid hz; clear hz
    by_cases h0 : k = 0
    · subst h0
      go_wp2
      go_ret
      exact ⟨⟨0, Nat.zero_le _, HZ.out, .inl rfl, rfl⟩, rfl⟩
    · obtain ⟨b, off, rfl, hcells⟩ := HAT.out.cells (by have := HL.out; omega)
      have hcell := hcells (k - 1) (by have := HL.out; omega)
      clear hcells
      obtain ⟨z, ez⟩ : ∃ z, z = xs[k - 1]?.getD 0 := ⟨_, rfl⟩
      rw [← ez] at hcell
      have EZ := Lib.hid ez; clear ez
      have hk0 : (0 : Int) < (k : Int) := by omega
      have hkf : ((k : Int) == 0) = false := beq_eq_false_iff_ne.2 (by omega)
      by_cases hz0 : z = 0
      · subst hz0
        go_wp2
        go_round
        case rel => exact ⟨k - 1, by omega, vint (by omega), ZeroFrom.down (by have := HZ.out; rwa [show k - 1 + 1 = k by omega]) EZ.out.symm⟩
        case measure => simp [intOf]; omega
      · have hzf : ((z : Int) == 0) = false := beq_eq_false_iff_ne.2 (by omega)
        go_wp2
        go_ret
        exact ⟨⟨k, by have := HL.out; omega, HZ.out, .inr (by rw [← EZ.out]; exact hz0), rfl⟩, rfl⟩
/-- A number in memory of the call's own, without zeros at its end. -/
structure Mine (n g cap : Nat) (t : TypeId) (w : World) (e : Ending) (w' : World) : Prop where
  ex : ∃ o c, e = .returned (.slice (some ⟨g, o, none⟩) (limbs n).length c) ∧ Part w' g t o (limbs n) ∧ (limbs n).length ≤ c ∧ c ≤ cap
  only : Only g w w'
theorem cut_part {w : World} {g o cap : Nat} {t : TypeId} {xs : List Nat} (h : Part w g t o xs) (hl : Lt xs) (hc : xs.length ≤ cap) (hm : cap ≤ maxLen) :
    Calls Tryz.prog 128 #[.slice (some ⟨g, o, none⟩) xs.length cap] w (Mine (val xs) g cap t w) := by
  refine (cut_walk _ cap xs w hc hm h.at).mono ?_
  rintro e w' ⟨⟨k, hk, hz, he, rfl⟩, rfl⟩
  have e1 := trim_eq hl k hk hz he
  have e2 := trim_len hl k hk hz he
  exact ⟨⟨o, cap, by rw [e2], by rw [e1]; exact h.take k, by rw [e2]; omega, Nat.le_refl _⟩, Only.refl _ _⟩

theorem Part.drewN {w : World} {g o : Nat} {t : TypeId} {xs : List Nat} (h : Part w g t o xs) (n : Nat) : Part (w.drewN n) g t o xs := h.keep (Kp.drewN w n)
/-- The own memory of a call is all that has changed. -/
theorem Part.same {w w' : World} {g o : Nat} {t : TypeId} {xs : List Nat} (h : Part w g t o xs) (e : w = w') : Part w' g t o xs := e ▸ h

-- the reference's down
set_option maxRecDepth 100000 in
set_option maxHeartbeats 1000000 in
theorem down_any {w : World} {g o cap : Nat} {t : TypeId} {xs : List Nat} (h : Part w g t o xs) (hl : Lt xs) (hc : xs.length ≤ cap) (hm : cap ≤ maxLen) (hs : xs.length ≤ 2000) (q r : Nat) (hq : q < xs.length) (hr : r < 32) (n : Nat) (hn : n = 32 * q + r) :
    Calls Tryz.prog 95 #[.slice (some ⟨g, o, none⟩) xs.length cap, .int .i64 n] w (Mine (val xs / 2 ^ n) g cap t w) := by
  have hval : val xs / 2 ^ n = val (xs.drop q) / 2 ^ r := by
    have e := val_append (xs.take q) (xs.drop q)
    rw [List.take_append_drop, List.length_take, Nat.min_eq_left (by omega)] at e
    have hb := val_lt (hl.take q)
    rw [List.length_take, Nat.min_eq_left (by omega)] at hb
    have hp : (2 : Nat) ^ n = 4294967296 ^ q * 2 ^ r := by rw [hn, Nat.pow_add, Nat.pow_mul]
    rw [hp, ← Nat.div_div_eq_div_mul]
    congr 1
    rw [e, Nat.add_comm, Nat.mul_add_div (Nat.pow_pos (by omega)), Nat.div_eq_of_lt hb, Nat.add_zero]
  have FIN : Hid (∀ e w1 w', Mine (val (xs.drop q) / 2 ^ r) g (cap - q) t w1 e w' → Only g w w1 → Mine (val xs / 2 ^ n) g cap t w e w') := by
    intro e w1 w' h1 h2
    rw [hval]
    obtain ⟨⟨o', c, rfl, hp, h3, h4⟩, h5⟩ := h1
    exact ⟨⟨o', c, rfl, hp, h3, by omega⟩, h2.trans h5⟩
  obtain ⟨Q, hQ⟩ : ∃ Q, Q = Mine (val xs / 2 ^ n) g cap t w := ⟨_, rfl⟩
  rw [← hQ] at FIN ⊢
  have hys := hl.drop q
  have hpy := h.drop q (by omega)
  obtain ⟨ys, hy⟩ : ∃ ys, ys = xs.drop q := ⟨_, rfl⟩
  have hyl : ys.length = xs.length - q := by rw [hy, List.length_drop]
  rw [← hy] at hys hpy FIN
  obtain ⟨len, hlen⟩ : ∃ len, len = xs.length := ⟨_, rfl⟩
  rw [← hlen] at hc hs hq hyl
  rw [← hlen]
  unfold maxLen at hm
  have HYS := Lib.hid hys; have HPY := Lib.hid hpy; have HYL := Lib.hid hyl
  clear h hl hval hQ hys hpy hy hyl hlen
  have hmin : min (len : Int) (q : Int) = (q : Int) := by omega
  have hd1 : (n : Int) / 32 = (q : Int) := by omega
  have hd2 : (n : Int) % 32 = (r : Int) := by omega
  have HN := Lib.hid hn
  clear hn
  go_enter Tryz.func95, Tryz.ntmps95
  go_wp2_with fail
  go_loopw [5] (fun i wr => ∃ (k : Nat) (zr : List Nat), k ≤ len - q ∧ i = .int .i64 k ∧ LowRel ys r k zr ∧ Part wr g t (o + q) zr ∧ Only g w wr) (fun i _ => len - q - (intOf i).toNat)
  case atStart => exact ⟨0, ys, Nat.zero_le _, rfl, LowRel.start r HYS.out, HPY.out, Only.refl _ _⟩
  case round =>
    obtain ⟨k, zr, hk, rfl, hrel', hpart, honly⟩ := hrel
    rename World => wr
    have hzl : zr.length = len - q := by rw [hrel'.len, HYL.out]
    by_cases hlt : k < len - q
    · have hcell := hpart.cell k (by omega)
      have hfree : wr.frozen? ⟨g, o + q + k, none⟩ = false := hpart.free _
      rw [hrel'.high k (Nat.le_refl _)] at hcell
      have hxb := HYS.out k
      have HREL := Lib.hid hrel'; have HP := Lib.hid hpart; have HON := Lib.hid honly
      by_cases hlt1 : k + 1 < len - q
      · have hcell1 := hpart.cell (k + 1) (by omega)
        rw [hrel'.high (k + 1) (by omega)] at hcell1
        have hxb1 := HYS.out (k + 1)
        have hst := hrel'.step hr (by rw [HYL.out]; exact hlt) HYS.out rfl
        obtain ⟨x, ex⟩ : ∃ x, x = ys[k]?.getD 0 := ⟨_, rfl⟩
        rw [← ex] at hcell hxb hst
        obtain ⟨x1, ex1⟩ : ∃ x, x = ys[k + 1]?.getD 0 := ⟨_, rfl⟩
        rw [← ex1] at hcell1 hxb1 hst
        clear hrel' hpart honly ex ex1
        have hor := or_u64' hxb hxb1
        obtain ⟨u, hu⟩ : ∃ u, u = x + 4294967296 * x1 := ⟨_, rfl⟩
        rw [← hu] at hor hst
        have hub : u < 18446744073709551616 := by omega
        have hdv := shr_id (t := u) (s := r)
        obtain ⟨p, hp⟩ : ∃ p, p = u / 2 ^ r := ⟨_, rfl⟩
        rw [← hp] at hst hdv
        have hpb : p ≤ u := by rw [hp]; exact Nat.div_le_self _ _
        have HST := Lib.hid hst
        clear hst hp hu
        go_wp2
        go_roundw
        case rel => exact ⟨k + 1, zr.set k (p % 4294967296), by omega, vint (by omega), HST.out.2, HP.out.set k (p % 4294967296) _ (by omega) (by omega), HON.out.set _ _⟩
        case measure => simp [intOf]; omega
      · have hst := hrel'.step hr (by rw [HYL.out]; exact hlt) HYS.out rfl
        rw [List.getElem?_eq_none (show ys.length ≤ k + 1 by rw [HYL.out]; omega), Option.getD_none, Nat.mul_zero, Nat.add_zero] at hst
        obtain ⟨x, ex⟩ : ∃ x, x = ys[k]?.getD 0 := ⟨_, rfl⟩
        rw [← ex] at hcell hxb hst
        clear hrel' hpart honly ex
        have hdv := shr_id (t := x) (s := r)
        obtain ⟨p, hp⟩ : ∃ p, p = x / 2 ^ r := ⟨_, rfl⟩
        rw [← hp] at hst hdv
        have hpb : p ≤ x := by rw [hp]; exact Nat.div_le_self _ _
        have HST := Lib.hid hst
        clear hst hp
        go_wp2
        go_roundw
        case rel => exact ⟨k + 1, zr.set k (p % 4294967296), by omega, vint (by omega), HST.out.2, HP.out.set k (p % 4294967296) _ (by omega) (by omega), HON.out.set _ _⟩
        case measure => simp [intOf]; omega
    · have hkl : k = len - q := by omega
      subst hkl
      rw [← HYL.out] at hrel'
      have hv := hrel'.fin
      have hcut := cut_part (cap := cap - q) hpart hrel'.lt (by omega) (by unfold maxLen; omega)
      rw [hzl, hv] at hcut
      have HCUT := Lib.hid hcut; have HON := Lib.hid honly
      clear hrel' hpart honly hv hcut hzl
      go_wp2_with fail
      refine HCUT.out.mono ?_
      intro e w2 hm2
      have FIN2 := Lib.hid (FIN.out _ _ _ hm2 HON.out)
      obtain ⟨⟨o2, c2, rfl, -, -, -⟩, -⟩ := hm2
      go_wp2
      (try go_ret)
      exact FIN2.out
end Go.Proofs.YtfcpfmjoelhlnaaGreatDoor
