/- Contracts of the reference's sums, differences and products. Conditions: the slices hold the digits that are named. -/
import Derived.Test.YtgpochhndjadhaaGreatDoorMul
namespace Go.Proofs.YtgpochhndjadhaaGreatDoor
open Go.RowKit LimbN

/-- A slice of the call's own that is appended to. -/
structure Own (w wr : World) (v : Value) (k : Nat) (zs : List Nat) : Prop where
  owns : wr.ownsRow w.heap.size 59 1 v k (U zs)
  len : zs.length = k
  lt : Lt zs
  kp : Kp w wr
theorem Own.start (w : World) : Own w w (.slice none 0 0) 0 [] := ⟨World.ownsRow_nil _ _ _ _, rfl, Lt.nil, Kp.refl _⟩
theorem at_one {w : World} {D : Int} {e : TypeId} {d : Nat} (h : D = (d : Int)) : At (w.alloc (.cells #[.int .u32 D] e)) (some ⟨w.heap.size, 0, none⟩) [d] := by
  subst h
  refine .inr ⟨w.heap.size, 0, rfl, fun i hi => ?_⟩
  obtain rfl : i = 0 := by simpa using hi
  rw [cell_of_row _ w.heap.size 0 _ e (0, 0) (heap_alloc_new w _)]
  simp
theorem Own.app {w wr w1 : World} {v v' : Value} {k d : Nat} {zs : List Nat} {o : Obj} (h : Own w wr v k zs) (hd : d < 4294967296) (h1 : w1.ownsRow w.heap.size 59 1 v' (k + 1) (U (zs ++ [d]))) (h2 : (wr.alloc o).grownBy w1 v.ownBlock) : Own w w1 v' (k + 1) (zs ++ [d]) := by
  refine ⟨h1, by simp [h.len], h.lt.append (Lt.cons hd Lt.nil), ?_⟩
  refine Below.grown (Below.alloc h.kp h.kp.size _) h2 (by have := h.kp.size; simp; omega) (fun k hk => (h.owns.lt k hk).1)

set_option maxRecDepth 100000 in
set_option maxHeartbeats 1000000 in
theorem Plus_any {xs ys : List Nat} {va vb : Value} {w : World} (ha : Sl w va xs) (hb : Sl w vb ys) (hsx : xs.length ≤ 1000000) (hsy : ys.length ≤ 1000000) :
    Calls Tryz.prog 89 #[va, vb] w fun e w' => ∃ v', e = .returned v' ∧ Sl w' v' (limbs (val xs + val ys)) ∧ New w.heap.size v' ∧ Kp w w' := by
  obtain ⟨⟨ao, ca, rfl, hca, hma, hat, _⟩, hxs, _⟩ := ha
  obtain ⟨⟨bo, cb, rfl, hcb, hmb, hbt, _⟩, hys, _⟩ := hb
  unfold maxLen at hma hmb
  obtain ⟨la, hla⟩ : ∃ la, la = xs.length := ⟨_, rfl⟩
  obtain ⟨lb, hlb⟩ : ∃ lb, lb = ys.length := ⟨_, rfl⟩
  rw [← hla] at hca hsx; rw [← hlb] at hcb hsy
  rw [← hla, ← hlb]
  have HLA := Lib.hid hla; have HLB := Lib.hid hlb; have HAT := Lib.hid hat; have HBT := Lib.hid hbt; have HXS := Lib.hid hxs; have HYS := Lib.hid hys
  clear hla hlb hat hbt hxs hys
  obtain ⟨M, hM1, hM2, hM3, hM4⟩ : ∃ M : Nat, la ≤ M ∧ lb ≤ M ∧ M ≤ 1000000 ∧ (la < M → lb = M) := ⟨max la lb, by omega, by omega, by omega, by omega⟩
  have HM4 := Lib.hid hM4; clear hM4
  go_enter Tryz.func89, Tryz.ntmps89
  go_wp2_with fail
  go_loopw [5, 6, 7] (fun v c i wr => ∃ (k c' : Nat) (zs : List Nat), k ≤ M + 1 ∧ (k = M + 1 → c' = 0) ∧ i = .int .i64 k ∧ c = .int .u64 c' ∧ c' ≤ 1 ∧ val zs + 4294967296 ^ k * c' = val (xs.take k) + val (ys.take k) ∧ Own w wr v k zs) (fun _ _ i _ => M + 1 - (intOf i).toNat)
  case atStart => exact ⟨0, 0, [], by omega, fun _ => rfl, rfl, rfl, by omega, by simp [val], Own.start w⟩
  case round =>
    obtain ⟨k, c', zs, hk, hk2, rfl, rfl, hc1, hsum, hown⟩ := hrel
    have HSUM := Lib.hid hsum; have HOWN := Lib.hid hown; have HK2 := Lib.hid hk2
    have hsz := hown.kp.size
    clear hsum hown hk2
    by_cases hka : k < la
    · obtain ⟨b, off, rfl, hcx⟩ := (HAT.out.keep HOWN.out.kp).cells (by have := HLA.out; omega)
      have hcellx := hcx k (by have := HLA.out; omega)
      have hxb := HXS.out k
      clear hcx
      obtain ⟨x, ex⟩ : ∃ x, x = xs[k]?.getD 0 := ⟨_, rfl⟩
      rw [← ex] at hcellx hxb
      have EX := Lib.hid ex; clear ex
      by_cases hkb : k < lb
      · obtain ⟨b', off', rfl, hcy⟩ := (HBT.out.keep HOWN.out.kp).cells (by have := HLB.out; omega)
        have hcelly := hcy k (by have := HLB.out; omega)
        have hyb := HYS.out k
        clear hcy
        obtain ⟨y, ey⟩ : ∃ y, y = ys[k]?.getD 0 := ⟨_, rfl⟩
        rw [← ey] at hcelly hyb
        have EY := Lib.hid ey; clear ey
        obtain ⟨sm, hsm⟩ : ∃ sm, sm = c' + (x + y) := ⟨_, rfl⟩
        have hsb : sm < 8589934592 := by omega
        have SM := Lib.hid hsm; clear hsm
        go_wp2_with (at_builtin; refine wpList_app rfl (.tmp 46) (.tmp 49) 23 rfl Tryz.underlying23 w.heap.size _ k zs rfl (HOWN.out.owns.alloc _) (some ⟨wr.heap.size, 0, none⟩) 1 1 [sm % 4294967296] rfl rfl (at_one (by have := SM.out; omega)) (fun h => nomatch h) (by omega) (by simp; omega) ?_)
        intro v' w1 hown' hgr
        have HOWN1 := Lib.hid (HOWN.out.app (by omega) hown' hgr)
        clear hown' hgr
        go_wp2
        go_roundw
        case rel => exact ⟨k + 1, sm / 4294967296, _, by omega, fun _ => by have := SM.out; omega, vint (by omega), vint (by have := SM.out; omega), by omega, plus_step _ HOWN.out.len HSUM.out EX.out EY.out SM.out, HOWN1.out⟩
        case measure => simp [intOf]; omega
      · have EY : Hid (0 = ys[k]?.getD 0) := by have := HLB.out; show _ = _; rw [List.getElem?_eq_none (by omega)]; rfl
        obtain ⟨sm, hsm⟩ : ∃ sm, sm = c' + (x + 0) := ⟨_, rfl⟩
        have hsb : sm < 8589934592 := by omega
        have SM := Lib.hid hsm; clear hsm
        go_wp2_with (at_builtin; refine wpList_app rfl (.tmp 46) (.tmp 49) 23 rfl Tryz.underlying23 w.heap.size _ k zs rfl (HOWN.out.owns.alloc _) (some ⟨wr.heap.size, 0, none⟩) 1 1 [sm % 4294967296] rfl rfl (at_one (by have := SM.out; omega)) (fun h => nomatch h) (by omega) (by simp; omega) ?_)
        intro v' w1 hown' hgr
        have HOWN1 := Lib.hid (HOWN.out.app (by omega) hown' hgr)
        clear hown' hgr
        go_wp2
        go_roundw
        case rel => exact ⟨k + 1, sm / 4294967296, _, by omega, fun _ => by have := SM.out; omega, vint (by omega), vint (by have := SM.out; omega), by omega, plus_step _ HOWN.out.len HSUM.out EX.out EY.out SM.out, HOWN1.out⟩
        case measure => simp [intOf]; omega
    · by_cases hkb : k < lb
      · obtain ⟨b', off', rfl, hcy⟩ := (HBT.out.keep HOWN.out.kp).cells (by have := HLB.out; omega)
        have hcelly := hcy k (by have := HLB.out; omega)
        have hyb := HYS.out k
        clear hcy
        obtain ⟨y, ey⟩ : ∃ y, y = ys[k]?.getD 0 := ⟨_, rfl⟩
        rw [← ey] at hcelly hyb
        have EY := Lib.hid ey; clear ey
        have EX : Hid (0 = xs[k]?.getD 0) := by have := HLA.out; show _ = _; rw [List.getElem?_eq_none (by omega)]; rfl
        obtain ⟨sm, hsm⟩ : ∃ sm, sm = c' + (0 + y) := ⟨_, rfl⟩
        have hsb : sm < 8589934592 := by omega
        have SM := Lib.hid hsm; clear hsm
        go_wp2_with (at_builtin; refine wpList_app rfl (.tmp 46) (.tmp 49) 23 rfl Tryz.underlying23 w.heap.size _ k zs rfl (HOWN.out.owns.alloc _) (some ⟨wr.heap.size, 0, none⟩) 1 1 [sm % 4294967296] rfl rfl (at_one (by have := SM.out; omega)) (fun h => nomatch h) (by omega) (by simp; omega) ?_)
        intro v' w1 hown' hgr
        have HOWN1 := Lib.hid (HOWN.out.app (by omega) hown' hgr)
        clear hown' hgr
        go_wp2
        go_roundw
        case rel => exact ⟨k + 1, sm / 4294967296, _, by omega, fun _ => by have := SM.out; omega, vint (by omega), vint (by have := SM.out; omega), by omega, plus_step _ HOWN.out.len HSUM.out EX.out EY.out SM.out, HOWN1.out⟩
        case measure => simp [intOf]; omega
      · by_cases hc0 : 0 < c'
        · have hkM : k ≤ M := by have := HK2.out; omega
          have EX : Hid (0 = xs[k]?.getD 0) := by have := HLA.out; show _ = _; rw [List.getElem?_eq_none (by omega)]; rfl
          have EY : Hid (0 = ys[k]?.getD 0) := by have := HLB.out; show _ = _; rw [List.getElem?_eq_none (by omega)]; rfl
          obtain ⟨sm, hsm⟩ : ∃ sm, sm = c' + (0 + 0) := ⟨_, rfl⟩
          have hsb : sm < 8589934592 := by omega
          have SM := Lib.hid hsm; clear hsm
          go_wp2_with (at_builtin; refine wpList_app rfl (.tmp 46) (.tmp 49) 23 rfl Tryz.underlying23 w.heap.size _ k zs rfl (HOWN.out.owns.alloc _) (some ⟨wr.heap.size, 0, none⟩) 1 1 [sm % 4294967296] rfl rfl (at_one (by have := SM.out; omega)) (fun h => nomatch h) (by omega) (by simp; omega) ?_)
          intro v' w1 hown' hgr
          have HOWN1 := Lib.hid (HOWN.out.app (by omega) hown' hgr)
          clear hown' hgr
          go_wp2
          go_roundw
          case rel => exact ⟨k + 1, sm / 4294967296, _, by omega, fun _ => by have := SM.out; omega, vint (by omega), vint (by have := SM.out; omega), by omega, plus_step _ HOWN.out.len HSUM.out EX.out EY.out SM.out, HOWN1.out⟩
          case measure => simp [intOf]; omega
        · have hc00 : c' = 0 := by omega
          subst hc00
          have hfin : val zs = val xs + val ys := by
            have := HSUM.out
            rwa [List.take_of_length_le (by have := HLA.out; omega), List.take_of_length_le (by have := HLB.out; omega), Nat.mul_zero, Nat.add_zero] at this
          have HFIN := Lib.hid hfin; clear hfin
          have hs1 := sl_of_owns HOWN.out.owns HOWN.out.lt (by have := HOWN.out.len; omega)
          have HS := Lib.hid hs1.1; have HN := Lib.hid hs1.2; clear hs1
          go_wp2_with fail
          refine (trim_any HS.out).mono ?_
          rintro e w' ⟨v', rfl, hs', hn', hk'⟩
          rw [HFIN.out] at hs'
          have HS' := Lib.hid hs'; have HN' := Lib.hid (hn'.mono hsz); have HK' := Lib.hid (Kp.trans HOWN.out.kp hk')
          clear hs' hn' hk'
          go_wp2
          go_ret
          exact ⟨v', rfl, HS'.out, HN'.out, HK'.out⟩

set_option maxRecDepth 100000 in
set_option maxHeartbeats 1000000 in
theorem Minus_any {xs ys : List Nat} {va vb : Value} {w : World} (ha : Sl w va xs) (hb : Sl w vb ys) (hsx : xs.length ≤ 1000000) (hll : ys.length ≤ xs.length) (hle : val ys ≤ val xs) :
    Calls Tryz.prog 52 #[va, vb] w fun e w' => ∃ v', e = .returned v' ∧ Sl w' v' (limbs (val xs - val ys)) ∧ New w.heap.size v' ∧ Kp w w' := by
  obtain ⟨⟨ao, ca, rfl, hca, hma, hat, _⟩, hxs, _⟩ := ha
  obtain ⟨⟨bo, cb, rfl, hcb, hmb, hbt, _⟩, hys, _⟩ := hb
  unfold maxLen at hma hmb
  obtain ⟨la, hla⟩ : ∃ la, la = xs.length := ⟨_, rfl⟩
  obtain ⟨lb, hlb⟩ : ∃ lb, lb = ys.length := ⟨_, rfl⟩
  rw [← hla] at hca hsx hll; rw [← hlb] at hcb hll
  rw [← hla, ← hlb]
  have HLA := Lib.hid hla; have HLB := Lib.hid hlb; have HAT := Lib.hid hat; have HBT := Lib.hid hbt; have HXS := Lib.hid hxs; have HYS := Lib.hid hys; have HLE := Lib.hid hle
  clear hla hlb hat hbt hxs hys hle
  go_enter Tryz.func52, Tryz.ntmps52
  go_wp2_with fail
  go_loopw [5, 6, 7] (fun v c i wr => ∃ (k c' : Nat) (zs : List Nat), k ≤ la ∧ i = .int .i64 k ∧ c = .int .u64 c' ∧ c' ≤ 1 ∧ val zs + val (ys.take k) = val (xs.take k) + 4294967296 ^ k * c' ∧ Own w wr v k zs) (fun _ _ i _ => la - (intOf i).toNat)
  case atStart => exact ⟨0, 0, [], by omega, rfl, rfl, by omega, by simp [val], Own.start w⟩
  case round =>
    obtain ⟨k, c', zs, hk, rfl, rfl, hc1, hsum, hown⟩ := hrel
    have HSUM := Lib.hid hsum; have HOWN := Lib.hid hown
    have hsz := hown.kp.size
    clear hsum hown
    by_cases hka : k < la
    · obtain ⟨b, off, rfl, hcx⟩ := (HAT.out.keep HOWN.out.kp).cells (by have := HLA.out; omega)
      have hcell := hcx k (by have := HLA.out; omega)
      have hxb := HXS.out k
      clear hcx
      obtain ⟨x, ex⟩ : ∃ x, x = xs[k]?.getD 0 := ⟨_, rfl⟩
      rw [← ex] at hcell hxb
      have EX := Lib.hid ex; clear ex
      by_cases hkb : k < lb
      · obtain ⟨b', off', rfl, hcy⟩ := (HBT.out.keep HOWN.out.kp).cells (by have := HLB.out; omega)
        have hcelly := hcy k (by have := HLB.out; omega)
        have hyb := HYS.out k
        clear hcy
        obtain ⟨y, ey⟩ : ∃ y, y = ys[k]?.getD 0 := ⟨_, rfl⟩
        rw [← ey] at hcelly hyb
        have EY := Lib.hid ey; clear ey
        by_cases hzx : (x : Int) < (c' : Int) + (y : Int)
        · have HD : Hid ((x + 4294967296 - (c' + y)) + (c' + y) = x + 4294967296 * 1) := by show _ = _; omega
          have hdb : (x + 4294967296 - (c' + y)) < 4294967296 := by omega
          obtain ⟨d, hd⟩ : ∃ d, d = (x + 4294967296 - (c' + y)) := ⟨_, rfl⟩
          rw [← hd] at HD hdb
          have HDD := Lib.hid hd; clear hd
          go_wp2_with (at_builtin; refine wpList_app rfl (.tmp 34) (.tmp 46) 23 rfl Tryz.underlying23 w.heap.size _ k zs rfl (HOWN.out.owns.alloc _) (some ⟨wr.heap.size, 0, none⟩) 1 1 [d] rfl rfl (at_one (by have := HDD.out; omega)) (fun h => nomatch h) (by omega) (by simp; omega) ?_)
          intro v' w1 hown' hgr
          have HOWN1 := Lib.hid (HOWN.out.app hdb hown' hgr)
          clear hown' hgr
          go_wp2
          go_roundw
          case rel => exact ⟨k + 1, 1, _, by omega, vint (by omega), vint (by omega), by omega, minus_step HOWN.out.len HSUM.out EX.out EY.out HD.out, HOWN1.out⟩
          case measure => simp [intOf]; omega
        · have HD : Hid ((x - (c' + y)) + (c' + y) = x + 4294967296 * 0) := by show _ = _; omega
          have hdb : (x - (c' + y)) < 4294967296 := by omega
          obtain ⟨d, hd⟩ : ∃ d, d = (x - (c' + y)) := ⟨_, rfl⟩
          rw [← hd] at HD hdb
          have HDD := Lib.hid hd; clear hd
          go_wp2_with (at_builtin; refine wpList_app rfl (.tmp 34) (.tmp 46) 23 rfl Tryz.underlying23 w.heap.size _ k zs rfl (HOWN.out.owns.alloc _) (some ⟨wr.heap.size, 0, none⟩) 1 1 [d] rfl rfl (at_one (by have := HDD.out; omega)) (fun h => nomatch h) (by omega) (by simp; omega) ?_)
          intro v' w1 hown' hgr
          have HOWN1 := Lib.hid (HOWN.out.app hdb hown' hgr)
          clear hown' hgr
          go_wp2
          go_roundw
          case rel => exact ⟨k + 1, 0, _, by omega, vint (by omega), vint (by omega), by omega, minus_step HOWN.out.len HSUM.out EX.out EY.out HD.out, HOWN1.out⟩
          case measure => simp [intOf]; omega
      · have EY : Hid (0 = ys[k]?.getD 0) := by have := HLB.out; show _ = _; rw [List.getElem?_eq_none (by omega)]; rfl
        by_cases hzx : (x : Int) < (c' : Int)
        · have HD : Hid ((x + 4294967296 - c') + (c' + 0) = x + 4294967296 * 1) := by show _ = _; omega
          have hdb : (x + 4294967296 - c') < 4294967296 := by omega
          obtain ⟨d, hd⟩ : ∃ d, d = (x + 4294967296 - c') := ⟨_, rfl⟩
          rw [← hd] at HD hdb
          have HDD := Lib.hid hd; clear hd
          go_wp2_with (at_builtin; refine wpList_app rfl (.tmp 34) (.tmp 46) 23 rfl Tryz.underlying23 w.heap.size _ k zs rfl (HOWN.out.owns.alloc _) (some ⟨wr.heap.size, 0, none⟩) 1 1 [d] rfl rfl (at_one (by have := HDD.out; omega)) (fun h => nomatch h) (by omega) (by simp; omega) ?_)
          intro v' w1 hown' hgr
          have HOWN1 := Lib.hid (HOWN.out.app hdb hown' hgr)
          clear hown' hgr
          go_wp2
          go_roundw
          case rel => exact ⟨k + 1, 1, _, by omega, vint (by omega), vint (by omega), by omega, minus_step HOWN.out.len HSUM.out EX.out EY.out HD.out, HOWN1.out⟩
          case measure => simp [intOf]; omega
        · have HD : Hid ((x - c') + (c' + 0) = x + 4294967296 * 0) := by show _ = _; omega
          have hdb : (x - c') < 4294967296 := by omega
          obtain ⟨d, hd⟩ : ∃ d, d = (x - c') := ⟨_, rfl⟩
          rw [← hd] at HD hdb
          have HDD := Lib.hid hd; clear hd
          go_wp2_with (at_builtin; refine wpList_app rfl (.tmp 34) (.tmp 46) 23 rfl Tryz.underlying23 w.heap.size _ k zs rfl (HOWN.out.owns.alloc _) (some ⟨wr.heap.size, 0, none⟩) 1 1 [d] rfl rfl (at_one (by have := HDD.out; omega)) (fun h => nomatch h) (by omega) (by simp; omega) ?_)
          intro v' w1 hown' hgr
          have HOWN1 := Lib.hid (HOWN.out.app hdb hown' hgr)
          clear hown' hgr
          go_wp2
          go_roundw
          case rel => exact ⟨k + 1, 0, _, by omega, vint (by omega), vint (by omega), by omega, minus_step HOWN.out.len HSUM.out EX.out EY.out HD.out, HOWN1.out⟩
          case measure => simp [intOf]; omega
    · have hkl : k = la := by omega
      subst hkl
      have hfin : val zs = val xs - val ys := by
        have h1 := HSUM.out
        rw [List.take_of_length_le (l := xs) (by have := HLA.out; omega), List.take_of_length_le (l := ys) (by have := HLB.out; omega)] at h1
        exact minus_end HOWN.out.lt HOWN.out.len h1 HLE.out
      have HFIN := Lib.hid hfin; clear hfin
      have hs1 := sl_of_owns HOWN.out.owns HOWN.out.lt (by have := HOWN.out.len; omega)
      have HS := Lib.hid hs1.1; have HN := Lib.hid hs1.2; clear hs1
      go_wp2_with fail
      refine (trim_any HS.out).mono ?_
      rintro e w' ⟨v', rfl, hs', hn', hk'⟩
      rw [HFIN.out] at hs'
      have HS' := Lib.hid hs'; have HN' := Lib.hid (hn'.mono hsz); have HK' := Lib.hid (Kp.trans HOWN.out.kp hk')
      clear hs' hn' hk'
      go_wp2
      go_ret
      exact ⟨v', rfl, HS'.out, HN'.out, HK'.out⟩

theorem wf_len {xs ys : List Nat} (hxl : Lt xs) (hyl : Lt ys) (hx : wf xs = true) (hy : wf ys = true) (hle : val ys ≤ val xs) : ys.length ≤ xs.length := by
  have h1 := (wf_canon hyl hy).1
  have h2 := (wf_canon hxl hx).1
  rw [← h1, limbs_len_le]
  have h3 : (limbs (val xs)).length ≤ xs.length := by rw [h2]; exact Nat.le_refl _
  rw [limbs_len_le] at h3
  omega
theorem limbs_mono {m n : Nat} (h : m ≤ n) : (limbs m).length ≤ (limbs n).length := by
  rw [limbs_len_le]
  have h3 : (limbs n).length ≤ (limbs n).length := Nat.le_refl _
  rw [limbs_len_le] at h3
  omega
end Go.Proofs.YtgpochhndjadhaaGreatDoor
