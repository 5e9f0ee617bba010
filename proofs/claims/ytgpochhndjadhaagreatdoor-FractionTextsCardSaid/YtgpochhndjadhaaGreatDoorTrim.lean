/- Contracts of the functions that trim, cut and compare numbers. Conditions: the slices hold the digits that are named, each below 2^32. -/
import Derived.Test.YtgpochhndjadhaaGreatDoorRead
namespace Go.Proofs.YtgpochhndjadhaaGreatDoor
open Go.RowKit LimbN


/-- From k on all digits are 0. -/
def ZeroFrom (k : Nat) (xs : List Nat) : Prop := ∀ j : Nat, k ≤ j → xs[j]?.getD 0 = 0
theorem ZeroFrom.all (xs : List Nat) : ZeroFrom xs.length xs := fun j hj => by rw [List.getElem?_eq_none (by omega)]; rfl
theorem ZeroFrom.down {k : Nat} {xs : List Nat} (h : ZeroFrom (k + 1) xs) (h0 : xs[k]?.getD 0 = 0) : ZeroFrom k xs := by
  intro j hj
  by_cases e : j = k
  · subst e; exact h0
  · exact h j (by omega)
theorem trim_zero {xs : List Nat} (h : ZeroFrom 0 xs) : val xs = 0 := val_eq_zero.2 (fun i => h i (Nat.zero_le _))

/-- A part of a slice. -/
theorem Sl.cut {w : World} {ao : Option Addr} {cap : Nat} {xs : List Nat} (hc : xs.length ≤ cap) (hm : cap ≤ maxLen) (ha : At w ao xs) (hl : Lt xs) (hs : xs.length ≤ 35184372088832) (hno : ao = none → cap = 0) (k : Nat) (hk : k ≤ xs.length) : Sl w (.slice ao k cap) (xs.take k) := by
  have e : (xs.take k).length = k := by rw [List.length_take]; omega
  exact ⟨⟨ao, cap, by rw [e], by omega, hm, ha.take k, hno⟩, hl.take k, by omega⟩

-- natural.trimmed
set_option maxHeartbeats 400000 in
theorem trimmed_walk (ao : Option Addr) (cap : Nat) (xs : List Nat) (w : World) (hc : xs.length ≤ cap) (hm : cap ≤ maxLen) (ha : At w ao xs) :
    Calls Tryz.prog 98 #[.slice ao xs.length cap] w fun e w' =>
      (∃ k, k ≤ xs.length ∧ ZeroFrom k xs ∧ (k = 0 ∨ xs[k - 1]?.getD 0 ≠ 0) ∧ e = .returned (if k = 0 then .slice none 0 0 else .slice ao k cap)) ∧ w = w' := by
  unfold maxLen at hm
  have HAT := Lib.hid ha; clear ha
  obtain ⟨len, hlen⟩ : ∃ len, len = xs.length := ⟨_, rfl⟩
  rw [← hlen] at hc
  rw [← hlen]
  have HL := Lib.hid hlen; clear hlen
  go_enter Tryz.func98, Tryz.ntmps98
  go_wp2
  go_loop [3] (fun i => ∃ k : Nat, k ≤ len ∧ i = .int .i64 k ∧ ZeroFrom k xs) (fun i => (intOf i).toNat)
  case atStart => exact ⟨len, Nat.le_refl _, rfl, by rw [HL.out]; exact ZeroFrom.all xs⟩
  case round =>
    obtain ⟨k, hk, rfl, hz⟩ := hrel
    have HZ := Lib.hid hz; clear hz
    by_cases h0 : k = 0
    · subst h0
      go_wp2
      go_ret
      exact ⟨⟨0, Nat.zero_le _, HZ.out, .inl rfl, rfl⟩, rfl⟩
    · obtain ⟨b, off, rfl, hcells⟩ := HAT.out.cells (by have := HL.out; omega)
      have hcell := hcells (k - 1) (by have := HL.out; omega)
      clear hcells
      obtain ⟨z, ez⟩ : ∃ z, z = xs[k - 1]?.getD 0 := ⟨_, rfl⟩
      rw [← ez] at hcell
      have EZ := Lib.hid ez; clear ez
      have hk0 : (0 : Int) < (k : Int) := by omega
      have hkf : ((k : Int) == 0) = false := beq_eq_false_iff_ne.2 (by omega)
      by_cases hz0 : z = 0
      · subst hz0
        go_wp2
        go_round
        case rel => exact ⟨k - 1, by omega, vint (by omega), ZeroFrom.down (by have := HZ.out; rwa [show k - 1 + 1 = k by omega]) EZ.out.symm⟩
        case measure => simp [intOf]; omega
      · have hzf : ((z : Int) == 0) = false := beq_eq_false_iff_ne.2 (by omega)
        go_wp2
        go_ret
        exact ⟨⟨k, by have := HL.out; omega, HZ.out, .inr (by rw [← EZ.out]; exact hz0), by rw [if_neg h0]; rfl⟩, rfl⟩
theorem trimmed_any {v : Value} {xs : List Nat} {w : World} (hs : Sl w v xs) :
    Calls Tryz.prog 98 #[v] w fun e w' => (∃ v', e = .returned v' ∧ Sl w v' (limbs (val xs)) ∧ ∀ B, New B v → New B v') ∧ w = w' := by
  obtain ⟨⟨ao, cap, rfl, hcap, hm, ha, hno⟩, hl, hsm⟩ := hs
  refine (trimmed_walk ao cap xs w hcap hm ha).mono ?_
  rintro e w' ⟨⟨k, hk, hz, he, rfl⟩, rfl⟩
  refine ⟨⟨_, rfl, ?_, ?_⟩, rfl⟩
  · rw [trim_eq hl k hk hz he]
    by_cases h0 : k = 0
    · subst h0; rw [if_pos rfl]; simpa using Sl.nil w
    · rw [if_neg h0]; exact Sl.cut hcap hm ha hl hsm hno k hk
  · intro B hB
    by_cases h0 : k = 0
    · rw [if_pos h0]; exact New.nil B
    · rw [if_neg h0]; intro a l c e
      simp only [Value.slice.injEq] at e
      exact hB a xs.length cap (by rw [e.1])

-- the reference's trim
set_option maxHeartbeats 400000 in
theorem trim_walk (ao : Option Addr) (cap : Nat) (xs : List Nat) (w : World) (hc : xs.length ≤ cap) (_hm : cap ≤ maxLen) (ha : At w ao xs) (hl : Lt xs) (hsm : xs.length ≤ 35184372088832) :
    Calls Tryz.prog 93 #[.slice ao xs.length cap] w fun e w' =>
      ∃ v', e = .returned v' ∧ Sl w' v' (limbs (val xs)) ∧ New w.heap.size v' ∧ Kp w w' := by
  unfold maxLen at _hm
  have HAT := Lib.hid ha; have HLT := Lib.hid hl; clear ha hl
  obtain ⟨len, hlen⟩ : ∃ len, len = xs.length := ⟨_, rfl⟩
  rw [← hlen] at hc hsm
  rw [← hlen]
  have HL := Lib.hid hlen; clear hlen
  go_enter Tryz.func93, Tryz.ntmps93
  go_wp2
  go_loop [3] (fun i => ∃ k : Nat, k ≤ len ∧ i = .int .i64 k ∧ ZeroFrom k xs) (fun i => (intOf i).toNat)
  case atStart => exact ⟨len, Nat.le_refl _, rfl, by rw [HL.out]; exact ZeroFrom.all xs⟩
  case round =>
    obtain ⟨k, hk, rfl, hz⟩ := hrel
    have HZ := Lib.hid hz; clear hz
    by_cases h0 : k = 0
    · subst h0
      have hv : val xs = 0 := trim_zero HZ.out
      have HV := Lib.hid hv; clear hv
      cases ao with
      | none =>
        go_wp2
        go_ret
        exact ⟨_, rfl, by rw [HV.out]; exact Sl.nil _, New.nil _, Kp.refl _⟩
      | some a =>
        go_wp2
        go_ret
        exact ⟨_, rfl, by rw [HV.out]; exact Sl.nil _, New.nil _, Kp.refl _⟩
    · obtain ⟨b, off, rfl, hcells⟩ := HAT.out.cells (by have := HL.out; omega)
      have hcell := hcells (k - 1) (by have := HL.out; omega)
      have HCELLS := Lib.hid hcells
      clear hcells
      obtain ⟨z, ez⟩ : ∃ z, z = xs[k - 1]?.getD 0 := ⟨_, rfl⟩
      rw [← ez] at hcell
      have EZ := Lib.hid ez; clear ez
      have hk0 : (0 : Int) < (k : Int) := by omega
      have hkf : ((k : Int) == 0) = false := beq_eq_false_iff_ne.2 (by omega)
      by_cases hz0 : z = 0
      · subst hz0
        go_wp2
        go_round
        case rel => exact ⟨k - 1, by omega, vint (by omega), ZeroFrom.down (by have := HZ.out; rwa [show k - 1 + 1 = k by omega]) EZ.out.symm⟩
        case measure => simp [intOf]; omega
      · have hzf : ((z : Int) == 0) = false := beq_eq_false_iff_ne.2 (by omega)
        have htr := trim_eq HLT.out k (by have := HL.out; omega) HZ.out (.inr (by rw [← EZ.out]; exact hz0))
        have HTR := Lib.hid htr; clear htr
        have L1 : Hid ((xs.take k).length = k) := by show _ = _; rw [List.length_take]; have := HL.out; omega
        go_wp2_with (at_builtin; refine wpList_app rfl (.const (.slice none 0 0)) (.tmp 20) 23 rfl Tryz.underlying23 w.heap.size _ 0 [] rfl (World.ownsRow_nil _ _ _ _) (some ⟨b, off, none⟩) k cap (xs.take k) rfl L1.out (HAT.out.take k) (fun h => nomatch h) (by omega) (Nat.le_refl _) ?_)
        intro v' w1 hown hgr
        rw [← HTR.out] at hown
        have hs1 := sl_of_owns hown (Lt.limbs _) (by rw [HTR.out, List.length_take]; omega)
        have HS := Lib.hid hs1.1; have HN := Lib.hid hs1.2; have HG := Lib.hid (Kp.grown hgr (by simp [Value.ownBlock]))
        clear hs1 hown hgr
        go_wp2
        go_ret
        exact ⟨v', rfl, HS.out, HN.out, HG.out⟩
theorem trim_any {v : Value} {xs : List Nat} {w : World} (hs : Sl w v xs) :
    Calls Tryz.prog 93 #[v] w fun e w' => ∃ v', e = .returned v' ∧ Sl w' v' (limbs (val xs)) ∧ New w.heap.size v' ∧ Kp w w' := by
  obtain ⟨⟨ao, cap, rfl, hcap, hm, ha, hno⟩, hl, hsm⟩ := hs
  exact trim_walk ao cap xs w hcap hm ha hl hsm

-- the reference's limited
set_option maxHeartbeats 400000 in
theorem rlimited_any {v : Value} {xs : List Nat} {w : World} (hs : Sl w v xs) :
    Calls Tryz.prog 116 #[v] w fun e w' => e = .returned (if xs.length ≤ 128 then .tuple #[v, .int .i64 0] else .tuple #[.slice none 0 0, .int .i64 2]) ∧ w = w' := by
  obtain ⟨⟨ao, cap, rfl, hcap, hm, ha, hno⟩, hl, hsm⟩ := hs
  clear ha hno hl
  obtain ⟨len, hlen⟩ : ∃ len, len = xs.length := ⟨_, rfl⟩
  rw [← hlen] at hcap hsm
  rw [← hlen]
  clear hlen
  unfold maxLen at hm
  by_cases h : len ≤ 128
  · go_enter Tryz.func116, Tryz.ntmps116
    go_wp2
    go_ret2
    exact ⟨rfl, rfl⟩
  · go_enter Tryz.func116, Tryz.ntmps116
    go_wp2
    go_ret2
    exact ⟨rfl, rfl⟩
-- natural.limited
set_option maxHeartbeats 400000 in
theorem limited_any {v : Value} {xs : List Nat} {w : World} (hs : Sl w v xs) :
    Calls Tryz.prog 124 #[v] w fun e w' =>
      (∃ v', e = .returned (if (limbs (val xs)).length ≤ 128 then .tuple #[v', .int .i64 0] else .tuple #[.slice none 0 0, .int .i64 2]) ∧ Sl w v' (limbs (val xs)) ∧ ∀ B, New B v → New B v') ∧ w = w' := by
  have HS := Lib.hid hs; clear hs
  by_cases h : (limbs (val xs)).length ≤ 128
  · have H := Lib.hid h; clear h
    go_enter Tryz.func124, Tryz.ntmps124
    go_wp2_with fail
    refine (trimmed_any HS.out).mono ?_
    rintro e w' ⟨⟨v', rfl, hs', hn⟩, rfl⟩
    have HS' := Lib.hid hs'; have HN := Lib.hid hn; clear hs' hn
    obtain ⟨ao, cap, hv, _, _, _, _⟩ := HS'.out.ex
    subst hv
    have hh := H.out
    obtain ⟨len, hlen⟩ : ∃ len, len = (limbs (val xs)).length := ⟨_, rfl⟩
    rw [← hlen] at hh
    have HL := Lib.hid hlen
    rw [← hlen]
    clear hlen
    go_wp2
    go_ret2
    exact ⟨⟨_, rfl, by rw [HL.out]; exact HS'.out, by rw [HL.out]; exact HN.out⟩, rfl⟩
  · have H := Lib.hid h; clear h
    go_enter Tryz.func124, Tryz.ntmps124
    go_wp2_with fail
    refine (trimmed_any HS.out).mono ?_
    rintro e w' ⟨⟨v', rfl, hs', hn⟩, rfl⟩
    have HS' := Lib.hid hs'; have HN := Lib.hid hn; clear hs' hn
    obtain ⟨ao, cap, hv, _, _, _, _⟩ := HS'.out.ex
    subst hv
    have hh := H.out
    obtain ⟨len, hlen⟩ : ∃ len, len = (limbs (val xs)).length := ⟨_, rfl⟩
    rw [← hlen] at hh
    have HL := Lib.hid hlen
    rw [← hlen]
    clear hlen
    go_wp2
    go_ret2
    exact ⟨⟨rfl, .slice ao len cap, by rw [HL.out]; exact HS'.out, by rw [HL.out]; exact HN.out⟩, rfl⟩

/-- A slice that the call has just written down. -/
theorem sl_lit {w : World} {e : TypeId} (xs : List Nat) (hl : Lt xs) (hs : xs.length ≤ 1000) : Sl (w.alloc (.cells (U xs).toArray e)) (.slice (some ⟨w.heap.size, 0, none⟩) xs.length xs.length) xs := by
  refine ⟨⟨_, _, rfl, Nat.le_refl _, by unfold maxLen; omega, .inr ⟨w.heap.size, 0, rfl, fun i hi => ?_⟩, fun h => nomatch h⟩, hl, by omega⟩
  rw [Nat.zero_add, cell_of_row _ w.heap.size i _ e (0, 0) (heap_alloc_new w _)]
  simp [U, List.getElem?_eq_getElem hi]
theorem val_two (n : Nat) (_h : n < 18446744073709551616) : val [n % 4294967296, n / 4294967296] = n := by simp only [val]; omega

theorem sl_two (n : Nat) (w : World) (e : TypeId) (h : n < 18446744073709551616) :
    Sl (w.alloc (.cells #[.int .u32 ((n : Int) % 4294967296), .int .u32 ((n : Int) / 4294967296)] e)) (.slice (some ⟨w.heap.size, 0, none⟩) 2 2) [n % 4294967296, n / 4294967296] := by
  have := sl_lit (w := w) (e := e) [n % 4294967296, n / 4294967296] (Lt.cons (by omega) (Lt.cons (by omega) Lt.nil)) (by simp)
  simpa [U] using this
set_option maxHeartbeats 400000 in
theorem of_any (n : Nat) (w : World) (hn : n < 18446744073709551616) :
    Calls Tryz.prog 66 #[.int .u64 n] w fun e w' => ∃ v', e = .returned v' ∧ Sl w' v' (limbs n) ∧ New w.heap.size v' ∧ Kp w w' := by
  have HSL := fun e => Lib.hid (sl_two n w e hn)
  go_enter Tryz.func66, Tryz.ntmps66
  go_wp2_with fail
  refine (trimmed_any (HSL _).out).mono ?_
  rintro e w' ⟨⟨v', rfl, hs', hn'⟩, rfl⟩
  rw [val_two n hn] at hs'
  have HS' := Lib.hid hs'; have HN := Lib.hid (hn' w.heap.size (by intro a l c e; simp only [Value.slice.injEq, Option.some.injEq] at e; rw [← e.1]; exact Nat.le_refl _)); clear hs' hn'
  go_wp2
  go_ret
  exact ⟨v', rfl, HS'.out, HN.out, Kp.alloc (Kp.refl _) _⟩
set_option maxHeartbeats 400000 in
theorem rof_any (n : Nat) (w : World) (hn : n < 18446744073709551616) :
    Calls Tryz.prog 100 #[.int .u64 n] w fun e w' => ∃ v', e = .returned v' ∧ Sl w' v' (limbs n) ∧ New w.heap.size v' ∧ Kp w w' := by
  have HSL := fun e => Lib.hid (sl_two n w e hn)
  go_enter Tryz.func100, Tryz.ntmps100
  go_wp2_with fail
  refine (trim_any (HSL _).out).mono ?_
  rintro e w' ⟨v', rfl, hs', hn', hk⟩
  rw [val_two n hn] at hs'
  have HS' := Lib.hid hs'; have HN := Lib.hid (hn'.mono (show w.heap.size ≤ _ by simp)); have HK := Lib.hid hk; clear hs' hn' hk
  go_wp2
  go_ret
  exact ⟨v', rfl, HS'.out, HN.out, Kp.trans (Kp.alloc (Kp.refl _) _) HK.out⟩

-- testgatemake.SameNat
theorem eq_of_EqFrom {xs ys : List Nat} (hl : xs.length = ys.length) (h : ∀ j : Nat, j < xs.length → xs[j]?.getD 0 = ys[j]?.getD 0) : xs = ys := by
  apply List.ext_getElem hl
  intro i h1 h2
  have := h i h1
  simpa [List.getElem?_eq_getElem h1, List.getElem?_eq_getElem h2] using this
set_option maxHeartbeats 400000 in
theorem same_len (ao bo : Option Addr) (l m ca cb : Nat) (w : World) (hne : l ≠ m) :
    Calls Tryz.prog 30 #[.slice ao l ca, .slice bo m cb] w fun e w' => e = .returned (.bool false) ∧ w = w' := by
  have h : ((l : Int) != m) = true := by rw [bne_iff_ne]; omega
  go_enter Tryz.func30, Tryz.ntmps30
  go_wp2
  go_ret
  exact ⟨rfl, rfl⟩
set_option maxHeartbeats 400000 in
theorem same_walk (ao bo : Option Addr) (l ca cb : Nat) (xs ys : List Nat) (w : World) (hxl : xs.length = l) (hyl : ys.length = l) (hl : l ≤ maxLen) (ha : At w ao xs) (hb : At w bo ys) :
    Calls Tryz.prog 30 #[.slice ao l ca, .slice bo l cb] w fun e w' => e = .returned (.bool (decide (xs = ys))) ∧ Drawn w w' := by
  unfold maxLen at hl
  have HX := Lib.hid hxl; have HY := Lib.hid hyl; have HA := Lib.hid ha; have HB := Lib.hid hb
  clear hxl hyl ha hb
  have h0 : ((l : Int) != l) = false := by simp
  go_enter Tryz.func30, Tryz.ntmps30
  go_wp2
  go_loopw [5] (fun i wr => ∃ k : Nat, k ≤ l ∧ i = .int .i64 k ∧ (∀ j : Nat, j < k → xs[j]?.getD 0 = ys[j]?.getD 0) ∧ Drawn w wr) (fun i _ => l - (intOf i).toNat)
  case atStart => exact ⟨0, by omega, rfl, fun j hj => by omega, 0, rfl⟩
  case round =>
    obtain ⟨k, hk, rfl, heq, n, rfl⟩ := hrel
    have HEQ := Lib.hid heq; clear heq
    by_cases hlt : k < l
    · obtain ⟨b, off, rfl, h1⟩ := HA.out.cells (by have := HX.out; omega)
      obtain ⟨b', off', rfl, h2⟩ := HB.out.cells (by have := HY.out; omega)
      have h1 := h1 k (by have := HX.out; omega)
      have h2 := h2 k (by have := HY.out; omega)
      obtain ⟨x, ex⟩ : ∃ x, x = xs[k]?.getD 0 := ⟨_, rfl⟩
      obtain ⟨y, ey⟩ : ∃ y, y = ys[k]?.getD 0 := ⟨_, rfl⟩
      rw [← ex] at h1
      rw [← ey] at h2
      have EX := Lib.hid ex; have EY := Lib.hid ey
      clear ex ey
      by_cases h : x = y
      · subst h
        go_wp2
        go_quiet (fail)
        go_wp2
        go_roundw
        case rel =>
          refine ⟨k + 1, by omega, vint (by omega), ?_, (by repeat (first | exact Drawn.refl _ | apply Drawn.drew | apply Drawn.one))⟩
          intro t ht
          by_cases e : t = k
          · subst e; rw [← EX.out, ← EY.out]
          · exact HEQ.out t (by omega)
        case measure => simp [intOf]; omega
      · have hne : ((x : Int) != y) = true := by rw [bne_iff_ne]; omega
        go_wp2
        go_quiet (fail)
        go_wp2
        go_ret
        exact ⟨ret_bool (decide_eq_false (fun e => h (by rw [EX.out, EY.out, e]))).symm, (by repeat (first | exact Drawn.refl _ | apply Drawn.drew | apply Drawn.one))⟩
    · have : k = l := by omega
      subst this
      go_wp2
      go_ret
      exact ⟨ret_bool (decide_eq_true (eq_of_EqFrom (by rw [HX.out, HY.out]) (fun j hj => HEQ.out j (by rw [← HX.out]; exact hj)))).symm, (by repeat (first | exact Drawn.refl _ | apply Drawn.drew | apply Drawn.one))⟩
theorem same_any {xs ys : List Nat} {va vb : Value} {w : World} (ha : Sl w va xs) (hb : Sl w vb ys) :
    Calls Tryz.prog 30 #[va, vb] w fun e w' => e = .returned (.bool (decide (xs = ys))) ∧ Drawn w w' := by
  obtain ⟨⟨ao, ca, rfl, hca, hma, ha, _⟩, hxl, _⟩ := ha
  obtain ⟨⟨bo, cb, rfl, hcb, hmb, hb, _⟩, hyl, _⟩ := hb
  by_cases h : xs.length = ys.length
  · rw [← h]
    exact same_walk ao bo xs.length ca cb xs ys w rfl h.symm (by omega) ha hb
  · refine (same_len ao bo xs.length ys.length ca cb w h).mono fun e w' hh => ⟨?_, hh.2 ▸ Drawn.refl _⟩
    rw [hh.1]
    exact ret_bool (decide_eq_false (fun e => h (by rw [e]))).symm

end Go.Proofs.YtgpochhndjadhaaGreatDoor
