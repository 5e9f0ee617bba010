/- The reference's Pow, and both Pows' errors. Condition: the slice holds the digits that are named, the exponent is a 64-bit integer. -/
import Derived.Test.YtdoponlhiidimaaGreatDoorPow
namespace Go.Proofs.YtdoponlhiidimaaGreatDoor
open Go.RowKit LimbN

def Bad3 : Ending := .returned (.tuple #[.slice none 0 0, .int .i64 3])
set_option maxHeartbeats 400000 in
theorem Pow_bad1 {xs : List Nat} {va : Value} {w : World} (ha : Sl w va xs) (hx : wf xs = false) (n : Int) :
    Calls Tryz.prog 19 #[va, .int .i64 n] w fun e w' => e = Bad1 ∧ w = w' := by
  have HA := Lib.hid ha; have HX := Lib.hid hx; clear ha hx
  go_enter Tryz.func19, Tryz.ntmps19
  go_wp2_with fail
  refine (check_any HA.out).mono ?_
  rintro e w1 ⟨rfl, rfl⟩
  rw [HX.out]
  go_wp2
  go_ret2
  exact ⟨rfl, rfl⟩
set_option maxHeartbeats 400000 in
theorem rPow_bad1 {xs : List Nat} {va : Value} {w : World} (ha : Sl w va xs) (hx : wf xs = false) (n : Int) :
    Calls Tryz.prog 22 #[va, .int .i64 n] w fun e w' => e = Bad1 ∧ w = w' := by
  have HA := Lib.hid ha; have HX := Lib.hid hx; clear ha hx
  go_enter Tryz.func22, Tryz.ntmps22
  go_wp2_with fail
  refine (rcheck_any HA.out).mono ?_
  rintro e w1 ⟨rfl, rfl⟩
  rw [HX.out]
  go_wp2
  go_ret2
  exact ⟨rfl, rfl⟩
set_option maxHeartbeats 400000 in
theorem Pow_bad3 {xs : List Nat} {va : Value} {w : World} (ha : Sl w va xs) (hx : wf xs = true) (n : Int) (hn : n < 0 ∨ 65536 < n) :
    Calls Tryz.prog 19 #[va, .int .i64 n] w fun e w' => e = Bad3 ∧ w = w' := by
  have HA := Lib.hid ha; have HX := Lib.hid hx; clear ha hx
  by_cases h0 : n < 0
  · clear hn
    go_enter Tryz.func19, Tryz.ntmps19
    go_wp2_with fail
    refine (check_any HA.out).mono ?_
    rintro e w1 ⟨rfl, rfl⟩
    rw [HX.out]
    go_wp2
    go_ret2
    exact ⟨rfl, rfl⟩
  · have h1 : 65536 < n := by omega
    clear hn
    go_enter Tryz.func19, Tryz.ntmps19
    go_wp2_with fail
    refine (check_any HA.out).mono ?_
    rintro e w1 ⟨rfl, rfl⟩
    rw [HX.out]
    go_wp2
    go_ret2
    exact ⟨rfl, rfl⟩
set_option maxHeartbeats 400000 in
theorem rPow_bad3 {xs : List Nat} {va : Value} {w : World} (ha : Sl w va xs) (hx : wf xs = true) (n : Int) (hn : n < 0 ∨ 65536 < n) :
    Calls Tryz.prog 22 #[va, .int .i64 n] w fun e w' => e = Bad3 ∧ w = w' := by
  have HA := Lib.hid ha; have HX := Lib.hid hx; clear ha hx
  by_cases h0 : n < 0
  · clear hn
    go_enter Tryz.func22, Tryz.ntmps22
    go_wp2_with fail
    refine (rcheck_any HA.out).mono ?_
    rintro e w1 ⟨rfl, rfl⟩
    rw [HX.out]
    go_wp2
    go_ret2
    exact ⟨rfl, rfl⟩
  · have h1 : 65536 < n := by omega
    clear hn
    go_enter Tryz.func22, Tryz.ntmps22
    go_wp2_with fail
    refine (rcheck_any HA.out).mono ?_
    rintro e w1 ⟨rfl, rfl⟩
    rw [HX.out]
    go_wp2
    go_ret2
    exact ⟨rfl, rfl⟩

theorem got_same {x m n : Nat} {w w' : World} {e : Ending} (h : x ^ m = x ^ n) (hg : Got (x ^ m) w e w') : Got (x ^ n) w e w' := h ▸ hg

set_option maxRecDepth 100000 in
set_option maxHeartbeats 2000000 in
/-- The two ways out before the loop. -/
theorem rPow_early {xs : List Nat} {va : Value} {w : World} (ha : Sl w va xs) (hx : wf xs = true) (n : Nat) (hn : n ≤ 65536) (hc : (xs = [] ∧ 0 < n) ∨ xs = [1]) :
    Calls Tryz.prog 22 #[va, .int .i64 n] w (Got (val xs ^ n) w) := by
  have HA := Lib.hid ha; have HX := Lib.hid hx
  have hv : val xs ^ n = val xs := by
    rcases hc with ⟨rfl, h⟩ | rfl
    · show 0 ^ n = 0; exact Nat.zero_pow h
    · show (1 + 4294967296 * 0) ^ n = _; rw [Nat.mul_zero, Nat.add_zero, Nat.one_pow]; rfl
  rw [hv]
  have hca := wf_canon ha.lt hx
  have HCA := Lib.hid hca; clear hca hv
  obtain ⟨⟨ao, cap, rfl, hcap, hm, hat, hno⟩, hlt, -⟩ := ha
  have HAT := Lib.hid hat; have HNO := Lib.hid hno; have HLT := Lib.hid hlt
  clear hx hat hno hlt
  obtain ⟨l, el⟩ : ∃ l, l = xs.length := ⟨_, rfl⟩
  rw [← el] at hcap ⊢
  unfold maxLen at hm
  rcases hc with ⟨h, hn0⟩ | h
  · have hl : l = 0 := by rw [el, h]; rfl
    have XE := Lib.hid h; have EL := Lib.hid el
    rw [← el] at HA
    clear h el
    subst hl
    go_enter Tryz.func22, Tryz.ntmps22
    go_wp2_with fail
    refine (rcheck_any HA.out).mono ?_
    rintro e w1 ⟨rfl, rfl⟩
    rw [HX.out]
    have XL : Hid (xs.length = 0) := by rw [XE.out]; rfl
    go_wp2_with (at_builtin; refine wpList_app rfl (.const (.slice none 0 0)) (.tmp 35) 24 rfl Tryz.underlying24 w.heap.size _ 0 [] rfl (World.ownsRow_nil _ _ _ _) ao 0 cap xs rfl XL.out HAT.out HNO.out (by omega) (Nat.le_refl _) ?_)
    intro v' w1 hown hgr
    have FIN : Hid (Got (val xs) w (.returned (.tuple #[v', .int .i64 0])) w1) := by
      have h1 := sl_of_owns (zs := xs) hown HLT.out (by have := HCA.out.2; omega)
      refine Got.yes (Kp.grown hgr (by intro k hk; simp [Value.ownBlock] at hk)) (by rw [HCA.out.1]; exact HCA.out.2) (by rw [HCA.out.1]; exact h1.1) h1.2
    clear hown hgr
    go_wp2
    go_ret2
    exact FIN.out
  · have hl : l = 1 := by rw [el, h]; rfl
    have HC0 : Hid (∃ b off, ao = some ⟨b, off, none⟩ ∧ w.cell? ⟨b, off, none⟩ = some (.int .u32 1)) := by
      obtain ⟨b, off, e, hc⟩ := HAT.out.cells (by rw [h]; decide)
      have h1 := hc 0 (by rw [h]; decide)
      rw [h] at h1
      exact ⟨b, off, e, h1⟩
    have XE := Lib.hid h; have EL := Lib.hid el
    rw [← el] at HA
    clear h el
    subst hl
    have XL : Hid (xs.length = 1) := by rw [XE.out]; rfl
    obtain ⟨b, off, rfl, hcell⟩ := HC0.out
    clear HC0
    go_enter Tryz.func22, Tryz.ntmps22
    go_wp2_with fail
    refine (rcheck_any HA.out).mono ?_
    rintro e w1 ⟨rfl, rfl⟩
    rw [HX.out]
    go_wp2_with (at_builtin; refine wpList_app rfl (.const (.slice none 0 0)) (.tmp 35) 24 rfl Tryz.underlying24 w.heap.size _ 0 [] rfl (World.ownsRow_nil _ _ _ _) (some ⟨b, off, none⟩) 1 cap xs rfl XL.out HAT.out (fun h => nomatch h) (by omega) (Nat.le_refl _) ?_)
    intro v' w1 hown hgr
    have FIN : Hid (Got (val xs) w (.returned (.tuple #[v', .int .i64 0])) w1) := by
      have h1 := sl_of_owns (zs := xs) hown HLT.out (by have := HCA.out.2; omega)
      refine Got.yes (Kp.grown hgr (by intro k hk; simp [Value.ownBlock] at hk)) (by rw [HCA.out.1]; exact HCA.out.2) (by rw [HCA.out.1]; exact h1.1) h1.2
    clear hown hgr
    go_wp2
    go_ret2
    exact FIN.out

/-- How the loop stands. -/
structure RSt (X k : Nat) (w wr : World) (p : Value) : Prop where
  sl : Sl wr p (limbs (X ^ k))
  len : (limbs (X ^ k)).length ≤ 128
  new : New w.heap.size p
  kp : Kp w wr
set_option maxRecDepth 100000 in
set_option maxHeartbeats 2000000 in
/-- The loop. -/
theorem rPow_loop {xs : List Nat} {va : Value} {w : World} (ha : Sl w va xs) (hx : wf xs = true) (n : Nat) (hn : n ≤ 65536) (hc : ¬ ((xs = [] ∧ 0 < n) ∨ xs = [1])) :
    Calls Tryz.prog 22 #[va, .int .i64 n] w (Got (val xs ^ n) w) := by
  have HA := Lib.hid ha; have HX := Lib.hid hx
  have hca := wf_canon ha.lt hx
  have HCA := Lib.hid hca; clear hca
  obtain ⟨⟨ao, cap, rfl, hcap, hm, hat, hno⟩, hlt, -⟩ := ha
  have HAT := Lib.hid hat; have HNO := Lib.hid hno; have HLT := Lib.hid hlt
  clear hx hat hno hlt
  obtain ⟨l, el⟩ : ∃ l, l = xs.length := ⟨_, rfl⟩
  rw [← el] at hcap HA ⊢
  unfold maxLen at hm
  have hl0 : l = 0 → n = 0 := fun h => by
    refine Classical.byContradiction fun hn0 => hc (.inl ⟨List.eq_nil_of_length_eq_zero (by omega), by omega⟩)
  have HC1 : Hid (l = 1 → ∃ b off x, ao = some ⟨b, off, none⟩ ∧ w.cell? ⟨b, off, none⟩ = some (.int .u32 (x : Nat)) ∧ x ≠ 1) := by
    intro h
    obtain ⟨b, off, e, hc2⟩ := HAT.out.cells (by omega)
    have h1 := hc2 0 (by omega)
    refine ⟨b, off, xs[0]?.getD 0, e, h1, fun h2 => hc (.inr ?_)⟩
    match xs, el with
    | [], el => simp at el; omega
    | [x], _ => simp at h2; rw [h2]
    | _ :: _ :: _, el => simp at el; omega
  have EL := Lib.hid el
  clear hc el
  have START : Hid (RSt (val xs) 0 w (w.alloc (.cells #[.int .u32 1] 43)) (.slice (some ⟨w.heap.size, 0, none⟩) 1 1)) := by
    rw [show RSt (val xs) 0 = RSt (val xs) 0 from rfl]
    have e : limbs (val xs ^ 0) = [1] := by rw [Nat.pow_zero]; decide +kernel
    refine ⟨?_, by rw [e]; decide, ?_, Kp.alloc (Kp.refl _) _⟩
    · rw [e]
      exact ⟨⟨_, 1, rfl, Nat.le_refl _, by unfold maxLen; omega, at_one (d := 1) rfl, fun h => nomatch h⟩, Lt.cons (by omega) Lt.nil, by decide⟩
    · intro a len cap h
      simp only [Value.slice.injEq, Option.some.injEq] at h
      rw [← h.1]; exact Nat.le_refl _
  by_cases hl : l = 0
  · have hn0 : n ≤ 0 := Nat.le_of_eq (hl0 hl)
    subst hl
    clear hl0 HC1
    go_enter Tryz.func22, Tryz.ntmps22
    go_wp2_with fail
    refine (rcheck_any HA.out).mono ?_
    rintro e w1 ⟨rfl, rfl⟩
    rw [HX.out]
    go_wp2_with fail
    go_loopw [7, 6] (fun i p wy => ∃ k : Nat, k ≤ n ∧ i = .int .i64 k ∧ RSt (val xs) k w wy p) (fun i _ _ => n - (intOf i).toNat)
    case atStart => exact ⟨0, by omega, rfl, START.out⟩
    case round =>
      obtain ⟨k, hk, rfl, hst⟩ := hrel
      rename World => wr
      have ST := Lib.hid hst; clear hst
      by_cases hkn : k < n
      · exfalso; omega
      · obtain rfl : k = n := by omega
        have FIN := Lib.hid (Got.yes ST.out.kp ST.out.len ST.out.sl ST.out.new)
        go_wp2
        go_ret2
        exact FIN.out
  · by_cases hl1 : l = 1
    · subst hl1
      obtain ⟨b, off, x, rfl, hcell, hx1⟩ := HC1.out rfl
      have hxb : ((x : Int) == 1) = false := beq_eq_false_iff_ne.2 (by omega)
      clear hl0 HC1 hl hx1
      go_enter Tryz.func22, Tryz.ntmps22
      go_wp2_with fail
      refine (rcheck_any HA.out).mono ?_
      rintro e w1 ⟨rfl, rfl⟩
      rw [HX.out]
      go_wp2_with fail
      go_loopw [7, 6] (fun i p wy => ∃ k : Nat, k ≤ n ∧ i = .int .i64 k ∧ RSt (val xs) k w wy p) (fun i _ _ => n - (intOf i).toNat)
      case atStart => exact ⟨0, by omega, rfl, START.out⟩
      case round =>
        obtain ⟨k, hk, rfl, hst⟩ := hrel
        rename World => wr
        have ST := Lib.hid hst; clear hst
        by_cases hkn : k < n
        · have HA2 := Lib.hid (HA.out.keep ST.out.kp)
          go_wp2_with fail
          refine (Times_any ST.out.sl HA2.out (by have := ST.out.len; omega) (by have := HCA.out.2; omega)).mono ?_
          rintro e w2 ⟨v2, rfl, hs2, hn2, hk2⟩
          rw [val_limbs, ← Nat.pow_succ] at hs2
          have HS2 := Lib.hid hs2; have HN2 := Lib.hid (hn2.mono ST.out.kp.size); have HK2 := Lib.hid (Kp.trans ST.out.kp hk2)
          obtain ⟨ao2, cap2, rfl, hlc2, hcm2, -, -⟩ := hs2.ex
          clear hs2 hn2 hk2
          obtain ⟨l2, el2⟩ : ∃ l2, l2 = (limbs (val xs ^ (k + 1))).length := ⟨_, rfl⟩
          rw [← el2] at hlc2 HS2 HN2 ⊢
          have EL2 := Lib.hid el2; clear el2
          unfold maxLen at hcm2
          by_cases h2 : 128 < l2
          · have FIN : Hid (Got (val xs ^ n) w (.returned (.tuple #[.slice none 0 0, .int .i64 2])) w2) := Got.no HK2.out (pow_over (m := k + 1) (by omega) (by rw [← EL2.out]; exact h2))
            go_wp2
            go_ret2
            exact FIN.out
          · have ST2 : Hid (RSt (val xs) (k + 1) w w2 (.slice ao2 l2 cap2)) := ⟨HS2.out, by rw [← EL2.out]; omega, HN2.out, HK2.out⟩
            go_wp2
            go_roundw
            case rel => exact ⟨k + 1, by omega, vint (by omega), ST2.out⟩
            case measure => simp [intOf] <;> omega
        · obtain rfl : k = n := by omega
          have FIN := Lib.hid (Got.yes ST.out.kp ST.out.len ST.out.sl ST.out.new)
          go_wp2
          go_ret2
          exact FIN.out
    · clear hl0 HC1
      go_enter Tryz.func22, Tryz.ntmps22
      go_wp2_with fail
      refine (rcheck_any HA.out).mono ?_
      rintro e w1 ⟨rfl, rfl⟩
      rw [HX.out]
      go_wp2_with fail
      go_loopw [7, 6] (fun i p wy => ∃ k : Nat, k ≤ n ∧ i = .int .i64 k ∧ RSt (val xs) k w wy p) (fun i _ _ => n - (intOf i).toNat)
      case atStart => exact ⟨0, by omega, rfl, START.out⟩
      case round =>
        obtain ⟨k, hk, rfl, hst⟩ := hrel
        rename World => wr
        have ST := Lib.hid hst; clear hst
        by_cases hkn : k < n
        · have HA2 := Lib.hid (HA.out.keep ST.out.kp)
          go_wp2_with fail
          refine (Times_any ST.out.sl HA2.out (by have := ST.out.len; omega) (by have := HCA.out.2; omega)).mono ?_
          rintro e w2 ⟨v2, rfl, hs2, hn2, hk2⟩
          rw [val_limbs, ← Nat.pow_succ] at hs2
          have HS2 := Lib.hid hs2; have HN2 := Lib.hid (hn2.mono ST.out.kp.size); have HK2 := Lib.hid (Kp.trans ST.out.kp hk2)
          obtain ⟨ao2, cap2, rfl, hlc2, hcm2, -, -⟩ := hs2.ex
          clear hs2 hn2 hk2
          obtain ⟨l2, el2⟩ : ∃ l2, l2 = (limbs (val xs ^ (k + 1))).length := ⟨_, rfl⟩
          rw [← el2] at hlc2 HS2 HN2 ⊢
          have EL2 := Lib.hid el2; clear el2
          unfold maxLen at hcm2
          by_cases h2 : 128 < l2
          · have FIN : Hid (Got (val xs ^ n) w (.returned (.tuple #[.slice none 0 0, .int .i64 2])) w2) := Got.no HK2.out (pow_over (m := k + 1) (by omega) (by rw [← EL2.out]; exact h2))
            go_wp2
            go_ret2
            exact FIN.out
          · have ST2 : Hid (RSt (val xs) (k + 1) w w2 (.slice ao2 l2 cap2)) := ⟨HS2.out, by rw [← EL2.out]; omega, HN2.out, HK2.out⟩
            go_wp2
            go_roundw
            case rel => exact ⟨k + 1, by omega, vint (by omega), ST2.out⟩
            case measure => simp [intOf] <;> omega
        · obtain rfl : k = n := by omega
          have FIN := Lib.hid (Got.yes ST.out.kp ST.out.len ST.out.sl ST.out.new)
          go_wp2
          go_ret2
          exact FIN.out
end Go.Proofs.YtdoponlhiidimaaGreatDoor
