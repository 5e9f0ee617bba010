/- Contracts of Bits and Uint, and of the helper that trims a law's input. Conditions: the slices hold the digits that are named. -/
import Derived.Test.YtfcpfmjoelhlnaaDoorRMul
import Derived.Laws.BitsAllLaws
namespace Go.Proofs.YtfcpfmjoelhlnaaDoor
open Go.RowKit LimbN

set_option maxHeartbeats 400000 in
theorem rMul_ok {xs ys : List Nat} {va vb : Value} {w : World} (ha : Sl w va xs) (hb : Sl w vb ys) (hx : wf xs = true) (hy : wf ys = true) :
    Calls Tryd.prog 14 #[va, vb] w (Made (val xs * val ys) w) := by
  have HA := Lib.hid ha; have HX := Lib.hid hx; have HB := Lib.hid hb; have HY := Lib.hid hy; clear ha hx hb hy
  go_enter Tryd.func14, Tryd.ntmps14
  go_wp2_with fail
  refine (rcheck_any HA.out).mono ?_
  rintro e w' ⟨rfl, rfl⟩
  rw [HX.out]
  go_wp2_with fail
  refine (rcheck_any HB.out).mono ?_
  rintro e w' ⟨rfl, rfl⟩
  rw [HY.out]
  go_wp2_with fail
  refine (Times_any HA.out HB.out (by have := (wf_canon HA.out.lt HX.out).2; omega) (by have := (wf_canon HB.out.lt HY.out).2; omega)).mono ?_
  rintro e w2 ⟨v, rfl, hs, hn, hk⟩
  have HS := Lib.hid hs; have HN := Lib.hid hn; have HK := Lib.hid hk; clear hs hn hk
  go_wp2_with fail
  refine (rlimited_any HS.out).mono ?_
  rintro e w' ⟨rfl, rfl⟩
  have fin : Made (val xs * val ys) w (.returned (if (limbs (val xs * val ys)).length ≤ 128 then .tuple #[v, .int .i64 0] else .tuple #[.slice none 0 0, .int .i64 2])) w2 := ⟨⟨v, rfl, HS.out, HN.out⟩, HK.out⟩
  have FIN := Lib.hid fin; clear fin
  by_cases hlen : (limbs (val xs * val ys)).length ≤ 128
  · have FIN2 := FIN.out
    rw [if_pos hlen] at FIN2 ⊢
    have FIN := Lib.hid FIN2; clear FIN2
    go_wp2
    go_ret2
    exact FIN.out
  · have FIN2 := FIN.out
    rw [if_neg hlen] at FIN2 ⊢
    have FIN := Lib.hid FIN2; clear FIN2
    go_wp2
    go_ret2
    exact FIN.out

/-- The number of binary digits of a list of digits whose last one is not 0. -/
def bitsL (xs : List Nat) : Nat := if xs.length = 0 then 0 else 32 * (xs.length - 1) + Lib.bitLen (xs[xs.length - 1]?.getD 0)
def bitsW (xs : List Nat) : Nat := if wf xs then bitsL xs else 0
theorem bitLen_top {xs : List Nat} (h : Lt xs) (i : Nat) : Lib.bitLen (xs[i]?.getD 0) ≤ 32 := Lib.bitLen_le _ 32 (by omega) (by have := h i; omega)
-- natural.Bits
set_option maxHeartbeats 400000 in
theorem Bits_any {xs : List Nat} {v : Value} {w : World} (ha : Sl w v xs) :
    Calls Tryd.prog 47 #[v] w fun e w' => e = .returned (.int .i64 (bitsW xs)) ∧ w = w' := by
  have HA := Lib.hid ha
  obtain ⟨⟨ao, ca, rfl, hca, hma, hat, _⟩, hxs, _⟩ := ha
  have HXS := Lib.hid hxs; have HAT := Lib.hid hat; clear hxs hat
  obtain ⟨l, hl⟩ : ∃ l, l = xs.length := ⟨_, rfl⟩
  rw [← hl] at hca HA
  rw [← hl]
  have HL := Lib.hid hl; clear hl
  unfold maxLen at hma
  by_cases h0 : l = 0
  · subst h0
    have hb : bitsW xs = 0 := by unfold bitsW bitsL; rw [← HL.out]; simp
    have HB := Lib.hid hb; clear hb
    go_enter Tryd.func47, Tryd.ntmps47
    go_wp2
    go_ret
    exact ⟨ret_int (by rw [HB.out]; rfl), rfl⟩
  · have h0' : ((l : Int) == 0) = false := beq_eq_false_iff_ne.2 (by omega)
    cases hx : wf xs with
    | false =>
      have HX := Lib.hid hx; clear hx
      have hb : bitsW xs = 0 := by unfold bitsW; rw [HX.out]; rfl
      have HB := Lib.hid hb; clear hb
      go_enter Tryd.func47, Tryd.ntmps47
      go_wp2_with fail
      refine (check_any HA.out).mono ?_
      rintro e w' ⟨rfl, rfl⟩
      rw [HX.out]
      go_wp2
      go_ret
      exact ⟨ret_int (by rw [HB.out]; rfl), rfl⟩
    | true =>
      have HX := Lib.hid hx; clear hx
      have hl8 : l ≤ 128 := by have := (wf_canon HXS.out HX.out).2; have := HL.out; omega
      obtain ⟨b, off, rfl, hcx⟩ := HAT.out.cells (by have := HL.out; omega)
      have hcell := hcx (l - 1) (by have := HL.out; omega)
      have hxb := HXS.out (l - 1)
      have hbl := bitLen_top HXS.out (l - 1)
      clear hcx
      obtain ⟨x, ex⟩ : ∃ x, x = xs[l - 1]?.getD 0 := ⟨_, rfl⟩
      rw [← ex] at hcell hxb hbl
      have hb : bitsW xs = 32 * (l - 1) + Lib.bitLen x := by unfold bitsW bitsL; rw [HX.out, ex, ← HL.out, if_neg h0]; rfl
      have HB := Lib.hid hb; clear hb
      have EX := Lib.hid ex; clear ex
      go_enter Tryd.func47, Tryd.ntmps47
      go_wp2_with fail
      refine (check_any HA.out).mono ?_
      rintro e w' ⟨rfl, rfl⟩
      rw [HX.out]
      go_wp2_with fail
      refine (Tryd.bits_Len32 (x : Int) _ (by omega) (by omega)).mono ?_
      rintro e w' ⟨rfl, rfl⟩
      rw [Int.toNat_natCast]
      go_wp2
      go_ret
      exact ⟨ret_int (by rw [HB.out]; omega), rfl⟩
/-- What Uint says. -/
def uintOk (xs : List Nat) : Bool := wf xs && decide (xs.length ≤ 2)
def uintV (xs : List Nat) : Nat := if uintOk xs then val xs else 0
theorem or_limbs {x y : Nat} (h : x < 4294967296) : x ||| y * 4294967296 = x + 4294967296 * y := by
  have := Nat.shiftLeft_add_eq_or_of_lt (i := 32) (b := x) (show x < 2 ^ 32 by omega) y
  rw [Nat.shiftLeft_eq] at this
  rw [Nat.or_comm, ← show 2 ^ 32 = 4294967296 by rfl, ← this]
  omega
theorem or_u64 {x y : Nat} (hx : x < 4294967296) (hy : y < 4294967296) : bits .or .u64 ((y : Int) * 4294967296) (x : Int) = ((x + 4294967296 * y : Nat) : Int) := by
  have e : ((y : Int) * 4294967296) = ((y * 4294967296 : Nat) : Int) := by omega
  rw [e, u64_or_nat _ _ (by omega) (by omega), Nat.or_comm, or_limbs hx]
theorem or_u64' {x y : Nat} (hx : x < 4294967296) (hy : y < 4294967296) : bits .or .u64 (x : Int) ((y : Int) * 4294967296) = ((x + 4294967296 * y : Nat) : Int) := by
  have e : ((y : Int) * 4294967296) = ((y * 4294967296 : Nat) : Int) := by omega
  rw [e, u64_or_nat _ _ (by omega) (by omega), or_limbs hx]
theorem or_zero' {x : Nat} (hx : x < 4294967296) : bits .or .u64 0 (x : Int) = (x : Int) := by
  have := u64_or_nat 0 x (by omega) (by omega)
  simpa using this
theorem bits_le {xs : List Nat} (h : Lt xs) (hw : wf xs = true) : bitsW xs ≤ 64 ↔ xs.length ≤ 2 := by
  unfold bitsW bitsL
  rw [hw]
  simp only [if_true]
  by_cases h0 : xs.length = 0
  · rw [if_pos h0]; omega
  · rw [if_neg h0]
    have h1 := bitLen_top h (xs.length - 1)
    have h2 : Lib.bitLen (xs[xs.length - 1]?.getD 0) ≠ 0 := by
      intro hz
      have hne : xs[xs.length - 1]?.getD 0 ≠ 0 := by
        have := wf_pos (xs := xs) (by omega)
        rw [this] at hw
        simp only [Bool.and_eq_true, Bool.not_eq_true', beq_eq_false_iff_ne] at hw
        exact hw.2
      have := Lib.bitLen_half _ hne (by have := h (xs.length - 1); omega)
      omega
    omega
-- the laws' own trimmed
def lenOf : Value → Nat | .slice _ n _ => n | _ => 0
set_option maxHeartbeats 400000 in
theorem ltrim_walk (ao : Option Addr) (cap : Nat) (xs : List Nat) (w : World) (hc : xs.length ≤ cap) (hm : cap ≤ maxLen) (ha : At w ao xs) :
    Calls Tryd.prog 16 #[.slice ao xs.length cap] w fun e w' =>
      (∃ k, k ≤ min 20 xs.length ∧ ZeroFrom k (xs.take 20) ∧ (k = 0 ∨ xs[k - 1]?.getD 0 ≠ 0) ∧ e = .returned (.slice ao k cap)) ∧ w = w' := by
  unfold maxLen at hm
  have HAT := Lib.hid ha; clear ha
  obtain ⟨len, hlen⟩ : ∃ len, len = xs.length := ⟨_, rfl⟩
  rw [← hlen] at hc
  rw [← hlen]
  have HL := Lib.hid hlen; clear hlen
  by_cases h20 : 20 < len
  all_goals
    go_enter Tryd.func16, Tryd.ntmps16
    go_wp2_with fail
    go_loop [0] (fun s => ∃ k : Nat, k ≤ min 20 len ∧ s = .slice ao k cap ∧ ZeroFrom k (xs.take 20)) (fun s => lenOf s)
    case atStart => exact ⟨min 20 len, Nat.le_refl _, by first | rw [show min 20 len = 20 by omega] | rw [show min 20 len = len by omega], by have := ZeroFrom.all (xs.take 20); rw [List.length_take] at this; rw [HL.out]; exact this⟩
    case round =>
      obtain ⟨k, hk, rfl, hz⟩ := hrel
      have HZ := Lib.hid hz; clear hz
      by_cases h0 : k = 0
      · subst h0
        go_wp2
        go_ret
        exact ⟨⟨0, Nat.zero_le _, HZ.out, .inl rfl, rfl⟩, rfl⟩
      · obtain ⟨b, off, rfl, hcells⟩ := HAT.out.cells (by have := HL.out; omega)
        have hcell := hcells (k - 1) (by have := HL.out; omega)
        clear hcells
        obtain ⟨z, ez⟩ : ∃ z, z = xs[k - 1]?.getD 0 := ⟨_, rfl⟩
        rw [← ez] at hcell
        have EZ := Lib.hid ez; clear ez
        have hk0 : (0 : Int) < (k : Int) := by omega
        have hkf : ((k : Int) == 0) = false := beq_eq_false_iff_ne.2 (by omega)
        by_cases hz0 : z = 0
        · subst hz0
          go_wp2
          go_round
          case rel =>
            refine ⟨k - 1, by omega, by first | rfl | (congr 1; omega), ZeroFrom.down (by have := HZ.out; rwa [show k - 1 + 1 = k by omega]) ?_⟩
            rw [List.getElem?_take, if_pos (by omega)]; exact EZ.out.symm
          case measure => simp [lenOf]; omega
        · have hzf : ((z : Int) == 0) = false := beq_eq_false_iff_ne.2 (by omega)
          go_wp2
          go_ret
          exact ⟨⟨k, by omega, HZ.out, .inr (by rw [← EZ.out]; exact hz0), rfl⟩, rfl⟩
theorem ltrim_any {v : Value} {xs : List Nat} {w : World} (hs : Sl w v xs) :
    Calls Tryd.prog 16 #[v] w fun e w' => (∃ v', e = .returned v' ∧ Sl w v' (limbs (val (xs.take 20)))) ∧ w = w' := by
  obtain ⟨⟨ao, cap, rfl, hcap, hm, ha, hno⟩, hl, hsm⟩ := hs
  refine (ltrim_walk ao cap xs w hcap hm ha).mono ?_
  rintro e w' ⟨⟨k, hk, hz, he, rfl⟩, rfl⟩
  refine ⟨⟨_, rfl, ?_⟩, rfl⟩
  have hk2 : k ≤ (xs.take 20).length := by rw [List.length_take]; exact hk
  rw [trim_eq (hl.take 20) k hk2 hz ?_, List.take_take, Nat.min_eq_left (by omega)]
  · exact Sl.cut hcap hm ha hl hsm hno k (by omega)
  · rcases he with he | he
    · exact .inl he
    · by_cases h0 : k = 0
      · exact .inl h0
      · right; rw [List.getElem?_take, if_pos (by omega)]; exact he
end Go.Proofs.YtfcpfmjoelhlnaaDoor
