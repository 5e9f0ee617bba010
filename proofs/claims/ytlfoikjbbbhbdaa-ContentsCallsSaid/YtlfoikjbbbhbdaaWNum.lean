/- The program's bytes of numbers: number, folded, unfolded, shortest, joined. Conditions: 64-bit integers; the slices hold the bytes that are named. -/
import Derived.Test.YtlfoikjbbbhbdaaWOwn
namespace Go.Proofs.Ytlfoikjbbbhbdaa
namespace By
open Go.RowKit WireN
set_option linter.unusedVariables false
set_option linter.unusedSimpArgs false

theorem uv_step {zs : List Nat} {m : Nat} {X : List Nat} (h : zs ++ uv m = X) (hm : 128 ≤ m) : (zs ++ [m % 128 + 128]) ++ uv (m / 128) = X := by
  rw [← h, uv_ge hm]; simp

set_option maxRecDepth 100000 in
set_option maxHeartbeats 1000000 in
theorem number_any (n : Nat) (hn : n < 18446744073709551616) (w : World) :
    Calls Try.prog 56 #[.int .u64 n] w fun e w' => (∃ v, e = .returned v ∧ Sl w' v (uv n) ∧ New w.heap.size v) ∧ Kp w w' := by
  obtain ⟨X, hX⟩ : ∃ X, X = uv n := ⟨_, rfl⟩
  have HXL : Hid (X.length ≤ 10) := by rw [hX]; exact uv_ten hn
  have HX := Lib.hid hX
  rw [← hX]
  clear hX
  go_enter Try.func56, Try.ntmps56
  go_wp2_with fail
  go_loopw [3, 0] (fun v i wy => ∃ (m : Nat) (zs : List Nat), i = .int .u64 m ∧ m ≤ n ∧ zs ++ uv m = X ∧ Own w wy v zs) (fun _ i _ => (intOf i).toNat)
  case atStart => exact ⟨n, [], rfl, Nat.le_refl _, by rw [HX.out]; rfl, Own.start w⟩
  case round =>
    obtain ⟨m, zs, rfl, hm, hz, hown⟩ := hrel
    rename World => wx
    have HZ := Lib.hid hz; have HOWN := Lib.hid hown; clear hz hown
    have HL : Hid (zs.length ≤ 10) := by have h1 := congrArg List.length HZ.out; have h2 := HXL.out; rw [List.length_append] at h1; show _ ≤ _; omega
    by_cases h : 128 ≤ m
    · have hor : bits .or .u8 ((m : Int) % 256) 128 = ((m % 128 + 128 : Nat) : Int) := by
        have := or128 (m % 256) (by omega)
        rw [show m % 256 % 128 = m % 128 by omega] at this
        rw [← this]; simp
      have HOR := Lib.hid hor; clear hor
      go_wp2_with (at_builtin; refine wpList_ap (w := w) rfl (.tmp 8) (.tmp 12) 48 rfl Try.underlying48 _ _ zs [m % 128 + 128] rfl rfl (HOWN.out.keep (kp_alloc _ _)) (sl_one HOR.out (by omega)) (by have := HL.out; simp; omega) ?_)
      intro v' w1 hown1
      have HOWN1 := Lib.hid hown1; clear hown1
      go_wp2
      go_roundw
      case rel => exact ⟨m / 128, zs ++ [m % 128 + 128], by go_num, by omega, uv_step HZ.out h, HOWN1.out⟩
      case measure => simp [intOf]; omega
    · have hc : ((m : Int) % 256) = (m : Int) := by omega
      have HC := Lib.hid hc; clear hc
      have FZ : Hid (zs ++ [m] = X) := by have := HZ.out; rw [uv_lt (by omega)] at this; exact this
      go_wp2_with (at_builtin; refine wpList_ap (w := w) rfl (.tmp 14) (.tmp 17) 48 rfl Try.underlying48 _ _ zs [m] rfl rfl (HOWN.out.keep (kp_alloc _ _)) (sl_one (by omega) (by omega)) (by have := HL.out; simp; omega) ?_)
      intro v' w1 hown1
      rw [FZ.out] at hown1
      have HOWN1 := Lib.hid hown1; clear hown1
      go_wp2
      go_ret
      exact ⟨⟨_, rfl, HOWN1.out.sl (by have := HXL.out; omega), HOWN1.out.new (by have := HXL.out; omega)⟩, HOWN1.out.kp⟩

theorem sl_cell {w : World} {ao : Option Addr} {n cap : Nat} {xs : List Nat} (h : Sl w (.slice ao n cap) xs) (hx : 0 < n) :
    ∃ b off, ao = some ⟨b, off, none⟩ ∧ ∀ i : Nat, i < n → w.cell? ⟨b, off + i, none⟩ = some (.int .u8 (xs[i]?.getD 0 : Nat)) := by
  obtain ⟨⟨ao', cap', h1, h2, h3, h4, h5⟩, hl, hs⟩ := h
  simp only [Value.slice.injEq] at h1
  obtain ⟨rfl, rfl, rfl⟩ := h1
  exact h4.cells hx

set_option maxRecDepth 100000 in
set_option maxHeartbeats 400000 in
theorem small_yes (b : Nat) (h : b < 128) (w : World) : Calls Try.prog 75 #[.int .u8 b] w fun e w' => e = .returned (.bool true) ∧ w = w' := by
  go_enter Try.func75, Try.ntmps75
  go_wp2
  go_ret
  exact ⟨ret_bool (decide_eq_true (by omega)), rfl⟩
set_option maxRecDepth 100000 in
set_option maxHeartbeats 400000 in
theorem small_no (b : Nat) (h : 128 ≤ b) (w : World) : Calls Try.prog 75 #[.int .u8 b] w fun e w' => e = .returned (.bool false) ∧ w = w' := by
  go_enter Try.func75, Try.ntmps75
  go_wp2
  go_ret
  exact ⟨ret_bool (decide_eq_false (by omega)), rfl⟩

/-- the index of the last byte of a number, or -1. -/
def idxF (xs : List Nat) : Int := if on xs = xs.length then -1 else (on xs : Int)
set_option maxRecDepth 100000 in
set_option maxHeartbeats 1000000 in
theorem IndexFunc_any {v : Value} {xs : List Nat} {w : World} (hs : Sl w v xs) :
    Calls Try.prog 74 #[v, .func (.func 75) #[] #[]] w fun e w' => e = .returned (.int .i64 (idxF xs)) ∧ w = w' := by
  obtain ⟨ao, cap, rfl, hc, hm, hno⟩ := hs.open3
  obtain ⟨len, hlen⟩ : ∃ len, len = xs.length := ⟨_, rfl⟩
  rw [← hlen] at hs hc ⊢
  have hlm : len ≤ 140737488355328 := by have := hs.sm; omega
  have HS := Lib.hid hs; have HL := Lib.hid hlen
  clear hs hlen hno hm
  go_enter Try.func74, Try.ntmps74
  go_wp2_with fail
  go_loop [8] (fun i => ∃ k : Nat, k ≤ len ∧ i = .int .i64 k ∧ Hid (∀ j, j < k → 128 ≤ xs[j]?.getD 0)) (fun i => len - (intOf i).toNat)
  case atStart => exact ⟨0, Nat.zero_le _, rfl, fun j hj => absurd hj (by omega)⟩
  case round =>
    obtain ⟨k, hk, rfl, hz⟩ := hrel
    by_cases hkl : k < len
    · obtain ⟨b, off, rfl, hcell⟩ := sl_cell HS.out (by omega)
      have hc1 := hcell k hkl
      clear hcell
      obtain ⟨x, ex⟩ : ∃ x, x = xs[k]?.getD 0 := ⟨_, rfl⟩
      rw [← ex] at hc1
      have EX := Lib.hid ex; clear ex
      by_cases hx : 128 ≤ x
      · go_wp2_with (go_at_call 75; refine (small_no _ hx _).mono ?_; rintro e w' ⟨rfl, rfl⟩)
        go_round
        case rel => exact ⟨k + 1, by omega, by go_num, fun j hj => by
          by_cases hjk : j = k
          · subst hjk; rw [← EX.out]; exact hx
          · exact hz.out j (by omega)⟩
        case measure => simp [intOf]; omega
      · have FIN : Hid ((k : Int) = idxF xs) := by
          have h1 := on_eq (l := xs) (k := k) (by have := HL.out; omega) hz.out (by rw [← EX.out]; omega)
          show _ = _
          unfold idxF
          rw [h1, if_neg (by have := HL.out; omega)]
        go_wp2_with (go_at_call 75; refine (small_yes _ (by omega) _).mono ?_; rintro e w' ⟨rfl, rfl⟩)
        go_ret
        exact ⟨ret_int FIN.out, rfl⟩
    · have FIN : Hid ((-1 : Int) = idxF xs) := by
        have hl := HL.out
        have h1 := on_all (l := xs) (fun i hi => hz.out i (by omega))
        show _ = _
        unfold idxF
        rw [if_pos h1]
      go_wp2
      go_ret
      exact ⟨ret_int FIN.out, rfl⟩

set_option maxRecDepth 100000 in
set_option maxHeartbeats 1000000 in
/-- whether bytes that end like a number are one. -/
theorem shortest_any {v : Value} {m : List Nat} {w : World} (hs : Sl w v m) (k : Nat) (hk : m.length = k + 1) (z : Nat) (hz : m[k]?.getD 0 = z) :
    Calls Try.prog 76 #[v] w fun e w' => e = .returned (.bool (short k z)) ∧ w = w' := by
  obtain ⟨ao, cap, rfl, hc, hm, hno⟩ := hs.open3
  rw [hk] at hs hc ⊢
  have hlm : k + 1 ≤ 140737488355328 := by have := hs.sm; omega
  obtain ⟨b, off, rfl, hcell⟩ := sl_cell hs (by omega)
  have hc1 := hcell k (by omega)
  have hzb := hs.lt k
  rw [hz] at hc1 hzb
  clear hcell hs hno hm hk hz hc
  by_cases h9 : k = 9
  · subst h9
    by_cases h1 : z = 1
    · subst h1
      go_enter Try.func76, Try.ntmps76
      go_wp2
      go_ret
      exact ⟨rfl, rfl⟩
    · have hb : ((z : Int) == 1) = false := beq_eq_false_iff_ne.2 (by omega)
      have FIN : Hid (false = short 9 z) := by show _ = _; simp [short, h1]
      clear h1
      go_enter Try.func76, Try.ntmps76
      go_wp2
      go_ret
      exact ⟨ret_bool FIN.out, rfl⟩
  · have hb9 : (((k + 1 : Nat) : Int) == 10) = false := beq_eq_false_iff_ne.2 (by omega)
    have hb9' : (((k : Int) + 1) == 10) = false := beq_eq_false_iff_ne.2 (by omega)
    by_cases h0 : k = 0
    · subst h0
      have FIN : Hid (true = short 0 z) := by show _ = _; simp [short]
      clear hb9 hb9' h9
      rw [Nat.add_zero] at hc1
      rw [Nat.zero_add]
      go_enter Try.func76, Try.ntmps76
      go_wp2
      go_ret
      exact ⟨ret_bool FIN.out, rfl⟩
    · have hb0 : (((k : Int) + 1) == 1) = false := beq_eq_false_iff_ne.2 (by omega)
      by_cases hk9 : k < 9
      · by_cases hz0 : z = 0
        · subst hz0
          have FIN : Hid (false = short k 0) := by show _ = _; simp [short, h0, h9]
          go_enter Try.func76, Try.ntmps76
          go_wp2
          go_ret
          exact ⟨ret_bool FIN.out, rfl⟩
        · have hzb : ((z : Int) == 0) = false := beq_eq_false_iff_ne.2 (by omega)
          have hzb' : ((z : Int) != 0) = true := by simp [bne, hzb]
          have FIN : Hid (true = short k z) := by show _ = _; simp [short, h0, h9, hk9, hz0]
          go_enter Try.func76, Try.ntmps76
          go_wp2
          go_ret
          exact ⟨ret_bool FIN.out, rfl⟩
      · have FIN : Hid (false = short k z) := by show _ = _; simp [short, h0, h9, hk9]
        go_enter Try.func76, Try.ntmps76
        go_wp2
        go_ret
        exact ⟨ret_bool FIN.out, rfl⟩
end By
end Go.Proofs.Ytlfoikjbbbhbdaa
