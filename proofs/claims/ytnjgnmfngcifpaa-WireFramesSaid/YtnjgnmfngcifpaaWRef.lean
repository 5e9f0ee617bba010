/- The reference's numbers: PutUint, PutInt, PutText, Uint. Conditions: the slices hold the bytes that are named, 64-bit integers. -/
import Derived.Test.YtnjgnmfngcifpaaWAwake
import Derived.Lib.AppendStr
namespace Go.Proofs.Ytnjgnmfngcifpaa
namespace By
open Go.RowKit WireN
set_option linter.unusedVariables false
set_option linter.unusedSimpArgs false

set_option maxRecDepth 100000 in
set_option maxHeartbeats 1000000 in
theorem rPutUint_any {v : Value} {xs : List Nat} {w : World} (hs : Sl w v xs) (hx : xs.length ≤ 35184372088832) (n : Nat) (hn : n < 18446744073709551616) :
    Calls Try.prog 21 #[v, .int .u64 n] w fun e w' => ∃ v', e = .returned v' ∧ Own w w' v' (xs ++ uv n) := by
  obtain ⟨ao, cap, rfl, -, -, -⟩ := hs.open3
  obtain ⟨X, hX⟩ : ∃ X, X = xs ++ uv n := ⟨_, rfl⟩
  have HXL : Hid (X.length ≤ 35184372088842) := by show _ ≤ _; rw [hX, List.length_append]; have := uv_ten hn; omega
  have HX := Lib.hid hX
  rw [← hX]
  have HS := Lib.hid hs
  have hx' : (xs.length : Int) ≤ 35184372088832 := by omega
  have hn' : (n : Int) ≤ 18446744073709551615 := by omega
  clear hX hs hx hn
  go_enter Try.func21, Try.ntmps21
  go_wp2_with (at_builtin; refine wpList_ap (w := w) rfl (.const (.slice none 0 0)) (.tmp 6) 22 rfl Try.underlying22 _ _ [] xs rfl rfl (Own.start w) HS.out (by simp; omega) ?_)
  intro v0 w0 hown0
  have HOWN0 := Lib.hid hown0; clear hown0
  go_wp2_with fail
  go_loopw [5, 1] (fun v i wy => ∃ (m : Nat) (zs : List Nat), i = .int .u64 m ∧ m ≤ n ∧ zs ++ uv m = X ∧ Own w wy v zs) (fun _ i _ => (intOf i).toNat)
  case atStart => exact ⟨n, xs, rfl, Nat.le_refl _, by rw [HX.out], by simpa using HOWN0.out⟩
  case round =>
    obtain ⟨m, zs, rfl, hm, hz, hown⟩ := hrel
    rename World => wx
    have HZ := Lib.hid hz; have HOWN := Lib.hid hown
    obtain ⟨ao1, c1, hfo, -, -⟩ := hown.form
    subst hfo
    clear hz hown
    have HL : Hid (zs.length ≤ 35184372088842) := by have h1 := congrArg List.length HZ.out; have h2 := HXL.out; rw [List.length_append] at h1; show _ ≤ _; omega
    by_cases h : 128 ≤ m
    · go_wp2_with (at_builtin; refine wpList_ap (w := w) rfl (.tmp 10) (.tmp 15) 22 rfl Try.underlying22 _ _ zs [m % 128 + 128] rfl rfl (HOWN.out.keep (kp_alloc _ _)) (sl_one (by omega) (by omega)) (by have := HL.out; simp; omega) ?_)
      intro v' w1 hown1
      have HOWN1 := Lib.hid hown1; clear hown1
      go_wp2_with fail
      go_roundw
      case rel => exact ⟨m / 128, zs ++ [m % 128 + 128], by go_num, by omega, uv_step HZ.out h, HOWN1.out⟩
      case measure => simp [intOf]; omega
    · have FZ : Hid (zs ++ [m] = X) := by have := HZ.out; rw [uv_lt (by omega)] at this; exact this
      go_wp2_with (at_builtin; refine wpList_ap (w := w) rfl (.tmp 19) (.tmp 22) 22 rfl Try.underlying22 _ _ zs [m] rfl rfl (HOWN.out.keep (kp_alloc _ _)) (sl_one (by omega) (by omega)) (by have := HL.out; simp; omega) ?_)
      intro v' w1 hown1
      rw [FZ.out] at hown1
      have HOWN1 := Lib.hid hown1; clear hown1
      go_wp2_with fail
      go_ret
      exact ⟨_, rfl, HOWN1.out⟩

theorem strCells_U (s : ByteArray) : Lib.strCells s = U (bs s) := by simp [Lib.strCells, U, bs, List.map_map, Function.comp_def]
end By
end Go.Proofs.Ytnjgnmfngcifpaa
