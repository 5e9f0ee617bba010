/- The reference's numbers: PutUint, PutInt, PutText, Uint. Conditions: the slices hold the bytes that are named, 64-bit integers. -/
import Derived.Test.YtmkijkaabcgcbaaGreatDoorMAw
import Derived.Lib.AppendStr
namespace Go.Proofs.YtmkijkaabcgcbaaGreatDoor
namespace By
open Go.RowKit WireN
set_option linter.unusedVariables false
set_option linter.unusedSimpArgs false

set_option maxRecDepth 100000 in
set_option maxHeartbeats 1000000 in
theorem rPutUint_any {v : Value} {xs : List Nat} {w : World} (hs : Sl w v xs) (hx : xs.length ≤ 35184372088832) (n : Nat) (hn : n < 18446744073709551616) :
    Calls Tryz.prog 48 #[v, .int .u64 n] w fun e w' => ∃ v', e = .returned v' ∧ Own w w' v' (xs ++ uv n) := by
  obtain ⟨ao, cap, rfl, -, -, -⟩ := hs.open3
  obtain ⟨X, hX⟩ : ∃ X, X = xs ++ uv n := ⟨_, rfl⟩
  have HXL : Hid (X.length ≤ 35184372088842) := by show _ ≤ _; rw [hX, List.length_append]; have := uv_ten hn; omega
  have HX := Lib.hid hX
  rw [← hX]
  have HS := Lib.hid hs
  have hx' : (xs.length : Int) ≤ 35184372088832 := by omega
  have hn' : (n : Int) ≤ 18446744073709551615 := by omega
  clear hX hs hx hn
  go_enter Tryz.func48, Tryz.ntmps48
  go_wp2_with (at_builtin; refine wpList_ap (w := w) rfl (.const (.slice none 0 0)) (.tmp 6) 42 rfl Tryz.underlying42 _ _ [] xs rfl rfl (Own.start w) HS.out (by simp; omega) ?_)
  intro v0 w0 hown0
  have HOWN0 := Lib.hid hown0; clear hown0
  go_wp2_with fail
  go_loopw [5, 1] (fun v i wy => ∃ (m : Nat) (zs : List Nat), i = .int .u64 m ∧ m ≤ n ∧ zs ++ uv m = X ∧ Own w wy v zs) (fun _ i _ => (intOf i).toNat)
  case atStart => exact ⟨n, xs, rfl, Nat.le_refl _, by rw [HX.out], by simpa using HOWN0.out⟩
  case round =>
    obtain ⟨m, zs, rfl, hm, hz, hown⟩ := hrel
    rename World => wx
    have HZ := Lib.hid hz; have HOWN := Lib.hid hown
    obtain ⟨ao1, c1, hfo, -, -⟩ := hown.form
    subst hfo
    clear hz hown
    have HL : Hid (zs.length ≤ 35184372088842) := by have h1 := congrArg List.length HZ.out; have h2 := HXL.out; rw [List.length_append] at h1; show _ ≤ _; omega
    by_cases h : 128 ≤ m
    · go_wp2_with (at_builtin; refine wpList_ap (w := w) rfl (.tmp 10) (.tmp 15) 42 rfl Tryz.underlying42 _ _ zs [m % 128 + 128] rfl rfl (HOWN.out.keep (kp_alloc _ _)) (sl_one (by omega) (by omega)) (by have := HL.out; simp; omega) ?_)
      intro v' w1 hown1
      have HOWN1 := Lib.hid hown1; clear hown1
      go_wp2_with fail
      go_roundw
      case rel => exact ⟨m / 128, zs ++ [m % 128 + 128], by go_num, by omega, uv_step HZ.out h, HOWN1.out⟩
      case measure => simp [intOf]; omega
    · have FZ : Hid (zs ++ [m] = X) := by have := HZ.out; rw [uv_lt (by omega)] at this; exact this
      go_wp2_with (at_builtin; refine wpList_ap (w := w) rfl (.tmp 19) (.tmp 22) 42 rfl Tryz.underlying42 _ _ zs [m] rfl rfl (HOWN.out.keep (kp_alloc _ _)) (sl_one (by omega) (by omega)) (by have := HL.out; simp; omega) ?_)
      intro v' w1 hown1
      rw [FZ.out] at hown1
      have HOWN1 := Lib.hid hown1; clear hown1
      go_wp2_with fail
      go_ret
      exact ⟨_, rfl, HOWN1.out⟩

theorem strCells_U (s : ByteArray) : Lib.strCells s = U (bs s) := by simp [Lib.strCells, U, bs, List.map_map, Function.comp_def]
set_option maxRecDepth 100000 in
set_option maxHeartbeats 1000000 in
theorem rPutText_any {v : Value} {xs : List Nat} {w : World} (hs : Sl w v xs) (hx : xs.length ≤ 17592186044416) (s : ByteArray) (hz : s.size ≤ 17592186044416) :
    Calls Tryz.prog 47 #[v, .string s] w fun e w' => ∃ v', e = .returned v' ∧ Own w w' v' (xs ++ (uv s.size ++ bs s)) := by
  have HS := Lib.hid hs; clear hs
  obtain ⟨l, el⟩ : ∃ l, l = s.size := ⟨_, rfl⟩
  have qs : ∀ w, (Builtin.len_ #[9] 3 #[.string s]).run Tryz.prog w = .ok (goInt l) w := fun w => by rw [run_len_string w _ _ s Tryz.underlying9, el]
  rw [← el]
  have hl : (l : Int) ≤ 17592186044416 := by omega
  have HT := Lib.hid (uv_ten (n := l) (by omega))
  have EL := Lib.hid el
  have HX := Lib.hid hx
  obtain ⟨i0, hi, hz0, hz1, hz2⟩ := info_parts info32
  clear el hx hz
  go_enter Tryz.func47, Tryz.ntmps47
  go_wp2_with fail
  refine (rPutUint_any HS.out (by have := HX.out; omega) l (by omega)).mono ?_
  rintro e w1 ⟨v1, rfl, hown⟩
  obtain ⟨ao1, c1, hfo, -, -⟩ := hown.form
  subst hfo
  have ho1 := hown.owns
  obtain ⟨L1, hL1⟩ : ∃ L1, L1 = (xs ++ uv l).length := ⟨_, rfl⟩
  rw [← hL1] at ho1 ⊢
  have HL1 : Hid (L1 ≤ 17592186044426) := by show _ ≤ _; rw [hL1, List.length_append]; have := HT.out; have := HX.out; omega
  have HOWN := Lib.hid hown; have HO1 := Lib.hid ho1; have HLE := Lib.hid hL1
  clear hown ho1 hL1
  go_wp2_with (at_builtin; refine Lib.wpList_append_own_string _ rfl _ _ 42 9 rfl w.heap.size 5 i0 Tryz.underlying42 Tryz.underlying9 hi hz0 hz1 hz2 _ _ _ rfl HO1.out s rfl (by have := HL1.out; have := EL.out; unfold maxLen; omega) (by have := HL1.out; have := EL.out; omega) HOWN.out.kp.size ?_)
  intro v' w2 hown2 hgr2 _
  have FIN : Hid (Own w w2 v' (xs ++ (uv l ++ bs s))) := by
    refine ⟨?_, ?_, Below.grown HOWN.out.kp hgr2 HOWN.out.kp.size (fun k hk => (HO1.out.lt k hk).1)⟩
    · rw [strCells_U, ← U_append] at hown2
      rw [← List.append_assoc]
      have e : (xs ++ uv l ++ bs s).length = L1 + s.size := by rw [List.length_append, bs_len, HLE.out]
      rw [e]
      exact hown2
    · rw [← List.append_assoc]; exact HOWN.out.lt.append (bs_lt s)
  clear hown2 hgr2
  go_wp2_with fail
  go_ret
  exact ⟨_, rfl, FIN.out⟩
end By
end Go.Proofs.YtmkijkaabcgcbaaGreatDoor
