/- The law on long files: it returns true for all numbers, and leaves what was there. Condition: a package variable of the library holds some integer. -/
import Derived.Test.YtifhbbjalodplaaDoorLAwake
namespace Go.Proofs.YtifhbbjalodplaaDoor
namespace By
open Go.RowKit WireN LexN
set_option linter.unusedVariables false
set_option linter.unusedSimpArgs false

theorem lex_blanks (k : Nat) : ∀ n i : Nat, k - i ≤ n → i ≤ k → lex (List.replicate k 32) i = ([(5, [], 0, k)], 0, 0) := by
  intro n
  induction n with
  | zero =>
    intro i h1 h2
    have e := lex_end (l := List.replicate k 32) (i := i) (by simp; omega)
    rwa [List.length_replicate] at e
  | succ n ih =>
    intro i h1 h2
    by_cases hi : i < k
    · rw [lex_blank (by simpa using hi) (by simp [at', hi]; decide)]
      exact ih (i + 1) (by omega) (by omega)
    · have e := lex_end (l := List.replicate k 32) (i := i) (by simp; omega)
      rwa [List.length_replicate] at e
theorem toks_blanks {k : Nat} (h : k ≤ 16384) : toks (List.replicate k 32) = ([(5, [], 0, k)], 0, 0) := by
  unfold toks
  rw [if_neg (by simp; omega)]
  exact lex_blanks k k 0 (by omega) (by omega)
theorem toks_long {l : List Nat} (h : 16384 < l.length) : toks l = ([], 0, 2) := by unfold toks; rw [if_pos h]
theorem rep_set (j k : Nat) (h : j < k) : (List.replicate j 32 ++ List.replicate (k - j) 0).set j 32 = List.replicate (j + 1) 32 ++ List.replicate (k - (j + 1)) 0 := by
  rw [List.set_append_right _ _ (by simp), List.length_replicate, Nat.sub_self, show k - j = (k - (j + 1)) + 1 by omega, List.replicate_succ, List.set_cons_zero]
  rw [show List.replicate (j + 1) 32 = List.replicate j 32 ++ [32] by rw [← List.replicate_append_replicate]; rfl]
  simp
theorem sl_of_row {w : World} {g n : Nat} {zs : List Nat} (h : Row w g 5 zs) (hn : zs.length = n) (hl : Lt zs) (hs : n ≤ 1000000) : Sl w (.slice (some ⟨g, 0, none⟩) n n) zs := by
  refine sl_of_at (.inr ⟨g, 0, rfl, fun i hi => ?_⟩) hl hn (Nat.le_refl _) (by omega) (fun h => nomatch h)
  rw [Nat.zero_add]; exact h.cell i hi
set_option maxRecDepth 100000 in
set_option maxHeartbeats 2000000 in
theorem long_any {w : World} (hm : MX w) (n : Nat) (hn : n < 256) : Calls Tryd.prog 8 #[.int .u8 (n : Nat)] w fun e w' => e = .returned (.bool true) ∧ Kp w w' := by
  have HM := Lib.hid hm
  obtain ⟨k, hk⟩ : ∃ k : Nat, k = 16382 + n % 5 := ⟨_, rfl⟩
  have hk1 : 16382 ≤ k ∧ k ≤ 16386 := by omega
  have ek : (16382 : Int) + (n : Int) % 5 = (k : Int) := by omega
  have hki : (k : Int) ≤ 16386 := by omega
  have hki0 : (16382 : Int) ≤ (k : Int) := by omega
  have HKB := Lib.hid hk1
  clear hm hk hk1
  go_enter Tryd.func8, Tryd.ntmps8
  go_wp2_with (at_make; refine wpList_mk rfl (.tmp 13) (.tmp 13) 43 rfl Tryd.underlying43 _ k rfl rfl rfl (by have := HKB.out; omega) ?_)
  intro w1 hrow1 hk1
  have HR1 := Lib.hid hrow1; have HK1 := Lib.hid hk1
  clear hrow1 hk1 ek
  go_wp2_with fail
  go_loopw [17] (fun q wr => ∃ j : Nat, q = .int .i64 j ∧ j ≤ k ∧ Row wr w.heap.size 5 (List.replicate j 32 ++ List.replicate (k - j) 0) ∧ Kp w wr) (fun q _ => k - (intOf q).toNat)
  case atStart => exact ⟨0, rfl, Nat.zero_le _, by simpa using HR1.out, HK1.out⟩
  case round =>
    obtain ⟨j, rfl, hj, hrow, hkp⟩ := hrel
    rename World => wx
    have HR := Lib.hid hrow; have HKP := Lib.hid hkp
    clear hkp
    by_cases hjk : j < k
    · have hc := hrow.cell j (by simp; omega)
      have hf := hrow.free j
      have he : (List.replicate j 32 ++ List.replicate (k - j) 0)[j]?.getD 0 = 0 := by
        rw [List.getElem?_append_right (by simp)]
        simp [show 0 < k - j by omega]
      rw [he] at hc
      have HR2 : Hid (Row (wx.setCell ⟨w.heap.size, j, none⟩ (.int .u8 32)) w.heap.size 5 (List.replicate (j + 1) 32 ++ List.replicate (k - (j + 1)) 0)) := Lib.hid (by
        have h := hrow.set j 32
        rw [rep_set j k hjk] at h
        exact h)
      have HK2 : Hid (Kp w (wx.setCell ⟨w.heap.size, j, none⟩ (.int .u8 32))) := Lib.hid (Only.kp HKP.out (Only.set (Only.refl _ wx) j _) (Nat.le_refl _))
      clear hrow he
      go_wp2_with fail
      go_roundw
      case rel => exact ⟨j + 1, by go_num, by omega, HR2.out, HK2.out⟩
      case measure => simp [intOf]; omega
    · have hrow2 : Row wx w.heap.size 5 (List.replicate k 32) := by
        rw [show j = k by omega] at hrow
        simpa using hrow
      have hlt : Lt (List.replicate k 32) := lt_of_mem fun x hx => by
        obtain ⟨-, rfl⟩ := List.mem_replicate.1 hx
        omega
      have hcv := conv_str (sl_of_row (n := k) hrow2 (by simp) hlt (by have := HKB.out; omega))
      have HT := Lib.hid (Tokens_any hlt wx)
      obtain ⟨S, hS⟩ : ∃ S, S = st (List.replicate k 32) := ⟨_, rfl⟩
      rw [← hS] at hcv HT
      clear hS hrow hrow2 hlt HR
      by_cases hbig : k ≤ 16384
      · rw [toks_blanks hbig] at HT
        have hkb : (k : Int) ≤ 16384 := by omega
        clear hbig
        go_wp2_with fail
        refine HT.out.mono ?_
        rintro e w2 ⟨v, w0, rfl, hrow, hk0⟩
        obtain ⟨g, cap, hv, hcap, -, -, hcell⟩ := hrow.cell (by simp)
        simp only at hv
        subst hv
        have hcl : (1 : Int) ≤ (cap : Int) := by
          have : (1 : Nat) ≤ cap := hcap
          omega
        have c3 : w2.cell? ⟨g, 3, none⟩ = some (.int .i64 (k : Nat)) := hcell 0 (5, [], 0, k) rfl 3 _ rfl
        have HK3 := Lib.hid (Kp.trans HKP.out (Kp.trans hk0 hrow.kp))
        clear hrow hcell hk0 hcap
        go_wp2_with fail
        refine (awake_any (HM.out.keep HK3.out)).mono ?_
        rintro e w3 ⟨rfl, hk4⟩
        have HK4 := Lib.hid (Kp.trans HK3.out hk4)
        clear hk4
        go_wp2_with fail
        go_ret
        exact ⟨rfl, HK4.out⟩
      · rw [toks_long (by simp; omega)] at HT
        have hkb : (16384 : Int) < (k : Int) := by omega
        clear hbig
        go_wp2_with fail
        refine HT.out.mono ?_
        rintro e w2 ⟨v, w0, rfl, hrow, hk0⟩
        obtain ⟨ao, cap, rfl, -⟩ := hrow.form
        have HK3 := Lib.hid (Kp.trans HKP.out (Kp.trans hk0 hrow.kp))
        clear hrow hk0
        simp only [List.length_nil]
        go_wp2_with fail
        refine (awake_any (HM.out.keep HK3.out)).mono ?_
        rintro e w3 ⟨rfl, hk4⟩
        have HK4 := Lib.hid (Kp.trans HK3.out hk4)
        clear hk4
        go_wp2_with fail
        go_ret
        exact ⟨rfl, HK4.out⟩
end By
end Go.Proofs.YtifhbbjalodplaaDoor
