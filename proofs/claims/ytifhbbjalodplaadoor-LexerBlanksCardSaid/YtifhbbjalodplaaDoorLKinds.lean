/- The program's kindsOfBytes: the kinds of all bytes. No condition. -/
import Derived.Test.YtifhbbjalodplaaDoorLMap
import Derived.Lib.SlBytesConst
namespace Go.Proofs.YtifhbbjalodplaaDoor
namespace By
open Go.RowKit WireN LexN
set_option linter.unusedVariables false
set_option linter.unusedSimpArgs false

def KindsR (w : World) (e : Ending) (w' : World) : Prop := ∃ b, e = .returned (.map (some b)) ∧ KM w' b 1000 kd ∧ Kp w w'
set_option maxRecDepth 100000 in
set_option maxHeartbeats 2000000 in
theorem kinds_any (w : World) : Calls Tryd.prog 30 #[] w (KindsR w) := by
  have hmm := @run_makeMap Tryd.prog
  have H0 := Lib.hid (KM.made w)
  have HP0 := Lib.hid (kp_alloc w (.map #[] 0))
  go_enter Tryd.func30, Tryd.ntmps30
  go_wp2_with (refine wpList_ins rfl (.tmp 6) (.const (.int .u8 9)) (.const (.int .i64 1)) rfl rfl H0.out (by omega) 9 (by omega) 1 (by omega) rfl rfl ?_)
  intro w1 km1 g1
  have H1 := Lib.hid km1; have HP1 := Lib.hid (grown_kp HP0.out g1 (Nat.le_refl _))
  clear km1 g1
  go_wp2_with (refine wpList_ins rfl (.tmp 6) (.const (.int .u8 10)) (.const (.int .i64 1)) rfl rfl H1.out (by omega) 10 (by omega) 1 (by omega) rfl rfl ?_)
  intro w2 km2 g2
  have H2 := Lib.hid km2; have HP2 := Lib.hid (grown_kp HP1.out g2 (Nat.le_refl _))
  clear km2 g2
  go_wp2_with (refine wpList_ins rfl (.tmp 6) (.const (.int .u8 13)) (.const (.int .i64 1)) rfl rfl H2.out (by omega) 13 (by omega) 1 (by omega) rfl rfl ?_)
  intro w3 km3 g3
  have H3 := Lib.hid km3; have HP3 := Lib.hid (grown_kp HP2.out g3 (Nat.le_refl _))
  clear km3 g3
  go_wp2_with (refine wpList_ins rfl (.tmp 6) (.const (.int .u8 32)) (.const (.int .i64 1)) rfl rfl H3.out (by omega) 32 (by omega) 1 (by omega) rfl rfl ?_)
  intro w4 km4 g4
  have H4 := Lib.hid km4; have HP4 := Lib.hid (grown_kp HP3.out g4 (Nat.le_refl _))
  clear km4 g4
  go_wp2_with (refine wpList_ins rfl (.tmp 6) (.const (.int .u8 35)) (.const (.int .i64 2)) rfl rfl H4.out (by omega) 35 (by omega) 2 (by omega) rfl rfl ?_)
  intro w5 km5 g5
  have H5 := Lib.hid km5; have HP5 := Lib.hid (grown_kp HP4.out g5 (Nat.le_refl _))
  clear km5 g5
  go_wp2_with (refine wpList_ins rfl (.tmp 6) (.const (.int .u8 34)) (.const (.int .i64 5)) rfl rfl H5.out (by omega) 34 (by omega) 5 (by omega) rfl rfl ?_)
  intro w6 km6 g6
  have H6 := Lib.hid km6; have HP6 := Lib.hid (grown_kp HP5.out g6 (Nat.le_refl _))
  clear km6 g6
  have HK : Hid (KM w6 w.heap.size 97 (k1 97)) := Lib.hid (by rw [k1_start]; exact H6.out.mono (by omega))
  go_wp2_with fail
  go_loopw [2] (fun q wr => ∃ k : Nat, q = .int .u8 k ∧ 97 ≤ k ∧ k ≤ 123 ∧ KM wr w.heap.size k (k1 k) ∧ Kp w wr) (fun q _ => 123 - (intOf q).toNat)
  case atStart => exact ⟨97, rfl, by omega, by omega, HK.out, HP6.out⟩
  case round =>
    obtain ⟨k, rfl, hk1, hk2, hkm, hkp⟩ := hrel
    rename World => wx
    have HKM := Lib.hid hkm; have HKP := Lib.hid hkp
    clear hkm hkp
    by_cases hk : k ≤ 122
    · have hki : (k : Int) ≤ 122 := by omega
      go_wp2_with (at_mapUpdate; refine wpList_upd rfl (.tmp 12) (.tmp 13) (.const (.int .i64 3)) rfl rfl HKM.out (by omega) k (by omega) 3 (by omega) rfl rfl ?_)
      intro w7 km7 g7
      have H7 : Hid (KM w7 w.heap.size (k + 1) (k1 (k + 1))) := Lib.hid (by rw [← k1_step hk1]; exact km7)
      have HP7 := Lib.hid (grown_kp HKP.out g7 (Nat.le_refl _))
      clear km7 g7
      go_wp2_with fail
      go_roundw
      case rel => exact ⟨k + 1, by go_num, by omega, by omega, H7.out, HP7.out⟩
      case measure => simp [intOf]; omega
    · have hki : (122 : Int) < (k : Int) := by omega
      have HK2 : Hid (KM wx w.heap.size (75 + 48) (k2 48)) := Lib.hid (by
        have h := HKM.out
        rw [show k = 123 by omega] at h
        rw [k2_start]; exact h)
      clear hk
      go_wp2_with fail
      go_loopw [3] (fun q wr => ∃ k : Nat, q = .int .u8 k ∧ 48 ≤ k ∧ k ≤ 58 ∧ KM wr w.heap.size (75 + k) (k2 k) ∧ Kp w wr) (fun q _ => 58 - (intOf q).toNat)
      case atStart => exact ⟨48, rfl, by omega, by omega, HK2.out, HKP.out⟩
      case round =>
        obtain ⟨k, rfl, hk1, hk2, hkm, hkp⟩ := hrel
        rename World => wy
        have HKM2 := Lib.hid hkm; have HKP2 := Lib.hid hkp
        clear hkm hkp
        by_cases hk : k ≤ 57
        · have hki : (k : Int) ≤ 57 := by omega
          go_wp2_with (at_mapUpdate; refine wpList_upd rfl (.tmp 18) (.tmp 19) (.const (.int .i64 4)) rfl rfl HKM2.out (by omega) k (by omega) 4 (by omega) rfl rfl ?_)
          intro w7 km7 g7
          have H7 : Hid (KM w7 w.heap.size (75 + (k + 1)) (k2 (k + 1))) := Lib.hid (by rw [← k2_step hk1]; exact km7)
          have HP7 := Lib.hid (grown_kp HKP2.out g7 (Nat.le_refl _))
          clear km7 g7
          go_wp2_with fail
          go_roundw
          case rel => exact ⟨k + 1, by go_num, by omega, by omega, H7.out, HP7.out⟩
          case measure => simp [intOf]; omega
        · have hki : (57 : Int) < (k : Int) := by omega
          have HK58 : Hid (KM wy w.heap.size 133 (k2 58)) := Lib.hid (by
            have h := HKM2.out
            rw [show k = 58 by omega] at h
            exact h)
          clear hk
          have hkb := kp_alloc wy (.cells #[.int .u8 59, .int .u8 44, .int .u8 40, .int .u8 41, .int .u8 43, .int .u8 45, .int .u8 42, .int .u8 47, .int .u8 37, .int .u8 60, .int .u8 61] 5 (11, 12))
          have HK3 := Lib.hid ((show KM wy w.heap.size (133 + 0) (k3 0) from by rw [k3_start]; exact HK58.out).keep hkb)
          have HP3 := Lib.hid (Kp.trans HKP2.out hkb)
          have HB3 : Hid ((wy.alloc (.cells #[.int .u8 59, .int .u8 44, .int .u8 40, .int .u8 41, .int .u8 43, .int .u8 45, .int .u8 42, .int .u8 47, .int .u8 37, .int .u8 60, .int .u8 61] 5 (11, 12))).heap[wy.heap.size]? = some (.cells #[.int .u8 59, .int .u8 44, .int .u8 40, .int .u8 41, .int .u8 43, .int .u8 45, .int .u8 42, .int .u8 47, .int .u8 37, .int .u8 60, .int .u8 61] 5 (11, 12))) := Lib.hid (heap_alloc_new wy _)
          have hcv : (convert 43 43 (.slice (some ⟨wy.heap.size, 0, none⟩) 11 11)).run Tryd.prog (wy.alloc (.cells #[.int .u8 59, .int .u8 44, .int .u8 40, .int .u8 41, .int .u8 43, .int .u8 45, .int .u8 42, .int .u8 47, .int .u8 37, .int .u8 60, .int .u8 61] 5)) = .ok (.slice (some ⟨wy.heap.size, 0, none⟩) 11 11) (wy.alloc (.cells #[.int .u8 59, .int .u8 44, .int .u8 40, .int .u8 41, .int .u8 43, .int .u8 45, .int .u8 42, .int .u8 47, .int .u8 37, .int .u8 60, .int .u8 61] 5 (11, 12))) := Lib.run_convert_bytes_const wy _ _ _ 11 11 Tryd.underlying43 Tryd.underlying5
          have HLT : Hid (w.heap.size < wy.heap.size) := Lib.hid (by obtain ⟨D, h1, -, -⟩ := HKM2.out.ex; exact h1.lt)
          clear hkb
          go_wp2_with fail
          clear hcv
          go_loopw [23] (fun q wr => ∃ k : Nat, q = .int .i64 k ∧ k ≤ 11 ∧ KM wr w.heap.size (133 + k) (k3 k) ∧ Kp w wr ∧ wr.heap[wy.heap.size]? = some (.cells #[.int .u8 59, .int .u8 44, .int .u8 40, .int .u8 41, .int .u8 43, .int .u8 45, .int .u8 42, .int .u8 47, .int .u8 37, .int .u8 60, .int .u8 61] 5 (11, 12))) (fun q _ => 11 - (intOf q).toNat)
          case atStart => exact ⟨0, rfl, by omega, HK3.out, HP3.out, HB3.out⟩
          case round =>
            obtain ⟨k, rfl, hk2, hkm, hkp, hblk⟩ := hrel
            rename World => wz
            have HKM3 := Lib.hid hkm; have HKP3 := Lib.hid hkp; have HBL : Hid (wz.heap[wy.heap.size]? = _) := Lib.hid hblk
            clear hkm hkp hblk
            by_cases hk : k < 11
            · have hc : wz.cell? ⟨wy.heap.size, k, none⟩ = some (.int .u8 (at' signs k : Nat)) := (cell_of_row wz wy.heap.size k _ _ (11, 12) HBL.out).trans (by
                have key : ∀ k : Fin 11, (#[.int .u8 59, .int .u8 44, .int .u8 40, .int .u8 41, .int .u8 43, .int .u8 45, .int .u8 42, .int .u8 47, .int .u8 37, .int .u8 60, .int .u8 61] : Array Value)[k.val]? = some (.int .u8 (at' signs k.val : Nat)) := by
                  intro k
                  match k with
                  | 0 => rfl
                  | 1 => rfl
                  | 2 => rfl
                  | 3 => rfl
                  | 4 => rfl
                  | 5 => rfl
                  | 6 => rfl
                  | 7 => rfl
                  | 8 => rfl
                  | 9 => rfl
                  | 10 => rfl
                exact key ⟨k, hk⟩)
              have hb : at' signs k < 256 := by
                have key : ∀ k : Fin 11, at' signs k.val < 256 := by decide +kernel
                exact key ⟨k, hk⟩
              have HST := Lib.hid (k3_step hk)
              obtain ⟨c, hcc⟩ : ∃ c, c = at' signs k := ⟨_, rfl⟩
              rw [← hcc] at hc hb HST
              clear hcc
              go_wp2_with (at_mapUpdate; refine wpList_upd rfl (.tmp 27) (.tmp 28) (.const (.int .i64 6)) rfl rfl HKM3.out (by omega) c hb 6 (by omega) rfl rfl ?_)
              intro w7 km7 g7
              have H7 : Hid (KM w7 w.heap.size (133 + (k + 1)) (k3 (k + 1))) := Lib.hid (by rw [← HST.out]; exact km7)
              have HP7 := Lib.hid (grown_kp HKP3.out g7 (Nat.le_refl _))
              have HB7 : Hid (w7.heap[wy.heap.size]? = some (.cells #[.int .u8 59, .int .u8 44, .int .u8 40, .int .u8 41, .int .u8 43, .int .u8 45, .int .u8 42, .int .u8 47, .int .u8 37, .int .u8 60, .int .u8 61] 5 (11, 12))) := Lib.hid ((g7.block _ (lt_of_block HBL.out) (fun e => by injection e with e; have := HLT.out; omega)).trans HBL.out)
              clear km7 g7
              go_wp2_with fail
              go_roundw
              case rel => exact ⟨k + 1, by go_num, by omega, H7.out, HP7.out, HB7.out⟩
              case measure => simp [intOf]; omega
            · have HF : Hid (KindsR w (.returned (.map (some w.heap.size))) wz) := Lib.hid (by
                have h := HKM3.out
                rw [show k = 11 by omega] at h
                exact ⟨w.heap.size, rfl, (h.mono (by omega)).of k3_all, HKP3.out⟩)
              go_wp2_with fail
              go_ret
              exact HF.out
end By
end Go.Proofs.YtifhbbjalodplaaDoor
