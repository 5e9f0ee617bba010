/- The contract of strconv.FormatUint at base 10. Condition: the library's table of powers of ten holds what its text lays. -/
import Derived.Test.YtdoponlhiidimaaGreatDoorBase
import Derived.Test.YtdoponlhiidimaaGreatDoorShelf
import Derived.Lib.ItoaMem
import Derived.Sort.Grow
namespace Go.Proofs.YtdoponlhiidimaaGreatDoor
open Go.RowKit LimbN Go.Sort Go.Lib

theorem holds24 (w : World) (nd : Nat) (hs : nd ≤ 24) : Holds (fun (b : UInt8) => Value.int .u8 (b.toNat : Int)) (w.alloc (.cells Lib.zeros24 135)) w.heap.size 0 (Array.replicate nd (0 : UInt8)) := fun j hj => by
  have hj' : j < nd := by simpa using hj
  refine ⟨?_, World.frozen?_alloc_new _ _ _ _⟩
  rw [World.cell?_alloc_new, Lib.zeros24_at _ (by omega), getElem!_pos _ j hj]
  simp
theorem slice24 (g n : Nat) (h : n ≤ 24) (W : World) : (Instr.sliceAt 135 (.pointer (some ⟨g, 0, none⟩)) none (some (.int .i64 (n : Int))) none).run Tryz.prog W = .ok (.slice (some ⟨g, 0, none⟩) n 24) W := by
  have e1 : Tryz.prog.arrayLen 135 = 24 := by kernel_rfl
  have e2 : Tryz.prog.elem 135 = 5 := by kernel_rfl
  have e3 : (sizeOf 5).run Tryz.prog W = .ok 1 W := by kernel_rfl
  rw [run_sliceAt_array_h W 135 ⟨g, 0, none⟩ (by rw [e1, e2]; exact Tryz.underlying135) .i64 _ (by omega) (by rw [e1]; omega), e1, e2, e3, Int.toNat_natCast]
  simp [slicedAt, Result.andThen, Addr.add_lit]
/-- The powers of ten lie where the library's text lays them. -/
abbrev Tab (w : World) : Prop := Lib.TabIs Tryz.prog w "internal/strconv.uint64pow10" .u64 Lib.pow10Tab
theorem Tab.keep {w w' : World} (h : Tab w) (hk : Kp w w') : Tab w' := by
  unfold Tab Lib.TabIs World.var? at *
  cases hg : Tryz.prog.globalNamed "internal/strconv.uint64pow10" with
  | none => simp [hg] at h
  | some g =>
    simp only [hg, Option.bind_some] at h ⊢
    have hlt : g < w.heap.size := by
      rcases Nat.lt_or_ge g w.heap.size with h' | h'
      · exact h'
      · rw [Array.getElem?_eq_none h'] at h; simp at h
    rw [hk.block g hlt]
    exact h
theorem nd20 {u : Nat} (h1 : 1 ≤ u) (h : u < 18446744073709551616) : Lib.nDigits u ≤ 20 := by have := Lib.numDigits_eq u h1 h; split at this <;> omega

set_option maxHeartbeats 1000000 in
set_option maxRecDepth 100000 in
theorem fmtU_small (u : Nat) (hu : u < 100) (w : World) :
    Calls Tryz.prog 94 #[.int .u64 u, .int .i64 10] w fun e w' => e = .returned (.string ⟨(Lib.decDigits u).toArray⟩) ∧ w = w' := by
  go_enter Tryz.func94, Tryz.ntmps94
  go_wp2_with fail
  refine (Tryz.internal_strconv_small u hu _).mono ?_
  rintro e w' ⟨rfl, rfl⟩
  go_wp2
  go_ret
  exact ⟨rfl, rfl⟩
set_option maxHeartbeats 2000000 in
set_option maxRecDepth 100000 in
theorem fmtU_big (u : Nat) (hu : 100 ≤ u) (hu64 : u < 18446744073709551616) (w : World) (htab : Tab w) :
    Calls Tryz.prog 94 #[.int .u64 u, .int .i64 10] w fun e w' => e = .returned (.string ⟨(Lib.decDigits u).toArray⟩) ∧ Kp w w' := by
  have hnd := nd20 (by omega) hu64
  have hsl := fun W => slice24 w.heap.size (Lib.nDigits u) (by omega) W
  have hH0 := holds24 w (Lib.nDigits u) (by omega)
  have hfmt := Tryz.internal_strconv_formatBase10 w.heap.size 0 24 u (Array.replicate (Lib.nDigits u) 0) (w.alloc (.cells Lib.zeros24 135)) hH0 (by rw [Array.size_replicate]; exact Lib.lt_pow_nDigits u) hu64 (by rw [Array.size_replicate]; omega)
  rw [Array.size_replicate] at hfmt
  have HH0 := Lib.hid hH0; have HFMT := Lib.hid hfmt; have HTAB := Lib.hid htab
  clear hH0 hfmt htab
  go_enter Tryz.func94, Tryz.ntmps94
  go_wp2_with fail
  refine (Tryz.internal_strconv_numDigits u (by omega) hu64 _ (Tab.keep HTAB.out (Kp.alloc (Kp.refl _) _))).mono ?_
  rintro e w' ⟨rfl, rfl⟩
  go_wp2_with fail
  refine HFMT.out.mono ?_
  rintro e w' ⟨rfl, k, v', dk, rfl, hF⟩
  have HF := Lib.hid hF; clear hF
  have hcv : (convert 111 9 (.slice (some ⟨w.heap.size, 0, none⟩) (Lib.nDigits u) 24)).run Tryz.prog ((putRow (fun (b : UInt8) => Value.int .u8 (b.toNat : Int)) (w.alloc (.cells Lib.zeros24 135)) w.heap.size 0 dk).drewN k) = .ok (.string ⟨(Lib.decDigits u).toArray⟩) ((putRow (fun (b : UInt8) => Value.int .u8 (b.toNat : Int)) (w.alloc (.cells Lib.zeros24 135)) w.heap.size 0 dk).drewN k) := by
    have h := run_convert_bytes_back (P := Tryz.prog) ((putRow (fun (b : UInt8) => Value.int .u8 (b.toNat : Int)) (w.alloc (.cells Lib.zeros24 135)) w.heap.size 0 dk).drewN k) 111 9 5 ⟨w.heap.size, 0, none⟩ 24 (Lib.decDigits u) Tryz.underlying111 Tryz.underlying5 Tryz.underlying9 (fun j hj => by
      rw [Lib.add_plain, Lib.row_is_numeral HF.out j hj, World.cell?_drewN]
      exact cell?_putRow (fun (b : UInt8) => Value.int .u8 (b.toNat : Int)) _ w.heap.size 0 _ dk HH0.out (by rw [HF.out.size, Array.size_replicate]) j (by rw [HF.out.size]; rw [Lib.decDigits_length] at hj; exact hj))
    rw [Lib.decDigits_length] at h
    exact h
  have hput : ∀ (W : World) (g : Nat), w.heap.size ≤ g → Below w.heap.size W (putRow (fun (b : UInt8) => Value.int .u8 (b.toNat : Int)) W g 0 dk) := fun W g hg =>
    ⟨rfl, rfl, rfl, by simp, fun i hi => by simp only [putRow, mapBlock, Array.getElem?_modify]; rw [if_neg (by omega)]⟩
  have HK : Hid (Kp w ((putRow (fun (b : UInt8) => Value.int .u8 (b.toNat : Int)) (w.alloc (.cells Lib.zeros24 135)) w.heap.size 0 dk).drewN k)) := by
    exact Below.trans (Below.trans (Kp.alloc (Kp.refl w) (.cells Lib.zeros24 135)) (hput _ w.heap.size (Nat.le_refl _))) ⟨rfl, rfl, rfl, Nat.le_refl _, fun _ _ => rfl⟩
  clear hput
  go_wp2
  go_ret
  exact ⟨rfl, HK.out⟩
theorem fmtU_any (u : Nat) (hu64 : u < 18446744073709551616) (w : World) (htab : Tab w) :
    Calls Tryz.prog 94 #[.int .u64 u, .int .i64 10] w fun e w' => e = .returned (.string ⟨(Lib.decDigits u).toArray⟩) ∧ Kp w w' := by
  by_cases h : u < 100
  · exact (fmtU_small u h w).mono fun e w' h => ⟨h.1, Kp.of_eq h.2⟩
  · exact fmtU_big u (by omega) hu64 w htab
set_option maxHeartbeats 400000 in
theorem FormatUint_any (u : Nat) (hu64 : u < 18446744073709551616) (w : World) (htab : Tab w) :
    Calls Tryz.prog 77 #[.int .u64 u, .int .i64 10] w fun e w' => e = .returned (.string ⟨(Lib.decDigits u).toArray⟩) ∧ Kp w w' := by
  have HT := Lib.hid htab; clear htab
  go_enter Tryz.func77, Tryz.ntmps77
  go_wp2_with fail
  refine (fmtU_any u hu64 _ HT.out).mono ?_
  rintro e w' ⟨rfl, hk⟩
  have HK := Lib.hid hk; clear hk
  go_wp2
  go_ret
  exact ⟨rfl, HK.out⟩
end Go.Proofs.YtdoponlhiidimaaGreatDoor
