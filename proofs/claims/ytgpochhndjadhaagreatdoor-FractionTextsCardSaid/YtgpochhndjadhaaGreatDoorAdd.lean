/- Contracts of the functions that add and subtract in place. -/
import Derived.Test.YtgpochhndjadhaaGreatDoorBase
namespace Go.Proofs.YtgpochhndjadhaaGreatDoor
open Go.RowKit LimbN
set_option maxHeartbeats 1000000 in
theorem addTo_any (g o n cap : Nat) (t : TypeId) (zs ys : List Nat) (vb : Value) (w : World) (hrow : Row w g t zs) (hzs : Lt zs) (hfit : o + n ≤ zs.length) (hn : n ≤ maxLen) (hb : Sl w vb ys) (hoff : Off g vb ys) (hle : ys.length ≤ n) :
    Calls Tryz.prog 123 #[.slice (some ⟨g, o, none⟩) n cap, vb] w fun e w' => ∃ zr c, e = .returned (.bool (!(decide (c = 0)))) ∧ AddRel zs o n c (val ys) zr ∧ c ≤ 1 ∧ Row w' g t zr ∧ Only g w w' := by
  obtain ⟨⟨ao, cb, rfl, hcb, hcm, hat, _⟩, hys, _⟩ := hb
  unfold maxLen at hn hcm
  have HROW := Lib.hid hrow; have HZS := Lib.hid hzs; have HAT := Lib.hid hat; have HYS := Lib.hid hys; have HOFF := Lib.hid hoff
  clear hrow hzs hat hys hoff
  go_enter Tryz.func123, Tryz.ntmps123
  go_wp2
  go_loopw [9, 5] (fun i c wr => ∃ (k c' : Nat) (zr : List Nat), k ≤ n ∧ i = .int .i64 k ∧ c = .int .u64 c' ∧ c' ≤ 1 ∧ AddRel zs o k c' (val (ys.take k)) zr ∧ Row wr g t zr ∧ Only g w wr) (fun i _ _ => n - (intOf i).toNat)
  case atStart => exact ⟨0, 0, zs, Nat.zero_le _, rfl, rfl, by omega, by simpa [val] using AddRel.start zs o HZS.out, HROW.out, Only.refl _ _⟩
  case round =>
    obtain ⟨k, c', zr, hk, rfl, rfl, hc1, hrel', hrow, honly⟩ := hrel
    by_cases hlt : k < n
    · have hzl := hrel'.len
      have hz := hrel'.lt (o + k)
      have hcell : wr.cell? ⟨g, o + k, none⟩ = some (.int .u32 (zr[o + k]?.getD 0 : Nat)) := hrow.cell (o + k) (by omega)
      have hfree : wr.frozen? ⟨g, o + k, none⟩ = false := hrow.free _
      have HREL := Lib.hid hrel'; have HROW2 := Lib.hid hrow; have HON := Lib.hid honly
      clear hrel' hrow honly
      obtain ⟨z, ez⟩ : ∃ z, z = zr[o + k]?.getD 0 := ⟨_, rfl⟩
      rw [← ez] at hcell hz
      have EZ := Lib.hid ez
      clear ez
      by_cases hy : k < ys.length
      · have hyb := HYS.out k
        obtain ⟨b, off, rfl, hcy⟩ := HAT.out.cells (by omega)
        have hcelly : wr.cell? ⟨b, off + k, none⟩ = some (.int .u32 (ys[k]?.getD 0 : Nat)) := (World.cell?_of_block (HON.out.block b (HOFF.out (fun h => by rw [h] at hy; simp at hy) _ _ _ rfl))).trans (hcy k hy)
        have hbg : b ≠ g := HOFF.out (fun h => by rw [h] at hy; simp at hy) _ _ _ rfl
        obtain ⟨y, ey⟩ : ∃ y, y = ys[k]?.getD 0 := ⟨_, rfl⟩
        rw [← ey] at hcelly hyb
        have EY := Lib.hid ey
        clear ey hcy
        go_wp2
        go_roundw
        case rel =>
          refine ⟨k + 1, (c' + (z + y)) / 4294967296, _, by omega, vint (by omega), vint (by omega), by omega, ?_, HROW2.out.set' _ ((c' + (z + y)) % 4294967296) _ (by omega), HON.out.set _ _⟩
          rw [val_take_succ, ← EY.out]
          exact HREL.out.step (by omega) y _ (by rw [← EZ.out])
        case measure => simp [intOf]; omega
      · go_wp2
        go_roundw
        case rel =>
          refine ⟨k + 1, (c' + (z + 0)) / 4294967296, _, by omega, vint (by omega), vint (by omega), by omega, ?_, HROW2.out.set' _ ((c' + (z + 0)) % 4294967296) _ (by omega), HON.out.set _ _⟩
          rw [val_take_succ, List.getElem?_eq_none (by omega : ys.length ≤ k)]
          exact HREL.out.step (by omega) 0 _ (by rw [← EZ.out])
        case measure => simp [intOf]; omega
    · have hkn : k = n := by omega
      subst hkn
      have HREL := Lib.hid hrel'; have HROW2 := Lib.hid hrow; have HON := Lib.hid honly
      clear hrel' hrow honly
      go_wp2
      go_ret
      refine ⟨zr, c', ret_bool ?_, ?_, hc1, HROW2.out, HON.out⟩
      · rw [Bool.eq_iff_iff]; simp
      · have := HREL.out; rwa [List.take_of_length_le (by omega)] at this

set_option maxHeartbeats 1000000 in
theorem subtractFrom_any (g o n cap f : Nat) (t : TypeId) (zs ys : List Nat) (vb : Value) (w : World) (hrow : Row w g t zs) (hzs : Lt zs) (hfit : o + n ≤ zs.length) (hn : n ≤ maxLen) (hb : Sl w vb ys) (hoff : Off g vb ys) (hle : ys.length ≤ n) (hf : f < 4294967296) :
    Calls Tryz.prog 125 #[.slice (some ⟨g, o, none⟩) n cap, vb, .int .u32 f] w fun e w' => ∃ zr c, e = .returned (.bool (!(decide (c = 0)))) ∧ SubRel zs o n c f (val ys) zr ∧ Row w' g t zr ∧ Only g w w' := by
  obtain ⟨⟨ao, cb, rfl, hcb, hcm, hat, _⟩, hys, _⟩ := hb
  unfold maxLen at hn hcm
  have HROW := Lib.hid hrow; have HZS := Lib.hid hzs; have HAT := Lib.hid hat; have HYS := Lib.hid hys; have HOFF := Lib.hid hoff
  clear hrow hzs hat hys hoff
  go_enter Tryz.func125, Tryz.ntmps125
  go_wp2
  go_loopw [12, 7] (fun i c wr => ∃ (k c' : Nat) (zr : List Nat), k ≤ n ∧ i = .int .i64 k ∧ c = .int .u64 c' ∧ c' < 4294967296 ∧ SubRel zs o k c' f (val (ys.take k)) zr ∧ Row wr g t zr ∧ Only g w wr) (fun i _ _ => n - (intOf i).toNat)
  case atStart => exact ⟨0, 0, zs, Nat.zero_le _, rfl, rfl, by omega, by simpa [val] using SubRel.start zs o f HZS.out, HROW.out, Only.refl _ _⟩
  case round =>
    obtain ⟨k, c', zr, hk, rfl, rfl, hc1, hrel', hrow, honly⟩ := hrel
    by_cases hlt : k < n
    · have hzl := hrel'.len
      have hz := hrel'.lt (o + k)
      have hcell : wr.cell? ⟨g, o + k, none⟩ = some (.int .u32 (zr[o + k]?.getD 0 : Nat)) := hrow.cell (o + k) (by omega)
      have hfree : wr.frozen? ⟨g, o + k, none⟩ = false := hrow.free _
      have HREL := Lib.hid hrel'; have HROW2 := Lib.hid hrow; have HON := Lib.hid honly
      clear hrel' hrow honly
      obtain ⟨z, ez⟩ : ∃ z, z = zr[o + k]?.getD 0 := ⟨_, rfl⟩
      rw [← ez] at hcell hz
      have EZ := Lib.hid ez
      clear ez
      by_cases hy : k < ys.length
      · have hyb := HYS.out k
        obtain ⟨b, off, rfl, hcy⟩ := HAT.out.cells (by omega)
        have hcelly : wr.cell? ⟨b, off + k, none⟩ = some (.int .u32 (ys[k]?.getD 0 : Nat)) := (World.cell?_of_block (HON.out.block b (HOFF.out (fun h => by rw [h] at hy; simp at hy) _ _ _ rfl))).trans (hcy k hy)
        have hbg : b ≠ g := HOFF.out (fun h => by rw [h] at hy; simp at hy) _ _ _ rfl
        obtain ⟨y, ey⟩ : ∃ y, y = ys[k]?.getD 0 := ⟨_, rfl⟩
        rw [← ey] at hcelly hyb
        have EY := Lib.hid ey
        clear ey hcy
        have hm := mul_small hyb hf
        have hm0 : (0 : Int) ≤ (y : Int) * (f : Int) := by rw [← Int.natCast_mul]; exact Int.natCast_nonneg _
        have hm1 : (y : Int) * (f : Int) ≤ 18446744065119617025 := by rw [← Int.natCast_mul]; omega
        by_cases hzt : (z : Int) < ((c' : Int) + (y : Int) * (f : Int)) % 4294967296
        · go_wp2
          go_roundw
          case rel =>
            refine ⟨k + 1, (c' + y * f) / 4294967296 + 1, _, by omega, vint (by omega), vint (by omega), by omega, ?_, HROW2.out.set' _ (z + 4294967296 - (c' + y * f) % 4294967296) _ (by omega), HON.out.set _ _⟩
            rw [val_take_succ, ← EY.out]
            exact HREL.out.step (by omega) y _ _ (by omega) (by rw [← EZ.out, Nat.mul_comm f y]; omega)
          case measure => simp [intOf]; omega
        · go_wp2
          go_roundw
          case rel =>
            refine ⟨k + 1, (c' + y * f) / 4294967296, _, by omega, vint (by omega), vint (by omega), by omega, ?_, HROW2.out.set' _ (z - (c' + y * f) % 4294967296) _ (by omega), HON.out.set _ _⟩
            rw [val_take_succ, ← EY.out]
            exact HREL.out.step (by omega) y _ _ (by omega) (by rw [← EZ.out, Nat.mul_comm f y]; omega)
          case measure => simp [intOf]; omega
      · by_cases hzt : (z : Int) < (c' : Int)
        · go_wp2
          go_roundw
          case rel =>
            refine ⟨k + 1, 1, _, by omega, vint (by omega), vint (by omega), by omega, ?_, HROW2.out.set' _ (z + 4294967296 - c') _ (by omega), HON.out.set _ _⟩
            rw [val_take_succ, List.getElem?_eq_none (by omega : ys.length ≤ k)]
            exact HREL.out.step (by omega) 0 _ _ (by omega) (by rw [← EZ.out]; omega)
          case measure => simp [intOf]; omega
        · go_wp2
          go_roundw
          case rel =>
            refine ⟨k + 1, 0, _, by omega, vint (by omega), vint (by omega), by omega, ?_, HROW2.out.set' _ (z - c') _ (by omega), HON.out.set _ _⟩
            rw [val_take_succ, List.getElem?_eq_none (by omega : ys.length ≤ k)]
            exact HREL.out.step (by omega) 0 _ _ (by omega) (by rw [← EZ.out]; omega)
          case measure => simp [intOf]; omega
    · have hkn : k = n := by omega
      subst hkn
      have HREL := Lib.hid hrel'; have HROW2 := Lib.hid hrow; have HON := Lib.hid honly
      clear hrel' hrow honly
      go_wp2
      go_ret
      refine ⟨zr, c', ret_bool ?_, ?_, HROW2.out, HON.out⟩
      · rw [Bool.eq_iff_iff]; simp
      · have := HREL.out; rwa [List.take_of_length_le (by omega)] at this
end Go.Proofs.YtgpochhndjadhaaGreatDoor
