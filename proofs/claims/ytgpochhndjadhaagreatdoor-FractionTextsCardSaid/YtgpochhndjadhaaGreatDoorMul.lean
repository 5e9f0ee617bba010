/- Contracts of the functions that multiply. Conditions: the slices hold the digits that are named. -/
import Derived.Test.YtgpochhndjadhaaGreatDoorSum
import Derived.Lib.SliceRun
namespace Go.Proofs.YtgpochhndjadhaaGreatDoor
open Go.RowKit LimbN

-- slices.Clone
set_option maxHeartbeats 400000 in
theorem cloneU_nil (w : World) :
    Calls Tryz.prog 129 #[.slice none 0 0] w fun e w' => e = .returned (.slice none 0 0) ∧ w = w' := by
  have q1 : ∀ (w : World) (a : Option Addr) (n c n' c' : Nat), (binOp .eql 22 (.slice a n c) (.slice none n' c')).run Tryz.prog w = .ok (.bool a.isNone) w := fun w a n c n' c' => Lib.run_eql_slice_nil w 22 59 a n c n' c' Tryz.underlying22
  go_enter Tryz.func129, Tryz.ntmps129
  go_wp2
  go_ret
  exact ⟨rfl, rfl⟩
set_option maxHeartbeats 400000 in
theorem cloneU_some {xs : List Nat} {a : Addr} {l c : Nat} {w : World} (ha : Sl w (.slice (some a) l c) xs) :
    Calls Tryz.prog 129 #[.slice (some a) l c] w fun e w' => ∃ v', e = .returned v' ∧ Sl w' v' xs ∧ New w.heap.size v' ∧ Kp w w' := by
  have q1 : ∀ (w : World) (a : Option Addr) (n c n' c' : Nat), (binOp .eql 22 (.slice a n c) (.slice none n' c')).run Tryz.prog w = .ok (.bool a.isNone) w := fun w a n c n' c' => Lib.run_eql_slice_nil w 22 59 a n c n' c' Tryz.underlying22
  have HLT := Lib.hid ha.lt; have HSM := Lib.hid ha.sm
  have HL : Hid (xs.length = l) := by obtain ⟨ao, cap, e, -⟩ := ha.ex; simp only [Value.slice.injEq] at e; exact e.2.1.symm
  have HAT : Hid (At (w.alloc (.cells #[] 59)) (some a) xs) := by
    obtain ⟨ao, cap, e, _, _, h, _⟩ := ha.ex
    simp only [Value.slice.injEq] at e
    rw [e.1]
    exact h.keep (Kp.alloc (Kp.refl _) _)
  have HOWN : Hid ((w.alloc (.cells #[] 59)).ownsRow w.heap.size 59 1 (.slice (some ⟨w.heap.size, 0, none⟩) 0 0) 0 (U [])) := World.ownsRow_made w #[] 0 (Nat.le_refl _) (Nat.zero_le _) rfl
  clear ha
  go_enter Tryz.func129, Tryz.ntmps129
  go_wp2_with (at_builtin; refine wpList_app rfl (.tmp 5) (.tmp 6) 22 rfl Tryz.underlying22 w.heap.size _ 0 [] rfl HOWN.out (some a) l c xs rfl HL.out HAT.out (fun h => nomatch h) (by have := HSM.out; have := HL.out; omega) (by simp) ?_)
  intro v' w1 hown hgr
  have hs1 := sl_of_owns (zs := xs) hown HLT.out HSM.out
  have HS := Lib.hid hs1.1; have HN := Lib.hid hs1.2
  have HG : Hid (Kp w w1) := (Below.grown (Below.alloc (Below.refl _ _) (Nat.le_refl _) _) hgr (by simp) (by intro k hk; simp [Value.ownBlock] at hk; omega))
  clear hs1 hown hgr
  go_wp2
  go_ret
  exact ⟨v', rfl, HS.out, HN.out, HG.out⟩
theorem cloneU_any {xs : List Nat} {v : Value} {w : World} (ha : Sl w v xs) :
    Calls Tryz.prog 129 #[v] w fun e w' => ∃ v', e = .returned v' ∧ Sl w' v' xs ∧ New w.heap.size v' ∧ Kp w w' := by
  obtain ⟨ao, cap, rfl, _, _, hat, hno⟩ := ha.ex
  cases ao with
  | none =>
    obtain rfl : xs = [] := by
      rcases hat with h | ⟨_, _, h, _⟩
      · exact h
      · simp at h
    obtain rfl := hno rfl
    exact (cloneU_nil w).mono fun e w' h => ⟨_, h.1, h.2 ▸ Sl.nil _, New.nil _, Kp.of_eq h.2⟩
  | some a => exact cloneU_some ha
set_option maxHeartbeats 400000 in
theorem cloneN_nil (w : World) :
    Calls Tryz.prog 117 #[.slice none 0 0] w fun e w' => e = .returned (.slice none 0 0) ∧ w = w' := by
  have q1 : ∀ (w : World) (a : Option Addr) (n c n' c' : Nat), (binOp .eql 23 (.slice a n c) (.slice none n' c')).run Tryz.prog w = .ok (.bool a.isNone) w := fun w a n c n' c' => Lib.run_eql_slice_nil w 23 59 a n c n' c' Tryz.underlying23
  go_enter Tryz.func117, Tryz.ntmps117
  go_wp2
  go_ret
  exact ⟨rfl, rfl⟩
set_option maxHeartbeats 400000 in
theorem cloneN_some {xs : List Nat} {a : Addr} {l c : Nat} {w : World} (ha : Sl w (.slice (some a) l c) xs) :
    Calls Tryz.prog 117 #[.slice (some a) l c] w fun e w' => ∃ v', e = .returned v' ∧ Sl w' v' xs ∧ New w.heap.size v' ∧ Kp w w' := by
  have q1 : ∀ (w : World) (a : Option Addr) (n c n' c' : Nat), (binOp .eql 23 (.slice a n c) (.slice none n' c')).run Tryz.prog w = .ok (.bool a.isNone) w := fun w a n c n' c' => Lib.run_eql_slice_nil w 23 59 a n c n' c' Tryz.underlying23
  have HLT := Lib.hid ha.lt; have HSM := Lib.hid ha.sm
  have HL : Hid (xs.length = l) := by obtain ⟨ao, cap, e, -⟩ := ha.ex; simp only [Value.slice.injEq] at e; exact e.2.1.symm
  have HAT : Hid (At (w.alloc (.cells #[] 59)) (some a) xs) := by
    obtain ⟨ao, cap, e, _, _, h, _⟩ := ha.ex
    simp only [Value.slice.injEq] at e
    rw [e.1]
    exact h.keep (Kp.alloc (Kp.refl _) _)
  have HOWN : Hid ((w.alloc (.cells #[] 59)).ownsRow w.heap.size 59 1 (.slice (some ⟨w.heap.size, 0, none⟩) 0 0) 0 (U [])) := World.ownsRow_made w #[] 0 (Nat.le_refl _) (Nat.zero_le _) rfl
  clear ha
  go_enter Tryz.func117, Tryz.ntmps117
  go_wp2_with (at_builtin; refine wpList_app rfl (.tmp 5) (.tmp 6) 23 rfl Tryz.underlying23 w.heap.size _ 0 [] rfl HOWN.out (some a) l c xs rfl HL.out HAT.out (fun h => nomatch h) (by have := HSM.out; have := HL.out; omega) (by simp) ?_)
  intro v' w1 hown hgr
  have hs1 := sl_of_owns (zs := xs) hown HLT.out HSM.out
  have HS := Lib.hid hs1.1; have HN := Lib.hid hs1.2
  have HG : Hid (Kp w w1) := (Below.grown (Below.alloc (Below.refl _ _) (Nat.le_refl _) _) hgr (by simp) (by intro k hk; simp [Value.ownBlock] at hk; omega))
  clear hs1 hown hgr
  go_wp2
  go_ret
  exact ⟨v', rfl, HS.out, HN.out, HG.out⟩
theorem cloneN_any {xs : List Nat} {v : Value} {w : World} (ha : Sl w v xs) :
    Calls Tryz.prog 117 #[v] w fun e w' => ∃ v', e = .returned v' ∧ Sl w' v' xs ∧ New w.heap.size v' ∧ Kp w w' := by
  obtain ⟨ao, cap, rfl, _, _, hat, hno⟩ := ha.ex
  cases ao with
  | none =>
    obtain rfl : xs = [] := by
      rcases hat with h | ⟨_, _, h, _⟩
      · exact h
      · simp at h
    obtain rfl := hno rfl
    exact (cloneN_nil w).mono fun e w' h => ⟨_, h.1, h.2 ▸ Sl.nil _, New.nil _, Kp.of_eq h.2⟩
  | some a => exact cloneN_some ha

set_option maxHeartbeats 1000000 in
theorem addProduct_any (g gb at_ f : Nat) (t : TypeId) (zs ys : List Nat) (vb : Value) (w : World) (hrow : Row w g t zs) (hzs : Lt zs) (h256 : zs.length = 256) (hb : Sl w vb ys) (hoff : Off g vb ys) (hgb : gb ≠ g)
    (hbox : w.cell? ⟨gb, 0, none⟩ = some vb) (hfit : at_ + ys.length < 256) (hf : f < 4294967296) :
    Calls Tryz.prog 128 #[.int .i64 at_, .int .u32 f, .pointer (some ⟨gb, 0, none⟩), .pointer (some ⟨g, 0, none⟩)] w fun e w' =>
      e = .returned (.tuple #[]) ∧ ∃ zr c, AddRel zs at_ ys.length c (f * val ys) zr ∧ c < 4294967296 ∧ Row w' g t (zr.set (at_ + ys.length) c) ∧ Only g w w' := by
  obtain ⟨⟨ao, cb, rfl, hcb, hcm, hat, _⟩, hys, _⟩ := hb
  obtain ⟨n, hn⟩ : ∃ n, n = ys.length := ⟨_, rfl⟩
  rw [← hn] at hbox hfit hcb
  rw [← hn]
  have HN := Lib.hid hn; clear hn
  have HROW := Lib.hid hrow; have HZS := Lib.hid hzs; have HAT := Lib.hid hat; have HYS := Lib.hid hys; have HOFF := Lib.hid hoff; have H256 := Lib.hid h256
  clear hrow hzs hat hys hoff h256
  go_enter Tryz.func128, Tryz.ntmps128
  go_wp2
  go_loopw [11, 6] (fun i c wr => ∃ (k c' : Nat) (zr : List Nat), k ≤ n ∧ i = .int .i64 k ∧ c = .int .u64 c' ∧ c' < 4294967296 ∧ AddRel zs at_ k c' (f * val (ys.take k)) zr ∧ Row wr g t zr ∧ Only g w wr) (fun i _ _ => n - (intOf i).toNat)
  case atStart => exact ⟨0, 0, zs, Nat.zero_le _, rfl, rfl, by omega, by simpa [val] using AddRel.start zs at_ HZS.out, HROW.out, Only.refl _ _⟩
  case round =>
    obtain ⟨k, c', zr, hk, rfl, rfl, hc1, hrel', hrow, honly⟩ := hrel
    by_cases hlt : k < n
    · have hzl := hrel'.len
      have hz := hrel'.lt (at_ + k)
      have hcell : wr.cell? ⟨g, at_ + k, none⟩ = some (.int .u32 (zr[at_ + k]?.getD 0 : Nat)) := hrow.cell (at_ + k) (by have := H256.out; omega)
      have hfree : wr.frozen? ⟨g, at_ + k, none⟩ = false := hrow.free _
      have HREL := Lib.hid hrel'; have HROW2 := Lib.hid hrow; have HON := Lib.hid honly; have HZL := Lib.hid hzl
      clear hrel' hrow honly hzl
      obtain ⟨z, ez⟩ : ∃ z, z = zr[at_ + k]?.getD 0 := ⟨_, rfl⟩
      rw [← ez] at hcell hz
      have EZ := Lib.hid ez
      clear ez
      have hyb := HYS.out k
      obtain ⟨b, off, rfl, hcy⟩ := HAT.out.cells (by have := HN.out; omega)
      have hnil : Hid (ys ≠ []) := fun h => by have := HN.out; rw [h] at this; simp at this; omega
      have hcelly : wr.cell? ⟨b, off + k, none⟩ = some (.int .u32 (ys[k]?.getD 0 : Nat)) := (World.cell?_of_block (HON.out.block b (HOFF.out hnil.out _ _ _ rfl))).trans (hcy k (by have := HN.out; omega))
      have hbg : b ≠ g := HOFF.out hnil.out _ _ _ rfl
      obtain ⟨y, ey⟩ : ∃ y, y = ys[k]?.getD 0 := ⟨_, rfl⟩
      rw [← ey] at hcelly hyb
      have EY := Lib.hid ey
      clear ey hcy
      have hm := mul_small hyb hf
      have hm0 : (0 : Int) ≤ (y : Int) * (f : Int) := by rw [← Int.natCast_mul]; exact Int.natCast_nonneg _
      have hm1 : (y : Int) * (f : Int) ≤ 18446744065119617025 := by rw [← Int.natCast_mul]; omega
      go_wp2
      go_roundw
      case rel =>
        refine ⟨k + 1, (c' + (z + y * f)) / 4294967296, _, by omega, vint (by omega), vint (by omega), by omega, ?_, HROW2.out.set' _ ((c' + (z + y * f)) % 4294967296) _ (by omega), HON.out.set _ _⟩
        rw [val_take_succ, ← EY.out, Nat.mul_add, Nat.mul_left_comm, Nat.mul_comm f y]
        exact HREL.out.step (by have := H256.out; omega) (y * f) _ (by rw [← EZ.out])
      case measure => simp [intOf]; omega
    · have hkn : k = n := by omega
      subst hkn
      have hzl := hrel'.len
      have hbox2 : wr.cell? ⟨gb, 0, none⟩ = w.cell? ⟨gb, 0, none⟩ := World.cell?_of_block (honly.block gb hgb)
      rw [hbox] at hbox2
      have hcell := hrow.cell (at_ + k) (by have := H256.out; omega)
      have hfree : wr.frozen? ⟨g, at_ + k, none⟩ = false := hrow.free _
      have HREL := Lib.hid hrel'; have HROW2 := Lib.hid hrow; have HON := Lib.hid honly
      clear hrel' hrow honly hzl
      go_wp2
      go_end0
      refine ⟨rfl, zr, c', ?_, hc1, HROW2.out.set' _ c' _ (by omega), HON.out.set _ _⟩
      have := HREL.out; rwa [List.take_of_length_le (by have := HN.out; omega)] at this

theorem slice256 (g k l : Nat) (h : k + l ≤ 256) (wx : World) : (Instr.sliceAt 130 (.pointer (some ⟨g, 0, none⟩)) none (some (.int .i64 ((k : Int) + (l : Int)))) none).run Tryz.prog wx = .ok (.slice (some ⟨g, 0, none⟩) (k + l) 256) wx := by
  have e1 : Tryz.prog.arrayLen 130 = 256 := by kernel_rfl
  have e2 : Tryz.prog.elem 130 = 59 := by kernel_rfl
  have e3 : (sizeOf 59).run Tryz.prog wx = .ok 1 wx := by kernel_rfl
  have e4 : ((k : Int) + (l : Int)).toNat = k + l := by omega
  rw [run_sliceAt_array_h wx 130 ⟨g, 0, none⟩ (by rw [e1, e2]; exact Tryz.underlying130) .i64 _ (by omega) (by rw [e1]; omega), e1, e2, e3, e4]
  simp [slicedAt, Result.andThen, Addr.add_lit]
set_option maxRecDepth 100000 in
set_option maxHeartbeats 1000000 in
theorem multiply_ok {xs ys : List Nat} {va vb : Value} {w : World} (ha : Sl w va xs) (hb : Sl w vb ys) (hxl : xs.length ≤ 128) (hyl : ys.length ≤ 128) :
    Calls Tryz.prog 96 #[va, vb] w (Made (val xs * val ys) w) := by
  have hmf : ∀ (fn : Fn) (first cap : Array Value) (w : World), (Instr.makeFunc fn first cap).run Tryz.prog w = .ok (.func fn first cap) w := fun _ _ _ _ => rfl
  have HA := Lib.hid ha; have HB := Lib.hid hb
  obtain ⟨ao, ca, rfl, -⟩ := ha.ex
  obtain ⟨bo, cb, rfl, -⟩ := hb.ex
  clear ha hb
  obtain ⟨la, hla⟩ : ∃ la, la = xs.length := ⟨_, rfl⟩
  obtain ⟨lb, hlb⟩ : ∃ lb, lb = ys.length := ⟨_, rfl⟩
  rw [← hla] at hxl; rw [← hlb] at hyl
  rw [← hla, ← hlb]
  rw [← hla] at HA; rw [← hlb] at HB
  have HLA := Lib.hid hla; have HLB := Lib.hid hlb
  clear hla hlb
  have hz71 : Tryz.zeroCells130 = (U (List.replicate 256 0)).toArray := by kernel_rfl
  have hW : ∃ W, W = (w.alloc (.cells #[.slice bo lb cb] 23)).alloc (.cells Tryz.zeroCells130 130) := ⟨_, rfl⟩
  obtain ⟨W, hW⟩ := hW
  have HK0 : Hid (Kp w W) := by rw [hW]; exact Kp.alloc (Kp.alloc (Kp.refl _) _) _
  have HR0 : Hid (Row W (w.heap.size + 1) 130 (List.replicate 256 0)) := ⟨by rw [hW, ← hz71]; exact heap_alloc2_new w _ _⟩
  have HBX : Hid (W.cell? ⟨w.heap.size, 0, none⟩ = some (.slice bo lb cb)) := by
    rw [hW]
    refine (World.cell?_alloc_past _ _ _ (by simp)).trans ?_
    rw [World.cell?_alloc_at _ _ _ _ rfl]; rfl
  have HW := Lib.hid hW.symm
  clear hW hz71
  go_enter Tryz.func96, Tryz.ntmps96
  go_wp2_with fail
  rw [HW.out]
  go_loopw [13] (fun i wr => ∃ (k : Nat) (zr : List Nat), k ≤ la ∧ i = .int .i64 k ∧ MulRel xs ys k zr ∧ Row wr (w.heap.size + 1) 130 zr ∧ Only (w.heap.size + 1) W wr) (fun i _ => la - (intOf i).toNat)
  case atStart => exact ⟨0, _, Nat.zero_le _, rfl, MulRel.start xs ys, HR0.out, Only.refl _ _⟩
  case round =>
    obtain ⟨k, zr, hk, rfl, hrel', hrow, honly⟩ := hrel
    have HREL := Lib.hid hrel'; have HROW := Lib.hid hrow; have HON := Lib.hid honly
    have HKR : Hid (Kp w wr) := Only.kp HK0.out honly (by omega)
    clear hrel' hrow honly
    have HAR := Lib.hid (HA.out.keep HKR.out); have HBR := Lib.hid (HB.out.keep HKR.out)
    by_cases hlt : k < la
    · obtain ⟨⟨ao', cap', hv, _, _, hat, _⟩, hxs, _⟩ := HAR.out
      simp only [Value.slice.injEq] at hv
      obtain ⟨rfl, -, rfl⟩ := hv
      obtain ⟨b, off, rfl, hcx⟩ := hat.cells (by have := HLA.out; omega)
      have hcell := hcx k (by have := HLA.out; omega)
      have hxb := hxs k
      clear hcx hat
      have HXS := Lib.hid hxs; clear hxs
      obtain ⟨x, ex⟩ : ∃ x, x = xs[k]?.getD 0 := ⟨_, rfl⟩
      rw [← ex] at hcell hxb
      have EX := Lib.hid ex; clear ex
      have HBXR : Hid (wr.cell? ⟨w.heap.size, 0, none⟩ = some (.slice bo lb cb)) := (World.cell?_of_block (HON.out.block _ (by simp))).trans HBX.out
      have HOFF := Lib.hid (HB.out.off (g := w.heap.size + 1) (by omega))
      go_wp2_with fail
      refine (addProduct_any (w.heap.size + 1) w.heap.size k x 130 zr ys _ wr HROW.out HREL.out.lt HREL.out.len HBR.out HOFF.out (by omega) HBXR.out (by have := HLB.out; omega) hxb).mono ?_
      rintro e w2 ⟨rfl, zr2, c, hadd, hc, hrow2, ho2⟩
      have hst := HREL.out.step (by have := HLB.out; omega) hc (by rw [← EX.out]; exact hadd)
      have HST := Lib.hid hst; have HROW2 := Lib.hid hrow2; have HON2 := Lib.hid (HON.out.trans ho2)
      clear hst hadd hrow2 ho2
      go_wp2
      go_roundw
      case rel => exact ⟨k + 1, _, by omega, vint (by omega), HST.out, HROW2.out, HON2.out⟩
      case measure => simp [intOf]; omega
    · have hkl : k = la := by omega
      subst hkl
      have hbx : wr.cell? ⟨w.heap.size, 0, none⟩ = some (.slice bo lb cb) := (World.cell?_of_block (HON.out.block _ (by simp))).trans HBX.out
      have hs71 := slice256 (w.heap.size + 1) k lb (by omega)
      have hl := HREL.out.len
      have hzr := Sl.cut (w := wr) (ao := some ⟨w.heap.size + 1, 0, none⟩) (cap := 256) (xs := zr) (by omega) (by unfold maxLen; omega) (by simpa using HROW.out.at 0) HREL.out.lt (by omega) (fun h => nomatch h) (k + lb) (by omega)
      have hv : val (zr.take (k + lb)) = val xs * val ys := by
        rw [val_take _ (fun i hi => HREL.out.zero i (by have := HLB.out; omega)), HREL.out.sum, List.take_of_length_le (by have := HLA.out; omega)]
      have HZR := Lib.hid hzr; have HV := Lib.hid hv
      clear hl hzr hv
      go_wp2_with fail
      refine (cloneU_any HZR.out).mono ?_
      rintro e w2 ⟨v2, rfl, hs2, hn2, hk2⟩
      have HS2 := Lib.hid hs2; have HN2 := Lib.hid (hn2.mono (show w.heap.size ≤ wr.heap.size from HKR.out.size)); have HK2 := Lib.hid (Kp.trans HKR.out hk2)
      clear hs2 hn2 hk2
      go_wp2_with fail
      refine (limited_any HS2.out).mono ?_
      rintro e w4 ⟨⟨v', rfl, hs', hn'⟩, rfl⟩
      rw [HV.out] at hs' ⊢
      have fin : Made (val xs * val ys) w (.returned (if (limbs (val xs * val ys)).length ≤ 128 then .tuple #[v', .int .i64 0] else .tuple #[.slice none 0 0, .int .i64 2])) w2 := ⟨⟨v', rfl, hs', hn' _ HN2.out⟩, HK2.out⟩
      have FIN := Lib.hid fin; clear fin hs' hn'
      by_cases hlen : (limbs (val xs * val ys)).length ≤ 128
      · have FIN2 := FIN.out
        rw [if_pos hlen] at FIN2 ⊢
        have FIN := Lib.hid FIN2; clear FIN2
        go_wp2
        go_ret2
        exact FIN.out
      · have FIN2 := FIN.out
        rw [if_neg hlen] at FIN2 ⊢
        have FIN := Lib.hid FIN2; clear FIN2
        go_wp2
        go_ret2
        exact FIN.out
set_option maxHeartbeats 400000 in
theorem Mul_ok {xs ys : List Nat} {va vb : Value} {w : World} (ha : Sl w va xs) (hb : Sl w vb ys) (hx : wf xs = true) (hy : wf ys = true) :
    Calls Tryz.prog 92 #[va, vb] w (Made (val xs * val ys) w) := by
  have HA := Lib.hid ha; have HX := Lib.hid hx; have HB := Lib.hid hb; have HY := Lib.hid hy; clear ha hx hb hy
  go_enter Tryz.func92, Tryz.ntmps92
  go_wp2_with fail
  refine (check_any HA.out).mono ?_
  rintro e w' ⟨rfl, rfl⟩
  rw [HX.out]
  go_wp2_with fail
  refine (check_any HB.out).mono ?_
  rintro e w' ⟨rfl, rfl⟩
  rw [HY.out]
  go_wp2_with fail
  refine (multiply_ok HA.out HB.out (wf_canon HA.out.lt HX.out).2 (wf_canon HB.out.lt HY.out).2).mono ?_
  intro e w2 hm
  have HM := Lib.hid hm
  obtain ⟨⟨v', rfl, -, -⟩, -⟩ := hm
  by_cases hlen : (limbs (val xs * val ys)).length ≤ 128
  · have FIN2 := HM.out
    rw [if_pos hlen] at FIN2 ⊢
    have FIN := Lib.hid FIN2; clear FIN2 HM
    go_wp2
    go_ret2
    exact FIN.out
  · have FIN2 := HM.out
    rw [if_neg hlen] at FIN2 ⊢
    have FIN := Lib.hid FIN2; clear FIN2 HM
    go_wp2
    go_ret2
    exact FIN.out
end Go.Proofs.YtgpochhndjadhaaGreatDoor
