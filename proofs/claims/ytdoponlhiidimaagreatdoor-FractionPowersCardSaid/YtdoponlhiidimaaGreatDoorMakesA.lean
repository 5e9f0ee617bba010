/- The laws' helpers: cut, SameFrac, same. Conditions: the slices hold the digits that are named. -/
import Derived.Test.YtdoponlhiidimaaGreatDoorAwake
namespace Go.Proofs.YtdoponlhiidimaaGreatDoor
open Go.RowKit LimbN

set_option maxHeartbeats 400000 in
theorem cut8_any {v : Value} {xs : List Nat} {w : World} (hs : Sl w v xs) :
    Calls Tryz.prog 14 #[v] w fun e w' => (∃ v', e = .returned v' ∧ Sl w v' (xs.take 8)) ∧ w = w' := by
  obtain ⟨⟨ao, cap, rfl, hcap, hm, ha, hno⟩, hl, hsm⟩ := hs
  have HC : Hid (∀ k, k ≤ xs.length → Sl w (.slice ao k cap) (xs.take k)) := fun k hk => Sl.cut hcap hm ha hl hsm hno k hk
  clear ha hno hl
  unfold maxLen at hm
  obtain ⟨len, hlen⟩ : ∃ len, len = xs.length := ⟨_, rfl⟩
  rw [← hlen] at hcap hsm
  rw [← hlen]
  have HL := Lib.hid hlen; clear hlen
  by_cases h : 8 < len
  · go_enter Tryz.func14, Tryz.ntmps14
    go_wp2
    go_ret
    exact ⟨⟨_, rfl, HC.out 8 (by have := HL.out; omega)⟩, rfl⟩
  · go_enter Tryz.func14, Tryz.ntmps14
    go_wp2
    go_ret
    refine ⟨⟨_, rfl, ?_⟩, rfl⟩
    have := HC.out len (by have := HL.out; omega)
    rwa [List.take_of_length_le (by have := HL.out; omega)] at this ⊢
set_option maxRecDepth 100000 in
theorem sameFrac_eq {p : Nat × Nat} {va vb vc vd : Value} {w : World} (ha : Sl w va (limbs p.1)) (hb : Sl w vb (limbs p.2)) (hc : Sl w vc (limbs p.1)) (hd : Sl w vd (limbs p.2)) :
    Calls Tryz.prog 23 #[.agg #[va, vb], .agg #[vc, vd]] w fun e w' => e = .returned (.bool true) ∧ Kp w w' := by
  obtain ⟨ao, al, ac, rfl⟩ := ha.open3
  obtain ⟨bo, bl, bc, rfl⟩ := hb.open3
  obtain ⟨co, cl, cc, rfl⟩ := hc.open3
  obtain ⟨do', dl, dc, rfl⟩ := hd.open3
  obtain ⟨w1, hw1, HK1, HB1, hz1⟩ := box2 w 26 (.slice ao al ac) (.slice bo bl bc)
  obtain ⟨w2, hw2, HK2, HB2, hz2⟩ := box2 w1 26 (.slice co cl cc) (.slice do' dl dc)
  have hs1 : w1.heap.size = w.heap.size + 1 := by rw [hw1]; simp
  rw [hs1] at HB2
  have hk02 := Kp.trans HK1.out HK2.out
  have HK02 := Lib.hid hk02
  have HA := Lib.hid (ha.keep hk02); have HB := Lib.hid (hb.keep hk02); have HCC := Lib.hid (hc.keep hk02); have HD := Lib.hid (hd.keep hk02)
  have HT1 := Lib.hid (HB1.out.keep HK2.out)
  have hw : w2 = (w.alloc (Obj.cells #[.slice ao al ac, .slice bo bl bc] 26)).alloc (Obj.cells #[.slice co cl cc, .slice do' dl dc] 26) := by rw [hw2, hw1]
  have c10 := HT1.out.c0; have c20 := HB2.out.c0
  rw [hw] at c10 c20
  have HW := Lib.hid hw
  clear hw1 hw2 hs1 hk02 ha hb hc hd hz1 hz2 hw HK1 HK2 HB1
  go_enter Tryz.func23, Tryz.ntmps23
  go_wp2_with fail
  rw [← HW.out]
  refine (same_any HA.out HCC.out).mono ?_
  rintro e w3 ⟨rfl, hd⟩
  rw [decide_eq_true rfl]
  have HK3 := Lib.hid hd.kp
  clear hd c10 c20
  have c11 := (HT1.out.keep HK3.out).c1; have c21 := (HB2.out.keep HK3.out).c1
  go_wp2_with fail
  refine (same_any (HB.out.keep HK3.out) (HD.out.keep HK3.out)).mono ?_
  rintro e w4 ⟨rfl, hd⟩
  rw [decide_eq_true rfl]
  have HK4 := Lib.hid (Kp.trans HK02.out (Kp.trans HK3.out hd.kp))
  clear hd c11 c21
  go_wp2_with fail
  go_ret
  exact ⟨rfl, HK4.out⟩
set_option maxRecDepth 100000 in
theorem fsame_eq {E : Int} {p : Nat × Nat} {va vb vc vd : Value} {w : World} (ha : Sl w va (limbs p.1)) (hb : Sl w vb (limbs p.2)) (hc : Sl w vc (limbs p.1)) (hd : Sl w vd (limbs p.2)) :
    Calls Tryz.prog 7 #[.agg #[va, vb], .int .i64 E, .agg #[vc, vd], .int .i64 E] w fun e w' => e = .returned (.bool true) ∧ Kp w w' := by
  obtain ⟨ao, al, ac, rfl⟩ := ha.open3
  obtain ⟨bo, bl, bc, rfl⟩ := hb.open3
  obtain ⟨co, cl, cc, rfl⟩ := hc.open3
  obtain ⟨do', dl, dc, rfl⟩ := hd.open3
  obtain ⟨w1, hw1, HK1, HB1, hz1⟩ := box2 w 26 (.slice ao al ac) (.slice bo bl bc)
  obtain ⟨w2, hw2, HK2, HB2, hz2⟩ := box2 w1 26 (.slice co cl cc) (.slice do' dl dc)
  have hs1 : w1.heap.size = w.heap.size + 1 := by rw [hw1]; simp
  rw [hs1] at HB2
  have hk02 := Kp.trans HK1.out HK2.out
  have HK02 := Lib.hid hk02
  have HA := Lib.hid (ha.keep hk02); have HB := Lib.hid (hb.keep hk02); have HCC := Lib.hid (hc.keep hk02); have HD := Lib.hid (hd.keep hk02)
  have HT1 := HB1.out.keep HK2.out
  have hw : w2 = (w.alloc (Obj.cells #[.slice ao al ac, .slice bo bl bc] 26)).alloc (Obj.cells #[.slice co cl cc, .slice do' dl dc] 26) := by rw [hw2, hw1]
  have c10 := HT1.c0; have c20 := HB2.out.c0; have c11 := HT1.c1; have c21 := HB2.out.c1
  rw [hw] at c10 c20 c11 c21
  have HW := Lib.hid hw
  have hE : (E == E) = true := beq_self_eq_true E
  clear hw1 hw2 hs1 hk02 ha hb hc hd hz1 hz2 hw HK1 HK2 HB1 HB2 HT1
  go_enter Tryz.func7, Tryz.ntmps7
  go_wp2_with fail
  rw [← HW.out]
  refine (sameFrac_eq HA.out HB.out HCC.out HD.out).mono ?_
  rintro e w3 ⟨rfl, hk⟩
  have HK3 := Lib.hid (Kp.trans HK02.out hk)
  clear hk c10 c20 c11 c21
  go_wp2_with fail
  go_ret
  exact ⟨rfl, HK3.out⟩
end Go.Proofs.YtdoponlhiidimaaGreatDoor
