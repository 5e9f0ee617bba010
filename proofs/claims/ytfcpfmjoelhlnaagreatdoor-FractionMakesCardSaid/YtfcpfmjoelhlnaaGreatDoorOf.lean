/- Of on both sides: a fraction of two ints in lowest terms, or an error. Conditions: none but that the arguments are what they are said to be. -/
import Derived.Test.YtfcpfmjoelhlnaaGreatDoorMake
namespace Go.Proofs.YtfcpfmjoelhlnaaGreatDoor
open Go.RowKit LimbN
set_option maxRecDepth 100000 in
theorem Of_neg {z y : Int} {w : World} (h : z < 0 ∨ y < 0) : Calls Tryz.prog 12 #[.int .i64 z, .int .i64 y] w (MkR 5 (0, 0) w) := by
  by_cases hz : z < 0
  · have hz' : decide (z < 0) = true := decide_eq_true hz
    clear hz h
    have hT := Two.new w 25 (Value.slice none 0 0) (Value.slice none 0 0)
    have HK1 : Hid (Kp w (w.alloc (Obj.cells #[Value.slice none 0 0, Value.slice none 0 0] 25))) := Kp.alloc (Kp.refl _) _
    have c0 := hT.c0
    have c1 := hT.c1
    clear hT
    go_enter Tryz.func12, Tryz.ntmps12
    go_wp2_with fail
    exact bodyPost_ret (by simp [results, Tryz.results12, go_sem]) rfl
      ⟨⟨_, _, rfl, Sl.nil _, Sl.nil _, New.nil _, New.nil _⟩, HK1.out⟩
  · have hz' : decide (z < 0) = false := decide_eq_false hz
    have hy' : decide (y < 0) = true := decide_eq_true (by omega)
    clear hz h
    have hT := Two.new w 25 (Value.slice none 0 0) (Value.slice none 0 0)
    have HK1 : Hid (Kp w (w.alloc (Obj.cells #[Value.slice none 0 0, Value.slice none 0 0] 25))) := Kp.alloc (Kp.refl _) _
    have c0 := hT.c0
    have c1 := hT.c1
    clear hT
    go_enter Tryz.func12, Tryz.ntmps12
    go_wp2_with fail
    exact bodyPost_ret (by simp [results, Tryz.results12, go_sem]) rfl
      ⟨⟨_, _, rfl, Sl.nil _, Sl.nil _, New.nil _, New.nil _⟩, HK1.out⟩
set_option maxRecDepth 100000 in
theorem Of_ok {a b : Nat} {w : World} (ha : a < 9223372036854775808) (hb : b < 9223372036854775808) : Calls Tryz.prog 12 #[.int .i64 a, .int .i64 b] w (MkR (divE (limbs a) (limbs b)) (mkP (limbs a) (limbs b)) w) := by
  have hz' : decide ((a : Int) < 0) = false := decide_eq_false (by omega)
  have hy' : decide ((b : Int) < 0) = false := decide_eq_false (by omega)
  have hwa : IntKind.u64.wrap (a : Int) = (a : Int) := wrap_inu (by omega) (by omega)
  have hwb : IntKind.u64.wrap (b : Int) = (b : Int) := wrap_inu (by omega) (by omega)
  have HA : Hid (a < 18446744073709551616) := by show _ < _; omega
  have HB : Hid (b < 18446744073709551616) := by show _ < _; omega
  clear ha hb
  obtain ⟨E, hE⟩ : ∃ E, E = divE (limbs a) (limbs b) := ⟨_, rfl⟩
  obtain ⟨p, hp⟩ : ∃ p, p = mkP (limbs a) (limbs b) := ⟨_, rfl⟩
  rw [← hE, ← hp]
  have HE := Lib.hid hE; have HPP := Lib.hid hp; clear hE hp
  go_enter Tryz.func12, Tryz.ntmps12
  go_wp2_with fail
  obtain ⟨w1, hw1, HK1, HBB, hz1⟩ := start2 w 25
  rw [← hw1]
  clear hw1
  refine (of_any a w1 HA.out).mono ?_
  rintro e w2 ⟨va, rfl, h1, -, h2⟩
  have HVA := Lib.hid h1; have HK2 := Lib.hid h2; clear h1 h2
  go_wp2_with fail
  refine (of_any b w2 HB.out).mono ?_
  rintro e w3 ⟨vb, rfl, h1, -, h2⟩
  have HVB := Lib.hid h1; have HK3 := Lib.hid h2; clear h1 h2
  go_wp2_with fail
  refine (Make_any (HVA.out.keep HK3.out) HVB.out).mono ?_
  rw [← HE.out, ← HPP.out]
  intro e w4 hq
  obtain ⟨⟨vn, vd, rfl, h1, h2, h3, h4⟩, hk⟩ := hq
  have HN := Lib.hid h1; have HD := Lib.hid h2; have HNN := Lib.hid h3; have HDN := Lib.hid h4; have HK4 := Lib.hid (Kp.trans (Kp.trans HK2.out HK3.out) hk); have HS := Lib.hid (Nat.le_trans HK2.out.size HK3.out.size); clear h1 h2 h3 h4 hk
  obtain ⟨no, nl, nc, rfl⟩ := HN.out.open3
  obtain ⟨do', dl, dc, rfl⟩ := HD.out.open3
  have hT := HBB.out.keep HK4.out
  have hP := Put.made hT (.slice no nl nc) (.slice do' dl dc)
  obtain ⟨w5, hw5⟩ : ∃ w5, w5 = (w4.setCell ⟨w.heap.size, 0, none⟩ (.slice no nl nc)).setCell ⟨w.heap.size, 1, none⟩ (.slice do' dl dc) := ⟨_, rfl⟩
  rw [← hw5] at hP
  have HW5 := Lib.hid hw5
  have HP := Lib.hid hP
  have f0 := hT.free 0
  have c0 := hT.c0
  have f1 := (hT.set0 (.slice no nl nc)).free 1
  have c1 := (hT.set0 (.slice no nl nc)).c1
  clear hT hw5 hP
  go_wp2_with fail
  have hP' := HP.out
  rw [← HW5.out]
  clear c0 c1 f0 f1
  have c0 := hP'.two.c0
  have c1 := hP'.two.c1
  have FIN2 : MkR E p w (.returned (.tuple #[.agg #[.slice no nl nc, .slice do' dl dc], .int .i64 E])) w5 :=
    ⟨⟨_, _, rfl, HN.out.only hP'.only (HNN.out.offs (Nat.lt_of_lt_of_le hz1 HS.out) _), HD.out.only hP'.only (HDN.out.offs (Nat.lt_of_lt_of_le hz1 HS.out) _), HNN.out.mono (Nat.le_trans HK1.out.size HS.out), HDN.out.mono (Nat.le_trans HK1.out.size HS.out)⟩, hP'.only.kp (Kp.trans HK1.out HK4.out) (Nat.le_refl _)⟩
  exact bodyPost_ret (by simp [results, Tryz.results12, go_sem, c0, c1]) rfl FIN2
set_option maxRecDepth 100000 in
theorem rOf_neg {z y : Int} {w : World} (h : z < 0 ∨ y < 0) : Calls Tryz.prog 13 #[.int .i64 z, .int .i64 y] w (MkR 5 (0, 0) w) := by
  by_cases hz : z < 0
  · have hz' : decide (z < 0) = true := decide_eq_true hz
    clear hz h
    have hT := Two.new w 25 (Value.slice none 0 0) (Value.slice none 0 0)
    have HK1 : Hid (Kp w (w.alloc (Obj.cells #[Value.slice none 0 0, Value.slice none 0 0] 25))) := Kp.alloc (Kp.refl _) _
    have c0 := hT.c0
    have c1 := hT.c1
    clear hT
    go_enter Tryz.func13, Tryz.ntmps13
    go_wp2_with fail
    exact bodyPost_ret (by simp [results, Tryz.results13, go_sem]) rfl
      ⟨⟨_, _, rfl, Sl.nil _, Sl.nil _, New.nil _, New.nil _⟩, HK1.out⟩
  · have hz' : decide (z < 0) = false := decide_eq_false hz
    have hy' : decide (y < 0) = true := decide_eq_true (by omega)
    clear hz h
    have hT := Two.new w 25 (Value.slice none 0 0) (Value.slice none 0 0)
    have HK1 : Hid (Kp w (w.alloc (Obj.cells #[Value.slice none 0 0, Value.slice none 0 0] 25))) := Kp.alloc (Kp.refl _) _
    have c0 := hT.c0
    have c1 := hT.c1
    clear hT
    go_enter Tryz.func13, Tryz.ntmps13
    go_wp2_with fail
    exact bodyPost_ret (by simp [results, Tryz.results13, go_sem]) rfl
      ⟨⟨_, _, rfl, Sl.nil _, Sl.nil _, New.nil _, New.nil _⟩, HK1.out⟩
set_option maxRecDepth 100000 in
theorem rOf_ok {a b : Nat} {w : World} (ha : a < 9223372036854775808) (hb : b < 9223372036854775808) : Calls Tryz.prog 13 #[.int .i64 a, .int .i64 b] w (MkR (divE (limbs a) (limbs b)) (mkP (limbs a) (limbs b)) w) := by
  have hz' : decide ((a : Int) < 0) = false := decide_eq_false (by omega)
  have hy' : decide ((b : Int) < 0) = false := decide_eq_false (by omega)
  have hwa : IntKind.u64.wrap (a : Int) = (a : Int) := wrap_inu (by omega) (by omega)
  have hwb : IntKind.u64.wrap (b : Int) = (b : Int) := wrap_inu (by omega) (by omega)
  have HA : Hid (a < 18446744073709551616) := by show _ < _; omega
  have HB : Hid (b < 18446744073709551616) := by show _ < _; omega
  clear ha hb
  obtain ⟨E, hE⟩ : ∃ E, E = divE (limbs a) (limbs b) := ⟨_, rfl⟩
  obtain ⟨p, hp⟩ : ∃ p, p = mkP (limbs a) (limbs b) := ⟨_, rfl⟩
  rw [← hE, ← hp]
  have HE := Lib.hid hE; have HPP := Lib.hid hp; clear hE hp
  go_enter Tryz.func13, Tryz.ntmps13
  go_wp2_with fail
  obtain ⟨w1, hw1, HK1, HBB, hz1⟩ := start2 w 25
  rw [← hw1]
  clear hw1
  refine (rof_any a w1 HA.out).mono ?_
  rintro e w2 ⟨va, rfl, h1, -, h2⟩
  have HVA := Lib.hid h1; have HK2 := Lib.hid h2; clear h1 h2
  go_wp2_with fail
  refine (rof_any b w2 HB.out).mono ?_
  rintro e w3 ⟨vb, rfl, h1, -, h2⟩
  have HVB := Lib.hid h1; have HK3 := Lib.hid h2; clear h1 h2
  go_wp2_with fail
  refine (rMake_any (HVA.out.keep HK3.out) HVB.out).mono ?_
  rw [← HE.out, ← HPP.out]
  intro e w4 hq
  obtain ⟨⟨vn, vd, rfl, h1, h2, h3, h4⟩, hk⟩ := hq
  have HN := Lib.hid h1; have HD := Lib.hid h2; have HNN := Lib.hid h3; have HDN := Lib.hid h4; have HK4 := Lib.hid (Kp.trans (Kp.trans HK2.out HK3.out) hk); have HS := Lib.hid (Nat.le_trans HK2.out.size HK3.out.size); clear h1 h2 h3 h4 hk
  obtain ⟨no, nl, nc, rfl⟩ := HN.out.open3
  obtain ⟨do', dl, dc, rfl⟩ := HD.out.open3
  have hT := HBB.out.keep HK4.out
  have hP := Put.made hT (.slice no nl nc) (.slice do' dl dc)
  obtain ⟨w5, hw5⟩ : ∃ w5, w5 = (w4.setCell ⟨w.heap.size, 0, none⟩ (.slice no nl nc)).setCell ⟨w.heap.size, 1, none⟩ (.slice do' dl dc) := ⟨_, rfl⟩
  rw [← hw5] at hP
  have HW5 := Lib.hid hw5
  have HP := Lib.hid hP
  have f0 := hT.free 0
  have c0 := hT.c0
  have f1 := (hT.set0 (.slice no nl nc)).free 1
  have c1 := (hT.set0 (.slice no nl nc)).c1
  clear hT hw5 hP
  go_wp2_with fail
  have hP' := HP.out
  rw [← HW5.out]
  clear c0 c1 f0 f1
  have c0 := hP'.two.c0
  have c1 := hP'.two.c1
  have FIN2 : MkR E p w (.returned (.tuple #[.agg #[.slice no nl nc, .slice do' dl dc], .int .i64 E])) w5 :=
    ⟨⟨_, _, rfl, HN.out.only hP'.only (HNN.out.offs (Nat.lt_of_lt_of_le hz1 HS.out) _), HD.out.only hP'.only (HDN.out.offs (Nat.lt_of_lt_of_le hz1 HS.out) _), HNN.out.mono (Nat.le_trans HK1.out.size HS.out), HDN.out.mono (Nat.le_trans HK1.out.size HS.out)⟩, hP'.only.kp (Kp.trans HK1.out HK4.out) (Nat.le_refl _)⟩
  exact bodyPost_ret (by simp [results, Tryz.results13, go_sem, c0, c1]) rfl FIN2
end Go.Proofs.YtfcpfmjoelhlnaaGreatDoor
