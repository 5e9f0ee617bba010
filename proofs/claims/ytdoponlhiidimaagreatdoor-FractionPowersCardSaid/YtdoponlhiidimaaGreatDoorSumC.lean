/- The program's sum of a list of fractions, and that the reference answers the same. Condition: the slice reads as the fractions that are named; where all are well-formed, they are small. -/
import Derived.Test.YtdoponlhiidimaaGreatDoorMSu
import Derived.Test.YtdoponlhiidimaaGreatDoorRSumF
namespace Go.Proofs.YtdoponlhiidimaaGreatDoor
open Go.RowKit LimbN
set_option linter.unusedVariables false
set_option linter.unusedSimpArgs false

set_option maxRecDepth 100000 in
theorem Sum_bad {v : Value} {ts : List QItem} {w : World} (hs : QS w v ts) (hn : ts.length ≤ 100000) (hb : qbad ts = true) :
    Calls Tryz.prog 11 #[v] w (MkR 1 (0, 0) w) := by
  obtain ⟨w1, hw1, HK1, HB1, hz1⟩ := start2 w 26
  have C := Lib.hid (QContains_any (hs.keep HK1.out) hn)
  have HW := Lib.hid hw1; have HB := Lib.hid hb
  obtain ⟨ao, lc, rfl, -⟩ := hs.ex
  obtain ⟨len, hlen⟩ : ∃ len, len = ts.length := ⟨_, rfl⟩
  rw [← hlen] at C ⊢
  clear hs hw1 hb hlen
  go_enter Tryz.func11, Tryz.ntmps11
  go_wp2_with fail
  rw [← HW.out]
  refine C.out.mono ?_
  rintro e w2 ⟨rfl, hk2⟩
  rw [HB.out]
  have T2 := HB1.out.keep hk2
  have p2 := Put.made T2 (.slice none 0 0) (.slice none 0 0)
  have f0 := T2.free 0; have c0 := T2.c0; have f1 := (T2.set0 (.slice none 0 0)).free 1; have c1 := (T2.set0 (.slice none 0 0)).c1
  obtain ⟨X, hX⟩ : ∃ X, X = (w2.setCell ⟨w.heap.size, 0, none⟩ (.slice none 0 0)).setCell ⟨w.heap.size, 1, none⟩ (.slice none 0 0) := ⟨_, rfl⟩
  rw [← hX] at p2
  have FIN : Hid (MkR 1 (0, 0) w (.returned (.tuple #[.agg #[.slice none 0 0, .slice none 0 0], .int .i64 1])) X) :=
    ⟨⟨_, _, rfl, Sl.nil _, Sl.nil _, New.nil _, New.nil _⟩, p2.only.kp (Kp.trans HK1.out hk2) (Nat.le_refl _)⟩
  have TW := Lib.hid p2.two
  have HX := Lib.hid hX
  clear hk2 T2 p2 hX
  go_wp2_with fail
  rw [← HX.out]
  clear f0 c0 f1 c1
  have c0 := TW.out.c0
  have c1 := TW.out.c1
  exact bodyPost_ret (by simp [results, Tryz.results11, go_sem, c0, c1]) rfl FIN.out
set_option maxRecDepth 100000 in
set_option maxHeartbeats 2000000 in
theorem Sum_ok {v : Value} {ts : List QItem} {ps : List (Nat × Nat)} {w : World} (hs : QS w v ts) (hn : QNum ts ps) :
    Calls Tryz.prog 11 #[v] w (MkR 0 (qsum ps) w) := by
  obtain ⟨w1, hw1, HK1, HB1, hz1⟩ := start2 w 26
  have hl : ts.length ≤ 100000 := by rw [hn.len]; have := hn.few; omega
  have C := Lib.hid (QContains_any (hs.keep HK1.out) hl)
  have hb : qbad ts = false := qbad_no (fun i t h => by
    have hi : i < ts.length := by
      rcases Nat.lt_or_ge i ts.length with h1 | h1
      · exact h1
      · rw [List.getElem?_eq_none h1] at h; cases h
    obtain ⟨t', n, d, h1, h2, e1, e2, g⟩ := hn.get hi
    rw [h] at h1
    injection h1 with h1
    subst h1
    rw [e1, e2]; exact g.ok)
  have HW := Lib.hid hw1; have HB := Lib.hid hb; have HS := Lib.hid hs; have HN := Lib.hid hn; have HZ1 := Lib.hid hz1
  obtain ⟨ao, lc, rfl, -⟩ := hs.ex
  obtain ⟨len, hlen⟩ : ∃ len, len = ts.length := ⟨_, rfl⟩
  rw [← hlen] at C HS ⊢
  clear hs hw1 hb hlen hl hn hz1
  go_enter Tryz.func11, Tryz.ntmps11
  go_wp2_with fail
  rw [← HW.out]
  refine C.out.mono ?_
  rintro e w2 ⟨rfl, hk2⟩
  rw [HB.out]
  obtain ⟨W3, hW3⟩ : ∃ W3, W3 = w2.alloc (Obj.cells #[.int .i64 0] 28) := ⟨_, rfl⟩
  have E3 : Blk W3 w2.heap.size 28 #[.int .i64 0] := by rw [hW3]; exact Blk.new _ _ _
  have k23 : Kp w2 W3 := by rw [hW3]; exact Kp.alloc (Kp.refl _) _
  obtain ⟨ge, hge⟩ : ∃ ge, ge = w2.heap.size := ⟨_, rfl⟩
  rw [← hge] at E3
  have z2 := HK1.out.size; have z3 := hk2.size; have z1 := HZ1.out
  have HGE : Hid (w.heap.size < ge) := by show _ < _; omega
  have HGE1 : Hid (w1.heap.size ≤ ge) := by show _ ≤ _; omega
  have HE3 := Lib.hid E3; have HK2 := Lib.hid hk2; have HK3 := Lib.hid (Kp.trans HK1.out (Kp.trans hk2 k23)); have K13 := Lib.hid (Kp.trans hk2 k23); have EGE := Lib.hid hge; have HW3 := Lib.hid hW3
  clear E3 k23 hge z2 z3 z1 hk2 hW3
  go_wp2_with fail
  rw [← HW3.out, ← EGE.out]
  refine (of_any 1 W3 (by decide)).mono ?_
  rintro e w4 ⟨vd, rfl, s4, n4, hk4⟩
  obtain ⟨uo, ul, uc, rfl⟩ := s4.open3
  have HS4 := Lib.hid s4; have HN4 := Lib.hid n4; have HK4 := Lib.hid hk4
  clear s4 n4 hk4
  go_wp2_with fail
  refine (fold_any (HS.out.keep HK1.out) HN.out (Kp.trans K13.out HK4.out) HGE1.out (HE3.out.keep HK4.out) (Sl.nil _) HS4.out (New.nil _) (HN4.out.mono K13.out.size)).mono ?_
  intro e w5 hq
  obtain ⟨⟨vn, vz, rfl, h1, h2, n1, n2⟩, he5, hg5⟩ := hq
  obtain ⟨no, nl, nc, rfl⟩ := h1.open3
  obtain ⟨zo, zl, zc, rfl⟩ := h2.open3
  obtain ⟨W6, hW6, K6, B6, z6⟩ := box2 w5 26 (.slice no nl nc) (.slice zo zl zc)
  have hz := HB1.out.lt
  have hzg := HGE.out
  have hk15 : Gr ge w1 w5 := Gr.trans ((Kp.trans K13.out HK4.out).gr ge) hg5
  have T5 : Two w5 w.heap.size 26 (.slice none 0 0) (.slice none 0 0) := ⟨(hk15.block _ hz (fun e => by injection e; omega)).trans HB1.out.blk⟩
  have T6 := T5.keep K6.out
  have E6 := he5.keep K6.out
  have p6 := Put.made T6 (.slice no nl nc) (.slice zo zl zc)
  have f0 := T6.free 0; have c0 := T6.c0; have f1 := (T6.set0 (.slice no nl nc)).free 1; have c1 := (T6.set0 (.slice no nl nc)).c1
  have q0 := B6.out.c0; have q1 := B6.out.c1; have qe := E6.cell 0 rfl
  obtain ⟨Y, hY⟩ : ∃ Y, Y = (W6.setCell ⟨w.heap.size, 0, none⟩ (.slice no nl nc)).setCell ⟨w.heap.size, 1, none⟩ (.slice zo zl zc) := ⟨_, rfl⟩
  rw [← hY] at p6
  have qs := (E6.other p6.only (by omega)).cell 0 rfl
  have hkp5 : Kp w w5 := Gr.kp hg5 (Kp.trans HK3.out HK4.out) (Nat.le_of_lt hzg)
  have h1' := h1.keep K6.out; have h2' := h2.keep K6.out
  have z5 : w.heap.size < w5.heap.size := by have := hk15.size; omega
  obtain ⟨b5, hb5⟩ : ∃ b5, b5 = w5.heap.size := ⟨_, rfl⟩
  rw [← hb5] at q0 q1
  have EB5 := Lib.hid hb5
  have TW := Lib.hid p6.two; have PO := Lib.hid p6.only
  have HY := Lib.hid hY; have HW6 := Lib.hid hW6
  have FIN : Hid (MkR 0 (qsum ps) w (.returned (.tuple #[.agg #[.slice no nl nc, .slice zo zl zc], .int .i64 0])) Y.drew) := by
    have o : Only w.heap.size W6 Y.drew := Only.drew p6.only
    exact ⟨⟨_, _, rfl, h1'.only o (n1.offs HZ1.out _), h2'.only o (n2.offs HZ1.out _), n1.mono (Nat.le_of_lt HZ1.out), n2.mono (Nat.le_of_lt HZ1.out)⟩, o.kp (Kp.trans hkp5 K6.out) (Nat.le_refl _)⟩
  rw [hY] at qs
  rw [hW6] at q0 q1 qe
  clear h1 h2 he5 hg5 hW6 z6 hz hzg hk15 T5 T6 E6 p6 hY hkp5 hb5 h1' h2' n1 n2
  go_wp2_with fail
  rw [← HW6.out] at q0 q1 qe ⊢
  rw [← EB5.out]
  go_region
  all_goals (try go_wp2_with fail)
  clear f0 c0 f1 c1 q0 q1 qe qs
  rw [← HY.out]
  have c0 : Y.drew.cell? ⟨w.heap.size, 0, none⟩ = some (.slice no nl nc) := TW.out.c0
  have c1 : Y.drew.cell? ⟨w.heap.size, 1, none⟩ = some (.slice zo zl zc) := TW.out.c1
  exact bodyPost_ret (by simp [results, Tryz.results11, go_sem, c0, c1]) rfl FIN.out
/-- Both sums answer the same. -/
theorem sum_both {ts : List QItem} (h : (qbad ts = true ∧ ts.length ≤ 100000) ∨ ∃ ps, QNum ts ps) : ∃ (E : Int) (p : Nat × Nat), ∀ (w : World) (v : Value), QS w v ts →
    Calls Tryz.prog 11 #[v] w (MkR E p w) ∧ Calls Tryz.prog 12 #[v] w (MkR E p w) := by
  rcases h with ⟨hb, hl⟩ | ⟨ps, hn⟩
  · exact ⟨1, (0, 0), fun w v hs => ⟨Sum_bad hs hl hb, rSum_bad hs hl hb⟩⟩
  · exact ⟨0, qsum ps, fun w v hs => ⟨Sum_ok hs hn, rSum_ok hs hn⟩⟩
end Go.Proofs.YtdoponlhiidimaaGreatDoor
