/- A fraction's text cut at its stroke, and read back. Condition: the numbers have at most 8 limbs and are in lowest terms. -/
import Derived.Test.YtgpochhndjadhaaGreatDoorFFmt
import Derived.Test.YtgpochhndjadhaaGreatDoorAwake
import Derived.Test.YtgpochhndjadhaaGreatDoorMMk
namespace Go.Proofs.YtgpochhndjadhaaGreatDoor
open Go.RowKit LimbN
set_option linter.unusedVariables false
set_option linter.unusedSimpArgs false

theorem ib_none {l : List UInt8} (h : ∀ x ∈ l, x ≠ 47) : Lib.indexByte l 47 = -1 := by
  induction l with
  | nil => rfl
  | cons b l ih =>
    have h1 : (b == 47) = false := beq_eq_false_iff_ne.2 (h b (by simp))
    have h2 := ih (fun x hx => h x (by simp [hx]))
    unfold Lib.indexByte
    rw [h1, h2]
    rfl
theorem ib_at {l m : List UInt8} (h : ∀ x ∈ l, x ≠ 47) : Lib.indexByte (l ++ 47 :: m) 47 = (l.length : Int) := by
  induction l with
  | nil => rfl
  | cons b l ih =>
    have h1 : (b == 47) = false := beq_eq_false_iff_ne.2 (h b (by simp))
    have h2 := ih (fun x hx => h x (by simp [hx]))
    show Lib.indexByte (b :: (l ++ 47 :: m)) 47 = _
    unfold Lib.indexByte
    rw [h1, h2]
    have h3 : ((l.length : Int) == -1) = false := beq_eq_false_iff_ne.2 (by omega)
    simp [h3]
theorem bsize (l : List UInt8) : (⟨l.toArray⟩ : ByteArray).size = l.length := rfl
theorem bext {s t : ByteArray} (h : s.data.toList = t.data.toList) : s = t := by
  obtain ⟨⟨a⟩⟩ := s
  obtain ⟨⟨b⟩⟩ := t
  simp only at h
  rw [h]
theorem ext_to (l m : List UInt8) : (⟨(l ++ m).toArray⟩ : ByteArray).extract 0 l.length = ⟨l.toArray⟩ := by
  apply bext
  rw [ByteArray.data_extract]
  simp
theorem ext_from (l : List UInt8) (c : UInt8) (m : List UInt8) : (⟨(l ++ c :: m).toArray⟩ : ByteArray).extract (l.length + 1) (l.length + 1 + m.length) = ⟨m.toArray⟩ := by
  apply bext
  rw [ByteArray.data_extract]
  simp
set_option maxRecDepth 100000 in
theorem slCut_none (l : List UInt8) (h : ∀ x ∈ l, x ≠ 47) (w : World) :
    Calls Tryz.prog 112 #[.string ⟨l.toArray⟩, .string ⟨#[47]⟩] w fun e w' => e = .returned (.tuple #[.string ⟨l.toArray⟩, .string ⟨#[]⟩, .bool false]) ∧ w' = w := by
  have hi := ib_none h
  obtain ⟨s, hs⟩ : ∃ s : ByteArray, s = ⟨l.toArray⟩ := ⟨_, rfl⟩
  have hi' : Lib.indexByte s.data.toList 47 = -1 := by rw [hs]; exact hi
  rw [← hs]
  have HI := Lib.hid hi'
  clear hi hi' hs h
  go_enter Tryz.func112, Tryz.ntmps112
  go_wp2_with fail
  refine (Tryz.stringslite_Index_one s 47 w).mono ?_
  rintro e w1 ⟨rfl, rfl⟩
  rw [HI.out]
  go_wp2_with fail
  go_ret3
  exact ⟨rfl, rfl⟩
set_option maxRecDepth 100000 in
theorem slCut_at (l m : List UInt8) (h : ∀ x ∈ l, x ≠ 47) (hl : l.length ≤ 1000000) (hm : m.length ≤ 1000000) (w : World) :
    Calls Tryz.prog 112 #[.string ⟨(l ++ 47 :: m).toArray⟩, .string ⟨#[47]⟩] w fun e w' => e = .returned (.tuple #[.string ⟨l.toArray⟩, .string ⟨m.toArray⟩, .bool true]) ∧ Kp w w' := by
  have hi := ib_at (m := m) h
  obtain ⟨s, hs⟩ : ∃ s : ByteArray, s = ⟨(l ++ 47 :: m).toArray⟩ := ⟨_, rfl⟩
  obtain ⟨k, hk⟩ : ∃ k, k = l.length := ⟨_, rfl⟩
  obtain ⟨j, hj⟩ : ∃ j, j = k + 1 := ⟨_, rfl⟩
  have hsz : s.size = l.length + 1 + m.length := by rw [hs]; simp [ByteArray.size]; omega
  have q1 : ∀ w : World, (Instr.slice 9 (.string s) none (some (.int .i64 (k : Int))) none).run Tryz.prog w = .ok (.string ⟨l.toArray⟩) w := fun w => by
    rw [run_slice_string_h w 9 s Tryz.underlying9 .i64 k (by omega) (by rw [hsz]; omega), Int.toNat_natCast, hs, hk, ext_to]
  have q2 : ∀ w : World, (Instr.slice 9 (.string s) (some (.int .i64 (j : Int))) none none).run Tryz.prog w = .ok (.string ⟨m.toArray⟩) w := fun w => by
    rw [run_slice_string_l w 9 s Tryz.underlying9 .i64 j (by omega) (by rw [hsz]; omega), Int.toNat_natCast, hj, hk, hsz, hs, ext_from]
  have q3 : ∀ w : World, (Builtin.len_ #[9] 3 #[.string ⟨#[47]⟩]).run Tryz.prog w = .ok (goInt 1) w := fun w => by rw [run_len_string w _ _ ⟨#[47]⟩ Tryz.underlying9]; rfl
  have ej : (k : Int) + 1 = (j : Int) := by omega
  have ej' : IntKind.i64.wrap (j : Int) = (j : Int) := by rw [IntKind.wrap_i64]; omega
  have hi' : Lib.indexByte s.data.toList 47 = (k : Int) := by rw [hs, hk]; exact hi
  rw [← hs]
  have HI := Lib.hid hi'
  obtain ⟨L, hL⟩ : ∃ L : ByteArray, L = ⟨l.toArray⟩ := ⟨_, rfl⟩
  obtain ⟨M, hM⟩ : ∃ M : ByteArray, M = ⟨m.toArray⟩ := ⟨_, rfl⟩
  rw [← hL] at q1 ⊢
  rw [← hM] at q2 ⊢
  clear hi hi' hs h hsz hL hM hk hj hm hl
  go_enter Tryz.func112, Tryz.ntmps112
  go_wp2_with fail
  refine (Tryz.stringslite_Index_one s 47 w).mono ?_
  rintro e w1 ⟨rfl, rfl⟩
  rw [HI.out]
  go_wp2_with fail
  go_quiet (fail)
  go_wp2_with fail
  go_ret3
  exact ⟨rfl, Kp.drewN _ _⟩
end Go.Proofs.YtgpochhndjadhaaGreatDoor

/- Parse of a fraction's own text gives the fraction. Condition: the numbers have at most 8 limbs and are in lowest terms. -/
namespace Go.Proofs.YtgpochhndjadhaaGreatDoor
open Go.RowKit LimbN
set_option linter.unusedVariables false
set_option linter.unusedSimpArgs false

theorem dec_ne (n : Nat) : ∀ x ∈ Lib.decDigits n, x ≠ 47 := by
  intro x hx e
  subst e
  obtain ⟨i, hi, he⟩ := List.getElem_of_mem hx
  have h := (num_dec n).2.2 i (by rw [decS, bsize]; exact hi)
  have hs : sb (decS n) i = 47 := by
    unfold sb decS
    show ((Lib.decDigits n).toArray[i]?.getD 0).toNat = 47
    rw [List.getElem?_toArray, List.getElem?_eq_getElem hi, he]
    rfl
  omega
theorem nparse_n {n : Nat} {w : World} (hl : (limbs n).length ≤ 128) (hs : (decS n).size ≤ 1300) : Calls Tryz.prog 78 #[.string (decS n)] w (One n w) := by
  refine (Parse_any (decS n) (by omega) w).mono ?_
  intro e w' h
  have h1 := h.good (by omega) (num_dec n)
  rw [pv_decS] at h1
  obtain ⟨v, rfl, hv, hn⟩ := h1.ok hl
  exact ⟨⟨v, rfl, hv, hn⟩, h1.kp⟩
theorem decS_one : decS 1 = ⟨#[49]⟩ := by
  unfold decS
  rw [Lib.decDigits_one (by omega)]
  rfl
theorem contains_dec (n : Nat) (w : World) : Calls Tryz.prog 79 #[.string (decS n), .string ⟨#[47]⟩] w fun e w' => e = .returned (.bool false) ∧ w' = w := by
  refine (Tryz.strings_Contains_one (decS n) 47 w).mono ?_
  rintro e w' ⟨rfl, rfl⟩
  refine ⟨?_, rfl⟩
  have : Lib.indexByte (decS n).data.toList 47 = -1 := ib_none (dec_ne n)
  rw [this]
  rfl
set_option maxRecDepth 100000 in
theorem sCut_none (s : ByteArray) (h : ∃ l : List UInt8, s = ⟨l.toArray⟩ ∧ ∀ x ∈ l, x ≠ 47) (w : World) :
    Calls Tryz.prog 77 #[.string s, .string ⟨#[47]⟩] w fun e w' => e = .returned (.tuple #[.string s, .string ⟨#[]⟩, .bool false]) ∧ w' = w := by
  obtain ⟨l, hs, h⟩ := h
  have C := Lib.hid (slCut_none l h)
  rw [← hs] at C
  clear hs h
  go_enter Tryz.func77, Tryz.ntmps77
  go_wp2_with fail
  refine (C.out w).mono ?_
  rintro e w' ⟨rfl, rfl⟩
  go_wp2_with fail
  go_ret3
  exact ⟨rfl, rfl⟩
set_option maxRecDepth 100000 in
theorem sCut_at (s L M : ByteArray) (h : ∃ l m : List UInt8, s = ⟨(l ++ 47 :: m).toArray⟩ ∧ L = ⟨l.toArray⟩ ∧ M = ⟨m.toArray⟩ ∧ (∀ x ∈ l, x ≠ 47) ∧ l.length ≤ 1000000 ∧ m.length ≤ 1000000) (w : World) :
    Calls Tryz.prog 77 #[.string s, .string ⟨#[47]⟩] w fun e w' => e = .returned (.tuple #[.string L, .string M, .bool true]) ∧ Kp w w' := by
  obtain ⟨l, m, hs, hL, hM, h, hl, hm⟩ := h
  have C := Lib.hid (slCut_at l m h hl hm)
  rw [← hs, ← hL, ← hM] at C
  clear hs h hL hM hl hm
  go_enter Tryz.func77, Tryz.ntmps77
  go_wp2_with fail
  refine (C.out w).mono ?_
  rintro e w' ⟨rfl, hk⟩
  have HK := Lib.hid hk
  clear hk
  go_wp2_with fail
  go_ret3
  exact ⟨rfl, HK.out⟩
set_option maxRecDepth 100000 in
set_option maxHeartbeats 2000000 in
theorem FParse_n {n d : Nat} {w : World} (l1 : (limbs n).length ≤ 8) (l2 : (limbs d).length ≤ 8) (d0 : d ≠ 0) (hg : Nat.gcd n d = 1) :
    Calls Tryz.prog 35 #[.string (fracS n d)] w (MkR 0 (n, d) w) := by
  have z1 := dec_size n 8 (by decide) (limbs_len_le.1 l1)
  have z2 := dec_size d 8 (by decide) (limbs_len_le.1 l2)
  have m1 : (limbs n).length ≤ 128 := Nat.le_trans l1 (by decide)
  have m2 : (limbs d).length ≤ 128 := Nat.le_trans l2 (by decide)
  obtain ⟨S, hS⟩ : ∃ S, S = fracS n d := ⟨_, rfl⟩
  have hsz : S.size ≤ 200 := by
    rw [hS]; unfold fracS; split
    · omega
    · rw [ByteArray.size_append, ByteArray.size_append]
      have : (⟨#[47]⟩ : ByteArray).size = 1 := rfl
      omega
  rw [← hS]
  obtain ⟨zl, ez⟩ : ∃ zl, zl = S.size := ⟨_, rfl⟩
  rw [← ez] at hsz
  have q0 : ∀ w : World, (Builtin.len_ #[9] 3 #[.string S]).run Tryz.prog w = .ok (goInt zl) w := fun w => by rw [run_len_string w _ _ S Tryz.underlying9, ez]
  have P1 : Hid (∀ w, Calls Tryz.prog 78 #[.string (decS n)] w (One n w)) := fun w => nparse_n m1 (by omega)
  have P2 : Hid (∀ w, Calls Tryz.prog 78 #[.string (decS d)] w (One d w)) := fun w => nparse_n m2 (by omega)
  have CN := Lib.hid (contains_dec d)
  have HMK := Lib.hid (mk_n m1 m2 d0)
  have HLOW := Lib.hid (FracN.low_self hg)
  obtain ⟨sn, en⟩ : ∃ sn, sn = decS n := ⟨_, rfl⟩
  obtain ⟨sd, ed⟩ : ∃ sd, sd = decS d := ⟨_, rfl⟩
  rw [← en] at P1 z1
  rw [← ed] at P2 CN z2
  obtain ⟨w1, hw1, HK1, HB1, hz1⟩ := start2 w 25
  have HW1 := Lib.hid hw1
  by_cases h1 : d = 1
  · have hcut : Hid (∀ w, Calls Tryz.prog 77 #[.string S, .string ⟨#[47]⟩] w fun e w' => e = .returned (.tuple #[.string sn, .string ⟨#[]⟩, .bool false]) ∧ w' = w) := fun w => by
      have e1 : S = sn := by rw [hS, en]; unfold fracS; rw [if_pos h1]
      have := sCut_none S ⟨Lib.decDigits n, by rw [e1, en]; rfl, dec_ne n⟩ w
      rwa [e1] at this ⊢
    have hsd : sd = ⟨#[49]⟩ := by rw [ed, h1]; exact decS_one
    rw [hsd] at P2 CN
    clear ez hS en ed z1 z2 hw1 h1 hsd m1 m2 l1 l2 hg d0
    go_enter Tryz.func35, Tryz.ntmps35
    go_wp2_with fail
    rw [← HW1.out]
    refine (hcut.out w1).mono ?_
    rintro e w2 ⟨rfl, rfl⟩
    have HK2 := Lib.hid (Kp.refl w2)
    go_wp2_with fail
    refine (P1.out w2).mono ?_
    intro e w3 hq
    obtain ⟨⟨v1, rfl, h1, -⟩, hk⟩ := hq
    have H1 := Lib.hid h1; have HK3 := Lib.hid (Kp.trans HK2.out hk)
    clear h1 hk
    go_wp2_with fail
    refine (P2.out w3).mono ?_
    intro e w4 hq
    obtain ⟨⟨v2, rfl, h2, -⟩, hk⟩ := hq
    have H2 := Lib.hid h2; have H14 := Lib.hid (H1.out.keep hk); have HK4 := Lib.hid (Kp.trans HK3.out hk)
    clear h2 hk
    go_wp2_with fail
    refine (CN.out w4).mono ?_
    rintro e w5 ⟨rfl, rfl⟩
    go_wp2_with fail
    refine (Make_any H14.out H2.out).mono ?_
    rw [HMK.out.1, HMK.out.2, HLOW.out]
    intro e w6 hq
    obtain ⟨⟨u1, u2, rfl, h1, h2, n1, n2⟩, hk⟩ := hq
    obtain ⟨no, nl, nc, rfl⟩ := h1.open3
    obtain ⟨zo, zc', zc, rfl⟩ := h2.open3
    have hT := HB1.out.keep (Kp.trans HK4.out hk)
    have hP := Put.made hT (.slice no nl nc) (.slice zo zc' zc)
    have f0 := hT.free 0; have c0 := hT.c0; have f1 := (hT.set0 (.slice no nl nc)).free 1; have c1 := (hT.set0 (.slice no nl nc)).c1
    obtain ⟨wz, hwz⟩ : ∃ wz, wz = (w6.setCell ⟨w.heap.size, 0, none⟩ (.slice no nl nc)).setCell ⟨w.heap.size, 1, none⟩ (.slice zo zc' zc) := ⟨_, rfl⟩
    rw [← hwz] at hP
    have hlt := Nat.lt_of_lt_of_le hz1 HK4.out.size
    have o1 := h1.only hP.only (n1.offs hlt _)
    have o2 := h2.only hP.only (n2.offs hlt _)
    have FIN : MkR 0 (n, d) w (.returned (.tuple #[.agg #[.slice no nl nc, .slice zo zc' zc], .int .i64 0])) wz :=
      ⟨⟨_, _, rfl, o1, o2, n1.mono (Nat.le_of_lt hlt), n2.mono (Nat.le_of_lt hlt)⟩, hP.only.kp (Kp.trans HK1.out (Kp.trans HK4.out hk)) (Nat.le_refl _)⟩
    have HF := Lib.hid FIN; have HP := Lib.hid hP; have HWZ := Lib.hid hwz
    clear FIN hP hwz o1 o2 hT h1 h2 n1 n2 hk hlt
    go_wp2_with fail
    rw [← HWZ.out]
    clear c0 c1 f0 f1
    have c0 := HP.out.two.c0
    have c1 := HP.out.two.c1
    exact bodyPost_ret (by simp [results, Tryz.results35, go_sem, c0, c1]) rfl HF.out
  · have hcut : Hid (∀ w, Calls Tryz.prog 77 #[.string S, .string ⟨#[47]⟩] w fun e w' => e = .returned (.tuple #[.string sn, .string sd, .bool true]) ∧ Kp w w') := fun w => by
      refine sCut_at S sn sd ⟨Lib.decDigits n, Lib.decDigits d, ?_, en, ed, dec_ne n, ?_, ?_⟩ w
      · rw [hS]; unfold fracS; rw [if_neg h1]
        apply bext
        simp [decS, ByteArray.data_append]
      · have : (Lib.decDigits n).length = sn.size := by rw [en]; rfl
        omega
      · have : (Lib.decDigits d).length = sd.size := by rw [ed]; rfl
        omega
    clear ez hS en ed z1 z2 hw1 h1 m1 m2 l1 l2 hg d0
    go_enter Tryz.func35, Tryz.ntmps35
    go_wp2_with fail
    rw [← HW1.out]
    refine (hcut.out w1).mono ?_
    rintro e w2 ⟨rfl, hk⟩
    have HK2 := Lib.hid hk
    clear hk
    go_wp2_with fail
    refine (P1.out w2).mono ?_
    intro e w3 hq
    obtain ⟨⟨v1, rfl, h1, -⟩, hk⟩ := hq
    have H1 := Lib.hid h1; have HK3 := Lib.hid (Kp.trans HK2.out hk)
    clear h1 hk
    go_wp2_with fail
    refine (P2.out w3).mono ?_
    intro e w4 hq
    obtain ⟨⟨v2, rfl, h2, -⟩, hk⟩ := hq
    have H2 := Lib.hid h2; have H14 := Lib.hid (H1.out.keep hk); have HK4 := Lib.hid (Kp.trans HK3.out hk)
    clear h2 hk
    go_wp2_with fail
    refine (CN.out w4).mono ?_
    rintro e w5 ⟨rfl, rfl⟩
    go_wp2_with fail
    refine (Make_any H14.out H2.out).mono ?_
    rw [HMK.out.1, HMK.out.2, HLOW.out]
    intro e w6 hq
    obtain ⟨⟨u1, u2, rfl, h1, h2, n1, n2⟩, hk⟩ := hq
    obtain ⟨no, nl, nc, rfl⟩ := h1.open3
    obtain ⟨zo, zc', zc, rfl⟩ := h2.open3
    have hT := HB1.out.keep (Kp.trans HK4.out hk)
    have hP := Put.made hT (.slice no nl nc) (.slice zo zc' zc)
    have f0 := hT.free 0; have c0 := hT.c0; have f1 := (hT.set0 (.slice no nl nc)).free 1; have c1 := (hT.set0 (.slice no nl nc)).c1
    obtain ⟨wz, hwz⟩ : ∃ wz, wz = (w6.setCell ⟨w.heap.size, 0, none⟩ (.slice no nl nc)).setCell ⟨w.heap.size, 1, none⟩ (.slice zo zc' zc) := ⟨_, rfl⟩
    rw [← hwz] at hP
    have hlt := Nat.lt_of_lt_of_le hz1 HK4.out.size
    have o1 := h1.only hP.only (n1.offs hlt _)
    have o2 := h2.only hP.only (n2.offs hlt _)
    have FIN : MkR 0 (n, d) w (.returned (.tuple #[.agg #[.slice no nl nc, .slice zo zc' zc], .int .i64 0])) wz :=
      ⟨⟨_, _, rfl, o1, o2, n1.mono (Nat.le_of_lt hlt), n2.mono (Nat.le_of_lt hlt)⟩, hP.only.kp (Kp.trans HK1.out (Kp.trans HK4.out hk)) (Nat.le_refl _)⟩
    have HF := Lib.hid FIN; have HP := Lib.hid hP; have HWZ := Lib.hid hwz
    clear FIN hP hwz o1 o2 hT h1 h2 n1 n2 hk hlt
    go_wp2_with fail
    rw [← HWZ.out]
    clear c0 c1 f0 f1
    have c0 := HP.out.two.c0
    have c1 := HP.out.two.c1
    exact bodyPost_ret (by simp [results, Tryz.results35, go_sem, c0, c1]) rfl HF.out
end Go.Proofs.YtgpochhndjadhaaGreatDoor
